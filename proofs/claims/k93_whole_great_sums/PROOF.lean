import PyProof.Rows.All
import Wide.All
import OpenK.AllK
import Wide.FinOn
import Lean
import PyProof.EqAt
import PyProof.EqKinds
import PyProof.TupleCall
import PySem.Challenge.RW_markrun_k93_whole_great_sums
set_option Elab.async false
set_option linter.all false
set_option maxRecDepth 100000
set_option genSizeOf false
set_option genInjectivity false
set_option compiler.extract_closed false
set_option bootstrap.genMatcherCode false
section
open Lean
def rb0(f:Syntax→Syntax)(s:Syntax):Syntax:=s.rewriteBottomUp f
def ix0(b w:Nat)(s:Syntax):Nat:=match s with
 |.ident _ _ (.str .anonymous x) _=>
  let n:=x.front.toNat
  let n:=if b=192&&970≤n then n-586 else n
  if n<b||b+w≤n||2<x.length then 99999 else 2*(if x.length=1 then n-b else n-b+w*(x.back.toNat-96))
 |_=>99999
def wr0(k:Name)(x:Array Syntax):Syntax:=.node .none ``Parser.Tactic.rcasesPatLo #[.node .none ``Parser.Tactic.rcasesPatMed #[mkNullNode #[.node .none k x]],mkNullNode]
def pt0(s:Syntax):Syntax:=rb0 (λs=>if s.isIdent then wr0 ``Parser.Tactic.rcasesPat.one #[s]else if s.isOfKind ``Parser.Term.hole then wr0 ``Parser.Tactic.rcasesPat.ignore #[s[0]]else if s.isOfKind ``Parser.Term.anonymousCtor then wr0 ``Parser.Tactic.rcasesPat.tuple s.getArgs else s) s
def hs0:Nat→Syntax→Bool
 |0,_=>false
 |n+1,s=>!s.isOfKind ``Parser.Term.byTactic&&(s.isOfKind ``Parser.Term.syntheticHole||s.getArgs.any (hs0 n))
def fs0(s:Syntax):Syntax:=match s with
 |.node _ k a=>if k==`«term{_}» then .node .none ``Parser.Term.anonymousCtor #[mkAtom "⟨",a[1]!,mkAtom "⟩"]
  else if k==choiceKind then (a.find? (·.isOfKind ``Parser.Term.anonymousCtor)).getD s
  else if k==``Parser.Tactic.tacticLet__ then
   let p:=s[2][0][0]
   if p.isOfKind ``Parser.Term.anonymousCtor then .node .none ``Parser.Tactic.obtain #[mkAtom "obtain",mkNullNode #[(pt0 p)[0]],mkNullNode,mkNullNode #[mkAtom ":=",mkNullNode #[s[2][0][4]]]]
   else if s[1][0].getNumArgs=0 then .node .none ``Parser.Tactic.tacticHave__ (a.set! 0 (mkAtom "have"))
   else s.setArg 1 (.node .none ``Parser.Term.letConfig #[mkNullNode])
  else if k==``Parser.Tactic.show then if hs0 99 s then .node .none ``Parser.Tactic.refine #[mkAtom "refine",s[1]]else .node .none ``Parser.Tactic.exact #[mkAtom "exact",s[1]]
  else if k==``Parser.Tactic.exact then .node .none ``Parser.Tactic.show #[mkAtom "show",s[1]]
  else if k==``Parser.Command.declModifiers then if s[6][0].isOfKind ``Parser.Command.nonrec then (s.setArg 4 (mkNullNode #[.node .none ``Parser.Command.noncomputable #[mkAtom "noncomputable"]])).setArg 6 mkNullNode else s
  else s
 |_=>s
def tq0(s:Syntax):Bool:=s.isOfKind ``Parser.Tactic.rwSeq&&s[2][1][0][1].isOfKind ``Parser.Term.paren&&s[2][1][0][1][1].isOfKind ``Parser.Term.byTactic
def fb0(t s:Syntax):Syntax:=match s with
 |.atom _ v=>.atom .none v
 |.ident ..=>let u:=t[1][0][1][ix0 192 242 s]
  if u.isMissing||u.isOfKind numLitKind then s.setInfo .none else u
 |.node _ k a=>if k==``Parser.Term.app then
   let u:=t[1][2][0][1][ix0 913 57 s[0]]
   if u.isMissing||u.isOfKind numLitKind then s else rb0 (λx=>let y:=s[1][ix0 7936 8 x/2]
    if y.isMissing then x else y) u
  else if k==nullKind then
   let l:=s[0][2][1][1][0][0][0][4][1]
   if l.isMissing then (if a.any tq0 then mkNullNode (a.flatMap λc=>if tq0 c then c[2][1][0][1][1][1][0][0].getArgs else #[c]) else s) else mkNullNode (l.getArgs++a.extract 1 a.size)
  else if k==``Parser.Command.print then .node .none ``Parser.Command.end #[mkAtom "end",mkNullNode (if s[1].getId==`a then #[]else #[s[1],mkNullNode])]else .node .none k a
 |_=>s
def cs0(u w s:Syntax):Syntax:=if s.isOfKind ``Parser.Tactic.cases&&s[1].getNumArgs=1&&s[1][0][0].getNumArgs+s[2].getNumArgs+s[3].getNumArgs=0&&!s[1][0][1][1].isOfKind ``Parser.Term.paren then
  let h:=s[1][0][1]
  rb0 (λx=>if x.getId==`ἀ then h else x) (if h.isIdent then u else w)
 else s
def oc0(t s:Syntax):Syntax:=
 let v:Nat→Syntax:=λi=>t[1][2][2][1][i][1][1][0][0][0]
 if s.isOfKind ``Parser.Tactic.omega then (if s[1][0].getNumArgs=0 then v 0 else s)
 else if s.isOfKind ``Parser.Tactic.cases then
  let f:Nat→Syntax:=λi=>rb0 (cs0 (v 6) s) (v i)
  cs0 (f 2) (f 4) s
 else s
end
open Lean in
local macro_rules(kind:=Lean.Parser.Command.mutual)|s=>do
 let c:=s[1][0]
 unless c.isOfKind ``Parser.Command.check do Macro.throwUnsupported
 let g:Syntax→Syntax:=λt=>rb0 (fb0 t) t
 let t:=g (g (g (g (g (g c[1])))))
 return rb0 (oc0 t) (rb0 fs0 (rb0 (fb0 t) (s[1].setArg 0 mkNullNode)))
mutual
#check([some,List,false,Nat,none,Int,true,Prop,Str,Option,(by omega),base,Addr,(by decide),autoParam,Shared,Bool,W.Frag,if_pos,if_neg,PySem.wpAny_bind,Expr,X.env,0,Stmt,Keyed,Array,wpAny,(by simp only[_root_.L3.yI,_root_.L3.zN,_root_.L3.zj,_root_.L3.tQ,_root_.L3.zg,_root_.L3.uV,_root_.L3.jI,_root_.L3.yN,_root_.L3.yQ,_root_.L3.kz,_root_.L3.i8,_root_.L3.qb,_root_.L3.vY,_root_.L3.pA,_root_.L3.e1,_root_.L3.e2,_root_.L3.eL,_root_.L3.eC,_root_.L3.z0,_root_.L3.X8,_root_.L3.zA,_root_.L3.zF,_root_.L3.tE,_root_.L3.k9,_root_.L3.Z4,_root_.L3.uw,_root_.L3.qG,_root_.L3.Zs,_root_.L3.Th,_root_.L3.Tg,_root_.L3.vC,_root_.L3.wp,_root_.L3.v3,_root_.L3.j5,_root_.L3.QN,_root_.L3.g6,_root_.L3.t9.sel,_root_.L3.fI,_root_.L3.qU,_root_.L3.wZ,_root_.L3.tH,_root_.L3.Zw,_root_.L3.vx,_root_.L3.Zv,_root_.L3.Tn,_root_.L3.vy,_root_.L3.V8,_root_.L3.qT,_root_.L3.Zx,_root_.L3.xq,_root_.L3.OA,_root_.L3.jm,_root_.L3.kF,_root_.L3.XR,_root_.L3.yF,_root_.L3.xh,_root_.L3.wT,_root_.L3.za,_root_.L3.vh,_root_.L3.xK,Option.bind_some,Option.bind_none,List.getElem?_cons_zero,List.getElem?_cons_succ,List.set_cons_zero,List.set_cons_succ,List.map,List.cons_append,List.nil_append,List.length_cons,List.length_nil,List.replicate_zero,List.replicate_succ,Bool.not_true,Bool.not_false,decide_true,decide_false,Bool.and_self,Bool.and_true,Bool.true_and,Nat.reduceAdd,Nat.reduceSub,Int.reduceLT,Int.reduceLE,Int.reducePow,Int.reduceToNat,Int.reduceAdd,Int.reduceSub,Int.reduceMul,Int.reduceNeg]),s.heap.objs.size,absurd,s.heap,(Or.inl rfl),"WordMachine",sizeLine,Reps,PyProof.Rows.wpS_bind,World,And.intro,xs.length,(model prog w),heap,(Bool×D),Program,List.length_map,List.length_append,PyProof.Rows.wpS_pure,(by simp),(Ì×Obj),X.mg,(.bl Â),a.size,X.prog,False,[x0],0,SortSt,(i+1),X.N.length,Around,vs.length,eval,(z0 1),(model X.prog X.w),outer,cons,s.heap.get?,data,(zn _),(.inl rfl),s.toks,keep,Value.ref,decide_eq_true,toks,(Nat.le_refl _),(z0 0),PySem.wpAny_pure,List.length_cons,mainGlobals,(z0 2),I.zb,prog,(e::es),(Å×Å),z.length,h'.get?,List.size_toArray,(z7 1),ds.length,h.get?,PySem,(k+1),Heap.get?_push_of_some,Bool.and_eq_true,(z7 0),"list",X.xe,PyProof.Rows,Nat.le_trans,Heap.lt_size,ps.length,HT.sIx,PySem.Spec,[x0,x1],(eC (.int 0)),List.mem_cons.mp,List.mem_cons_self,(óo=Â),"self",l.prog,decide_eq_false,(.ref f),(n+1),getK,List.getElem?_eq_getElem,"words",name,(Sum Å È),(kP ps),"State",kvs.length,(a.d1 X G),FuncData,x.size,["state","row"],(zS st),scope,(eC (.int 1)),(z7 2),(a.d2 X G),(.int 0),ps.map,StateT,Bool.false_ne_true,List.map_cons,(.dK kvs),(.bl Æ),ks.length,(4*m),(.ref C),"tuple","word",X.base,K.In,E.l1,(z0 3),W.kitOne,E.l2,congrArg,if_true,I.xD,Heap.get?_push_size,List.append_assoc,List.all_cons,ns.length,(vP ps),(.ref a),D.int,l.map,OwnMs,apos,bootBuiltins,o.push,z.elim,Array.length_toList,Nat.lt_of_lt_of_le,PySem.sizeLine_eq,us.length,r.length,W.nsIn,iter,List.getElem?_eq_some_iff.mp,of_decide_eq_true,(.ref p),(z0 4),b.size,I.list,I.tok,cLine,A.in1,F.dj,List.replicate,List.append_nil,if_false,"dict",PyProof,X.calm,rows,cpos,(.yH o (.dK kvs)),List.getElem?_map,(yg e=Æ),K.lookup,(.str w),(xQ 0),I.tuple,(zV×V),D.str,(4*k),(j+1),Nat.ne_of_lt,Nat.zero_add,(xS A B u),X.length,N.length,"items",zero,succ,args,X.env.locals,vs.toArray,(eC .zG),(wI Ws),(.int i),(.int 8),"table",b.length,(À v),F.at_,getA,Int.toNat_natCast,(ns.map D.int),(xw I q ï),its.toArray,(ßa s),(Ĳb _),(by simp only[_root_.L3.yI,_root_.L3.zN,_root_.L3.zj,_root_.L3.tQ,_root_.L3.zg,_root_.L3.uV,_root_.L3.jI,_root_.L3.yN,_root_.L3.yQ,_root_.L3.kz,_root_.L3.i8,_root_.L3.qb,_root_.L3.vY,_root_.L3.pA,_root_.L3.e1,_root_.L3.e2,_root_.L3.eL,_root_.L3.eC,_root_.L3.z0,_root_.L3.X8,_root_.L3.zA,_root_.L3.zF,_root_.L3.tE,_root_.L3.k9,_root_.L3.Z4,_root_.L3.uw,_root_.L3.qG,_root_.L3.Zs,_root_.L3.Th,_root_.L3.Tg,_root_.L3.vC,_root_.L3.wp,_root_.L3.v3,_root_.L3.j5,_root_.L3.QN,_root_.L3.g6,_root_.L3.t9.sel,_root_.L3.fI,_root_.L3.qU,_root_.L3.wZ,_root_.L3.tH,_root_.L3.Zw,_root_.L3.vx,_root_.L3.Zv,_root_.L3.Tn,_root_.L3.vy,_root_.L3.V8,_root_.L3.qT,_root_.L3.Zx,_root_.L3.xq,_root_.L3.OA,_root_.L3.jm,_root_.L3.kF,_root_.L3.XR,_root_.L3.yF,_root_.L3.xh,_root_.L3.wT,_root_.L3.za,_root_.L3.vh,_root_.L3.xK,Option.bind_some,Option.bind_none,List.getElem?_cons_zero,List.getElem?_cons_succ,List.set_cons_zero,List.set_cons_succ,List.map,List.cons_append,List.nil_append,List.length_cons,List.length_nil,List.replicate_zero,List.replicate_succ,Bool.not_true,Bool.not_false,decide_true,decide_false,Bool.and_self,Bool.and_true,Bool.true_and,Nat.reduceAdd,Nat.reduceSub,Int.reduceLT,Int.reduceLE,Int.reducePow,Int.reduceToNat,Int.reduceAdd,Int.reduceSub,Int.reduceMul,Int.reduceNeg,_root_.L3.wD,_root_.L3.VT,_root_.L3.VU,_root_.L3.VW,_root_.L3.qV,_root_.L3.gY,_root_.L3.vB,_root_.L3.qR,_root_.L3.Ta,_root_.L3.Iw,_root_.L3.Iv,_root_.L3.Xu,_root_.L3.N_,_root_.L3.P4,_root_.L3.X6,_root_.L3.jw,_root_.L3.putAt,_root_.L3.oW,_root_.L3.y4f,_root_.L3.jq,_root_.L3.hide,_root_.L3.pJ,_root_.L3.x0s,_root_.L3.x0t,_root_.L3.x0u,_root_.L3.x0v,_root_.L3.x0w,_root_.L3.x0x,_root_.L3.x3e,_root_.L3.x3f,_root_.L3.x3g,_root_.L3.x3h,_root_.L3.x3i,_root_.L3.x3j,_root_.L3.x3k,_root_.L3.Qa,_root_.L3.gZ,_root_.L3.XW,_root_.L3.qW,_root_.L3.GH,_root_.L3.z5e,_root_.L3.z5f,_root_.L3.uB,_root_.L3.Ww,_root_.L3.ug,_root_.L3.qw,_root_.L3.oR,_root_.L3.Xw,_root_.L3.O0,_root_.L3.j7,_root_.L3.Zq,_root_.L3.p_,_root_.L3.Tc,_root_.L3.Fu,_root_.L3.gM,_root_.L3.O6,_root_.L3.vK,_root_.L3.Ts,_root_.L3.F_,_root_.L3.X7,_root_.L3.VL,Option.map_some,Option.map_none,List.take_succ_cons,List.take_zero]),(wO X scope cl own C s H fp pn),Nat.le_of_lt,ys.length,(w_ st),"row",(a σ),(u q),F.ok,0,E.go,X.env.scope,(z7 3),ms.length,"held",[x0,x1,x2],P.length,(z7 4),Sum.inl,r.mono,String,(zX (zR b)),List.mem_cons_of_mem,List.getD_eq_getElem?_getD,(zA þ zF),(λ_ z=>nomatch z),attributeBase,List.not_mem_nil,List.map_append,(a==sysModules),"kind",x.length,K.ext.gh,[.ref a],d.length,"loadw",k.toNat,vL.nd,0,tplDs,Scope,(.Name x p),rows.length,List.mem_singleton.mp,(by decide +kernel),s.heap.push,zP.refl,compareOp,Int.le_of_lt,W.keepIn,(Ý+1),(z0 5),(yF 1),elem',I.loc,pos',((apos.endLine==cpos.line)=Æ),PySem.wpAny_mono,List.mem_map.mp,"number",(ns.map V.int),(.Name x pos),Nat.le_refl,Int.le_refl,(.type Ġ),E.ext.gh,False.elim,(À Ō),"storew",(xA A n),0,v8.cons,(À 1),o.cls,E.own,K.go,h.Ns,Unit,E.lp,List.range,X.env.cells.lookup,List.mem_append.mp,((ē).all yg=Æ),a.heap.objs.size,List.length_take,(λz=>nomatch z),Option.some.inj,Nat.zero_le,(.int 16),(.lst xs),f.length,j.length,(.int 1),I.ok.hd,A.units,o.data,IsPair,"zip",stop,(zZ (zX (zR b)) zY (z7 1) zH),PySem.wpAny_field,z.cps.toList,"address",(Ã×Ã×Ã),(.str "n"),(.Name x xp),(.type "str"),(.type "int"),(ks.zip vs),(zV×Value),(zC Ę),fs.length,"thing",(č ?_),(yn P w),X.N.Nodup,Value.str,(.tup xs),W.findIn,X.stack,(yD n),ns.map,I.laid,I.cell,zP.t5,D.tup,small,I.pin,X.fs,List.mem_append_right,(zA Č zF),Bool.false_eq_true,(tuples' Æ),"registers",(eq_of_beq c),List.length_zip,(xc A b tg n),(zA Đ zF),List.mem_cons,(σ++[À v]),Nat.min_self,True.intro,(.inr rfl),binaryOp,(yn prog w),(.type ō),"state",X.A.units,(À İ),(zC zH),(.int 3),or_false,c.length,I.turned,add_int,(Ŭ h),"told","code","sub","end","set",x.gh,D.nx,List.take_append_drop,(.Call Úa ē [] pos),(.str "d"),a.toList.drop,(.str "mark"),Nat.min_eq_left,List.length_nil,(.type "bool"),(zB ğ zM),(Or.inr rfl),"memory",(eL xq ĳa),"sorted",(.inr z),(λ_=>Ä),W.kia_one,c.trans,(vJ Ûa),(g i j),zt.refl,a.length,(z7 5),"addc",(κ×V),"subc",y.Perm,I.free,I.bare,"add",(uj x),(lo+i),"max",yR.tr,r.get,IsZip,E.pin,(j-1),item,call,E.ow,(X.fn x=Æ\/X.env.scope.names.lookup x=À .local),(by with_unfolding_all rfl),starEach,PyProof.Rows.wpS_forRange,List.getElem?_append_left,Array.getElem?_toList,(zB Ę zM),PySem.wpAny_holding,PySem.wpAny_seqItems,List.mem_of_getElem?,List.all_eq_true.mp,(x ≠ "__name__"),(by simpa using e),Nat.le_add_right,List.length_drop,(zZ Æa zY ğ zH),List.length_set,(zC ğ),(Ðc z y),h.objs.size,ForInStep,"truths",(.ref it),b.extract,numbered,(É Value),"__init__",(È×Ì),b.toArray,a.toArray,y.toList,envOfC,(zR b),Reps.imp,(zC xR),(zg Ϟ),(.int 5),codeAny,(À m),(.bl b),"item","left",X.H₀,"law","int",value,items,IsTup,0,(x+1),its',(.ListComp elt [{tg,iter,ifs,0}] scope pos),"first_words","_law_script",Nat.lt_of_le_of_lt,List.zip_cons_cons,(by simpa using h),Option.bind_some,b.toArray.size,(.ins C dx fs),Nat.ne_of_gt,t.cps.toList,List.map_map,Heap.SameBut,(.str "s"),A.deeper,"unless",its.length,SeqAt.EqAt,(a.d3 X G),(.ref Ý),ws.length,I.ok.kind,(.type T),(zC Ł),(.inl a),g.length,0,(.ref z),Ne.symm,"when","jump",Sum.inr,BindsTo,zP.lay,IsPart,(yF 5),(f β),forIn,"str","due",ye.of,yU.of,I.len,putF,E.fr,E.ap,(backToKw pos (keywordEach [] Ö)),((x==("__classdict__" : È))=Â),(eC (.int 2)),(zC (ς (zC ğ))),Nat.lt_succ_self,List.length_replicate,List.getElem?_eq_none,(xP (yY b)),(e2 zL þ ĩ),own.length,(λd h=>by cases h),a.toList.take,0,(eC (.int 4)),(.dic ķ Ŝ),foldedSetIterable,List.mem_range.mp,PySem.call_meets,(("r" : È)++x),I.zb.fresh,Txt.split,(zB Ł zM),Heap.size_push,(EP X z6 σ Q),(zU (zl xR)),"first_held",a.extract,(.builtin id),(È×Value),(K w.params),(F.ok i q z),(ý o Ö),decide_true,SortSt.mk',Obj.mapSeq,(οa (i<j)),(Á zV×V),(model P w),w.length,DictEntry,A.handled,(yh u 0),s.TypeIs,q.toList,q.extBut,i.length,callWith,W.codeIn,L.length,(È×V),(by rfl),(.ref A),"range",(zC yZ),"store","right",IntsAre,(Á D),"load","high",q.size,c.toks,(lo+k),(k<=j),self,cont,c.gh,True,K.lp,I.ql,D.bl,Nat.lt_irrefl,(e2 zL þ ŀ),(.tup [(.str "d"),(.str "s")]),Int.natCast_nonneg,List.getElem?_append_right,List.pairwise_append.mp,List.drop_eq_getElem_cons,(uS A B s m u),(Ðc row {#[59]}),(Nat.sub_le _ _),b.toList.take,"distance","field",a.names.lookup,Nat.le_of_eq,List.zipWith,(tO (yY b)),"enumerate",Str.ofString,(yn ô X.w),(yL x p f g),DecidableEq,(Α Œ),(Ζ (x+3)),(.int x),(zB zH zM),(wI Z8),(Ðc w y),(Á Ã),(top 107),(.dT kvs),[.ref p],(Ŭ hi),(.str x),(.int 2),f.trans,(v3 zF),(c b a),nextOf,valueAt,W.mg_of,Nat.ble,K.ext.g,"test",(Āa n),"done",(yF 2),putAt,V.ref,"and",[x,y],"or",hide,dEqs,X.pn,[it],((n:Å)*134217728+d*16777216+s*2097152+m),(.Call (.Attribute o m apos) [] [] pos),X.s₀.heap.objs.size,(zX (zR a)),PySem.wpAny_call_entry,List.zipWith_cons_cons,(e2 zL Č ĩ),List.zipWith_nil_left,List.replicate_succ,List.length_zipWith,(st ws a b c hk hv),(getMethod ov m pl),(Γ (z7 3)),List.getElem_mem,(zB ğ όa),(yL a0 p0 f0 g),s.heap.IsTuple,y.length,behindInMarks,b.toList.drop,(À (Æ,d)),(zg (eC ò)),swapsWith,(λ_ _=>õ),(zU (zl uD)),(.dic hk hv),apos.atName,List.length,fs.lookup,(Ζ (x+2)),(Ζ (x+1)),(Ζ (x+0)),(ps.zip us),(ks.zip us),(.type Ź),isort_perm,Str.length,(xB X.K F),(thaws ms),OwnMs.imp,(Ĥ e),j.toNat,(ßa òa),(Ú Ù),(zC Ϲ),"do_sum",x.toList,n.length,h.length,NameKind,ts.map,[.str w],(Żb==0),(ÿd ?_),(Āa 32),(xh 3 4),(wT Č),(vN ğ),(.ref l),Rd.mono,e.trans,Iff.rfl,(z7 2),(Ų _),(ûc c),(ϡi s),0,z.symm,"copy",xm.one,stored,backTo,assign,V.str,(A i),"xor",whole,isort,field,bindL,bindC,E.ext,(A n),hi.h,e.gh,body,I.os,E.qL,Txt.partition,PySem.PassesOwn.never,(starEach ē Ö=(Â,eval e Ö)::starEach es Ö),(zZ Æa zY (wP ğ xn) Ĕa),((n:Å)*134217728+d*16777216+m),(.int 4294967296),PySem.wpAny_newObj_type,0,Builtin.Str.occurrences,[.str w,d1,d2,d3],(wn T e fw fh sd due done),(uX zM (xH xI Í)),beq_eq_false_iff_ne.mpr,PySem.wpAny_truthy_bool,(zZ Æa zY Ϲ zH),(ns.map WData.int),[.bl a,.bl b,.bl c],PySem.wpAny_passesOwn,[.str w,d1,d2],List.mem_append_left,(Á zV×Ì×Value),"storew r1 r5 ",Array.toList_append,(.str "0123456789"),[.int 24,.int 3],(zZ Æa zY Ł zH),Nat.lt_succ_of_lt,Nat.lt_of_succ_lt,(λC s H c d=>uY),Int.not_lt.mp,(.dic [] []),t.heap.objs.size,c.heap.objs.size,(À (Â,d)),(.str "name"),"isinstance",X.env.kindOf,Nat.succ.inj,Nat.le_antisymm,0,Bool.eq_iff_iff,(τ++Ŷ k Ä),(e2 zL Œ ŀ),d.trans,(wl s u m),a.toArray.size,(yL y q Ä g),(.tup [x,y,z]),(.int (n:Å)),(pairsOf vs),"width",(xs.map .inr),(.lst ys),"carry",x.cps.toList,Nat.sub_self,(start N vs),(failedOf s),(.dic ks vs),OwnMs.cells,List.lookup,sep.length,env.kindOf,(zT H p o),(kindOf s),(.inl z),Value.int,PassesOwn,l.extBut,(Ε Ōb),(àa .In),(É Ã),(arrOf s),(.nx β2),(.int 15),(jz Ϧa),argBest,"stands","sign",xs.Nodup,o.length,l.length,b.toList,T.length,R.length,List.map,[.int x],["text"],(wE Ûa),(.str z),(.str k),(.ref t),(.int n),(.int j),fs.map,(ϯ c),(w%256),s'.heap,getItem,d.toNat,add_str,I.fresh,E.ext.h,ys.all,xs.map,xs.all,o.elim,modify,l.mono,W.fnOf,Result,Paired,Or.inr,(uo x),(uC n),(tj i),(lo+m),(e σ),(a::r),z.cps,x.new,thaws,(i+k),"r1",maxI,hv.h,d.oM,P.Ye,E.gv,PyProof.Rows.wpS_mono,(xW T e fw fh s due done),((n:Å)*134217728+d*16777216+s*2097152),(ps.map λp=>if p.1=a then(a,b)else p),PyProof.Rows.subscriptTail_builtinR,(.str "abcdefghijklmnopqrstuvwxyz"),(wd A k+j_ u (wd B k)+qk A B u k),PySem.wpAny_callSpecial?_slot,Array.getElem?_eq_some_iff.mp,PySem.Calls.callWith_builtin,PySem.typeIs_str,(ut (vI w) A B s m),PySem.wpAny_setField_rec,List.pairwise_append.mpr,PySem.wpAny_pyIter_list,Int.eq_ofNat_of_zero_le,Nat.add_sub_cancel',PySem.F.plain_max_loop,List.take_of_length_le,List.drop_eq_nil_of_le,(e2 zL þ íb),(by exact 1<30;decide),PySem.codeAny_builtin,List.pairwise_cons.mp,List.getElem?_toArray,(eC (.int 32)),PySem.wpAny_tryCatch,Array.getElem_toList,(by rw[E.l1];show c),PySem.plainId_quiet,Nat.add_le_add_left,(ςa (ža ē Ö)),"loadw r1 r5 ",decide_eq_true_iff,PySem.wpAny_typeOf,List.mem_range.mpr,(ςa (ža es Ö)),(.type "NoneType"),x.extract,Nat.le_of_lt_succ,List.length_range,List.flatten_cons,(zA Č Éa),(Þa W.emptyDict),(σ++Ŷ ôb Ä),(λC s H b c=>uY),beq_self_eq_true,(Ðc x {#[c]}),((Ĺb).map pD),(wq as vs ks us),(.str k::R),i.natAbs.log2,WData.weightAll,List.find?_cons,Value.none,I.base.free,beq_iff_eq.mpr,Nat.not_lt.mpr,Bool.false_and,(σ.set i Ϥ),(.int (i:Å)),(.builtin Ša),(ń pD),List.any_cons,[x0,x1,x2,x3],(β++[À m]),Sum.inl.inj,(ý e Ö),(Ř _ rfl),Nat.add_comm,Int.le_trans,Int.ediv_one,"other",(.tup [x,y]),scope.names,c.heap.get?,OwnMs.focus,Option.bind,(.str Ïa),[Ϙ,"far"],(Á M×yC),(κ×Value),(b.trans c),(4*(m:Å)),List.foldl,(Ça _ z),(ŀa .Add),(zB uD zM),(yg a=Æ),(xo N ŋ),(pF s u m),0,(YR a b c),(.lst ϟ),"do_bits",toString,pos.line,[ϻ,ėa],(þb ċ),(Ça _ a),(c.val k),(.lst ws),(.lst vs),(.lst []),(us++ds),(ţ p),u.extBut,r.append,i.natAbs,h.DictOf,f.typeIs,b.typeIs,Operator,L.extBut,[.str k],(ī ..),(zC ğ),(xA A i),(uv a.1),(u++[l]),0,(lo+m-1),(eC Õc),(Z3 a.2),(.ref x),(.own x),x.trans,n.toNat,kvs.map,callerA,base.Ns,X.outer,W.toNat,VO.getD,AllBare,(wI ns),(q_ st),(c q z),(G b d),ks.map,"stop",y.size,isTrue,a.toks,I.kept,(z7 3),(yF 8),(v1 k),(m/10),(c β),(b σ),"one",0,slots,o.loc,binds,V.int,(n+k),(j+2),(xH (yM (yM xI)) Í),PyProof.Rows.wpS_get,(.Subscript a (.Constant (.int i) ck cp) pos),(min (if i<0 then i+(n:Å)else i) (n:Å)),(seqObj Ġ #[] 0),(λa b=>if a<b then b else a),(rows.map λr=>.int (uq r)),(by simp only[ė]<;>omega),PySem.Around.under_plainId,PyProof.Rows.listUpdate_at,List.extract_eq_take_drop,X.env.scope.names.lookup,PySem.wpAny_Call_Name_kw,PySem.Calls.spliced_cons,[ĭ,Ϣ,"end",Ķa,Şa],(.tup [.int 27,.int 5]),(assignEach es Ö),Builtin.bitAnd,[À (Â,.int x),Ä],(wG (own:=[ìa]) rfl),(.inr (.inr ą)),Array.toList_extract,(if b then 1 else 0),(X.drop k++Y.take e),(.tup [.str "stop"]),((u q).mpr (.inl z)),List.Perm.refl,Builtin.Int.intBits,[.int 21,.int 3],(ps.take i),PySem.call_meetsIn,Nat.sub_add_cancel,ForInStep.yield,(by rw[ť];omega),[.at [ĸ] ϻ],((u q).mpr ša),(uW tm qC rfl yZ),(relabel Ŀ Ö),"default",(.fz (.int w)),d.heap.objs.size,List.take_length,List.lookup_cons,(xH (yM xI) Í),(U1 b e ß a d),s.heap.update,"StopIteration",sliceBounds,g.objs.size,Nat.zero_lt_one,Nat.le_succ,List.nil_append,Int.min_eq_left,[.at [á] Ńa],(À (V.ref p)),(tupleKind ģa),(X.N[i]?=À x),((üc).map ϐ),"_law_k","loadw r2 r5 ",k.toArray.size,PySem.intText?,(.fz (.int N)),s.heap.IsList,a.toArray.any,Nat.add_assoc,[ϻ,ėa,Ŏ],[ĭ,Ĵ,ϻ],[p0,p1,p2,p3],(Λc (b::yJ)),(À (Æ,e)),(zU (zl Ł)),(kN c.heap H),(Ąe w y z),W.callWith_K,I.base.there,Around.under,(àa .NotIn),(λ_ _=>rfl),(zT H a ň),(zT G a ž),(cr A B u k),(.str "add"),"place",c.heap.push,a.heap.push,X.base.get?,Int.one_mul,I.ok.mod.Yj,I.base.slot,(Δ (i+j)),(śc _ _ _),(À (b,d)),(zU (YO 1)),(zB Ę zM),(v4 ps a b),(0<byt N j),"set r5 ",L2.start,(gc fs f),(.tup ys),uA.some_of,its.toList,W.plainGet,(zT H a o),(pf ϸ x),(VY e=Æ),(.str ąc),(.str ĩa),(pJ β),"do_move",rows.getD,I.base.uc,I.base.uP,I.base.qM,E.ext.new,(.ret v),[ϲ,Ľb],[ϻa,ĸd],[.lst ws],(ϭf _ _),(Λc Áj),(Āa Ϻ),(Ça _ b),(À ŝ),(vs++dvs),(f.n X G),(.yH o u),(.tbl ps),(.ref i1),(.int 32),(jq β),"mark",Y.take,y.extBut,xs.foldl,p.toList,oneType',m.length,k.length,h.extBut,c.typeIs,c.h.free,ZipApart,Y.length,OwnMs.tZ,C.extBut,B.length,B.extBut,"field",(zg Đ),(xB K F),(wE ŋ),(vZ K F),(kP ěd),(X.gC E),(I.WH e),(.own a),(s q z),X.drop,"steps","slice","marks","again",uQ.with,pairsOf,i.toNat,g.trans,Un.kept,I.write,rawInt,[p0,p1],(üa j),(Ϸ f),0,(Ϸ d),(ϡi d),(öb i),(ïb _),(Ĥ q),(Ĥ f),(z7 18),(eC kI),(a q z),(.bl k),"step","bool",u.keep,sIx_le,pyIter,preSum,o.dict,f.mono,eq_int,d.getD,c.heap,W.isFn,T.keep,B.kind,A.mono,(yF 3),(x++y),(wE m),0,(w6 f),(tC v),(qv 1),(o::v),(jI 1),(i==j),(c σ),(X++M),(Wx x),(JK i),(0<=i),"run",atKey,Vm.nd,Vl.nd,Vi.nd,T.obj,Model,[a,b],(i-1),(h a),(zx (xP (yY b)) xN (zC ğ) (zC yZ) Ą),["table","end","first_words","first_held"],(e2 zL (e1 (xL [ĸ] Ĵ) Č) ĳb),(by rw[tD (gg ï rfl) ą,tD V_ ą,X2 JV ą];rfl),(.Call (.Attribute (.Name c p) m apos) ē [] pos),[.int g0,.int g1,.int g2,.int g3],(xF Â A s (4*m)++xF Â B (s+32) (4*m)),(λw d=>VX f g r c w (by simpa using d)),(.Call (.Attribute o m apos) ē [] pos),(zx òb xN (zC Ę) (zC yZ) Ą),0,(VB X.K 2 (gR (tj i) (gR (tj j) VA))),(JN rfl rfl rfl d a (QP rfl rfl c b)),Builtin.SmallTypes.ownedTupleIsFree,(c*48271+104729*k+7919*(ś:Å)+1),(mirror x lo (lo+m) ((lo+m-lo)/2)),PySem.F.slot_tuple_iterator_next,List.take_succ_eq_append_getElem,[g0,g1*256,g2*65536,g3*16777216],PySem.wpAny_letGo,PyProof.Rows.slot_tuple_getitem,PyProof.Rows.seqEpoch_at,(D.int (1*2 ^ ((w:Å)).toNat)),Txt.replace,(by rw[e];show λz=>nomatch z),([114,49]++32::([114,50]++[])),(.Assign [.Name x pos'] e pos),(zZ Æa zY ğ Ę),(λc=>∃r,c.1=À r/\vo t r),(x.extract (d+ϖ) (d+ϖ+e)),PyProof.Rows.callWith_type1,(if k'=k then À v else _),[.Subscript o k pos'],((u p).mpr ą),[.str "set",.int 5,.int s],(s+4*(k:Å)),Builtin.Slice.slicePlaces,PySem.wpAny_rule,PySem.wpAny_newList,PySem.mem_of_lookup,PySem.tupleKind_room_in1,PySem.F.slot_dict_values,Builtin.Tuple.tupleExact,Builtin.List.listTooLong,strSliceIndices,PySem.F.plainAttrs_dict,["text",Ķa,Şa,"most"],(List.nodup_cons.mp nd),(e2 zL Č þ),PySem.F.slot_str_split,PySem.F.plainAttrs_str,PySem.wpAny_execs_nil,PySem.F.slot_zip_next,Nat.le_of_ble_eq_true,List.getElem?_zipWith,Heap.get?_update_self,(.str "\n"),(.str "label"),(λ_=>Ņ ø Sem β),(by rw[E.l1];show hi),(.UnaryOp .Not a pos),(.Return (À e) pos),(wK j9 jH rfl),Nat.succ_le_succ,Heap.size_update,Nat.sub_succ_lt_self,List.mem_of_mem_take,(s i q/\¬ L1 q),(Κ (xL [á] Ńa)),(ys.any λy=>wH y x),(yh u i ++ " r1 r2"),(uG 10 T.cps.toList),(Nat.lt_of_not_le c),(.tup [Ŗa,Êb,ęa]),(.int ((4:Ã):Å)),(.int ((3:Ã):Å)),(.Attribute e f pos),letOwnedTupleGo,PySem.wpAny_standAt,PySem.wpAny_attempt,List.map_congr_left,(ŷc (d+k) (d+ϖ)),(xK ôb fs fg ft f),(by simpa using h1),(Nat.not_lt_zero _),(ÿb R {#[32]}),PySem.codeAny_mono,Txt.startswith,(ςa (ža [] Ö)),(λb u e=>ĝ _ e),(seqObj Ġ ϝ 0),(seqObj Ġ #[] c),(b∈X.ex\/Ŭb<=b),(wK j8 jG rfl),s2.heap.objs.size,W.instObj,Nat.le_succ_of_le,List.ext_getElem?,Heap.get?_push_ne,[ĭ,Ĵ,Ķa,Şa],[0,0,0,0,0,0,0,0],(È×Tok×Value),(by rw[OZ];omega),((p,w)::P.zip vs),"_law_many",s.heap.IsSliceOf,s.heap.FunFrames,PySem.wpAny_call,Nat.min_eq_right,Nat.max_eq_right,List.mem_map.mpr,List.filter_cons,List.cons_append,Int.max_eq_right,(xP (yY a)),(λi=>K x (b+i)),(w/16777216%256),(u4 ĵa x p f g),(o++ąb i (i+k)),(Qd n x (c x a)),(.tup [Ŗa,ęa]),(.tup [x,y,z,w]),(.builtin "len"),[.at [ĸ] Ĵ],(σ++Ŷ k Ä),(λc=>f c.symm),(yL a0 p0 f0 u),(tQ 1 (eC îc)),(qT λi j=>i+j),(e2 zL Đ ĩ),(I.ok.bs b o e),(zs.map ϐ),I.base.keep,(wc ks vs k v),(Z2 a b o i j),(Z1 a b o i j),(.type "type"),(Ζ (x+n)),(οa (j<i)),(zB Ĕa zM),(zA ŀ zF),"nought",e.gh.free,beq_iff_eq.mp,List.sum_cons,Int.mul_assoc,Builtin.bitOr,[Ŏ,"count"],(Νc (b::yJ)),(zk.near x z),(w/65536%256),(putF f v fs),(ps++[(a,b)]),(lo+k-(lo+l)),(.str {#[c]}),assignEach,"0123456789",own.contains,isort_sorted,decide_false,P2.objs.size,Nat.zero_max,Nat.toDigits,Nat.le_total,List.map_nil,Int.pow_zero,Int.ne_of_gt,[ĭ,"most"],[(D,vi a k)],(οa (i<=j)),(zT H p ϐi),(zT H a ž),(xs.set i x),(xH Ág Í),(xF f N t n),(jw β i π),(e2 F fa fb),(JJ r ta tb),(s+ϣf),(οa (j<=i)),"do_storew",W.hasDictIn,List.map_id,Int.mul_one,(eC ϡ),(ϵ n q z),(ϵ j q z),(Ōe C Ý),(Δ (A n)),(x-x/p%r*p),(wP ğ pq),0,(w/256%256),(vZ X.K FF),(ns.take k),(l+(r-l)/2),(.bool Æ),(z0 18),"do_store","do_loadw","__next__",ws.toArray,b.drop,Value.bool," r1 r2",ns.getD,[.lst ϙc],[(Ĥd,dv)],(ĥ<=ϗ),(λ_ q=>q),(tS kvs k),(arrOf st),(.tup ύc),(.tup Ϲf),(.str Ûb),(.str Úb),(.str Ūa),(.str Ìb),(.str "0"),(.int p.1),0,(.int i t),(.int due),(zC ũa),(yh u k),(eC ĥe),(eC ĉa),"replace","do_load","do_high","do_copy",zm.append,ts.length,sortRuns',l.swap.hd,h'.DictOf,eq_of_beq,countRun',cl.lookup,c.gh.free,__do_lift,W.makesIn,Reps.ints,PySem.Str,PySem.Fin,Paired.BX,[ìa,Ăc],(Řb Ϝa),(Ϧb ϐ),(Νc Áj),(Ε ϙc),(ßa Ña),0,(Þa Ăd),(ϓ Ϝb),(ú+ôb),(ĝ _ e),(Á Å),(σ++[v]),(λ_=>?_),(β++[m]),(xs++[x]),(v_ E.qL),(h p Ďe),(.tup ds),(.ref i2),(.ref Yl),(.ref WN),(.ref WK),(.int 24),(.fz Ŋb),"do_set",yt.focus,v.extBut,t.length,s.length,p.isList,mergeAt',j.natAbs,i.isList,h.isList,bindArgs,a.toList,X.take,W.lookIn,Reps.one,M.length,[.int c],(Ϟa xs),(Ϛa YJ),(σ++ρ),(zC Âa),(we g _),(wd B k),(kN h H),(g d σ),(eC ŉ),(M4 r t),(2 ^ 64),(.ref e),(.ref c),(.nx σ),(.int w),(.int v),(.int e),(.int a),(.int 4),(.inr x),(yY d),xm.snoc,xm.mono,unaryOp,u0.swap,u0.move,u.there,pyNext,propext,m.trans,h.trans,ds.map,ds.drop,c.symm,L2.cutS,Keyword,I.ok.gB,Builtin,A.depth,(ύd e),(đb+1),(ŧa _),(Ϸf q),(ļ-0),(ţ q),(Ĉa _),(ŗa i),(ĵb k),(ĵb _),(ϓ c),(ó-1),(É V),(q::qs),(i q y),(hi-lo),(f ūd),(e σ1),(QW ps),(O1 ..),(4*k+3),(4*k+2),(4*k+1),"name",zs.map,vs.map,u.slot,u.free,s.gens,p.size,not_or,ks.zip,ks.all,kindOf,e.symm,argsOk,Params,J.stop,InLong,I.base,B.mono,(z7 6),(vI w),(vD r),(v2 k),(s+32),(k9 x),(g==k),(a++b),(a β),(Tk l),(IL z),"low","far",there,start,st.at,names,l.fin,h.Ns1,g.get,f.get,e.len,a.any,Xf.mp,M.ind,J3.nd,J2.nd,J1.nd,J0.nd,D.lst,D.ind,D.i2z,D.i1z,D.TOz,CmpOp,["_law_script","_law_many","_law_one","_law_other","_law_mark_here","_law_word","_law_base","_law_rows","_law_k","_law_pairs","_law_number","_law_place","_law_told","_law_whole","_law_due","_law_kept","_law_room","_law_found"],((s.heap.update a (Obj.mapSeq λ_=>#[])).push (seqObj "tuple" vs.toArray 0)),(vA (Η (yO (i:=5) (show(xJ ["items","far","distances","chosen","near"] ["number"]).Nodup by decide +kernel) rfl à)) rfl),(((sIx ó 0 lo:Ã):Å)==0&&(1:Å)==1&&(sIx ó ó hi-sIx ó 0 lo)==ó),[À (Â,.lst Ϩ),Ä,Ä,Ä,Ä,Ä,Ä,Ä,Ä,Ä,Ä,Ä,Ä,Ä,Ä,Ä,Ä,Ä],(λr f=>match r with|.ok (.ret v)=>EP X k σ Q v f|.ok _=>õ|.error e=>X.xe e f),((yD n).cps.toList.map λc=>D.str {#[c]}),(Þa { cls:=.type "range",data:=.fields #[.int lo t,.int hi u,.int 1 v] }),[À (xW T e fw fh s d0 j0),À (.fz (.int m)),À (.fz (.int k))],[.fz (.str t),.fz .zG,.fz (.lst (ń pD)),.fz (.int (N:Å))],((ŗa (sIx ó 0 lo)).take (sIx ó ó hi-sIx ó 0 lo)),(32+4*(k:Å)),(A.under (.builtin "type.__call__" {.ref C::us,a})),(if i<0 then(i+(n:Å)).toNat else min i.toNat n),[À (Â,.str T),À (Æ,.lst []),Ä,Ä,Ä],(Ëa Úa "values" Ö (ý Úa Ö)=ý Úa Ö),[wn T e fw fh (tG ϟ a b c ķ Ŝ) due done],(x+(n-x/2 ^ l.toNat%2 ^ d.toNat)*2 ^ l.toNat),(f.2 b (ϓ (Ŧ (Ĥ e) (I.ok.WF x c C l)))),(if k=f then(k,v)::r else(k,x)::putF f v r),(("loadw r2 r5 " : È)++yD (32+4*(i:Å))),Nat.min_le_right,[.str (yh u k),.int 1,.int 2],(by exact c*134217728/16777216%8=0;omega),(zZ ŭb zY (z7 17) zH),(À (.builtin "type.__getattribute__")),(ui G P w K L h N c a f d A Ā s H E),(f.2 b (ϓ (Ŧ (Ĥ e) I.ok.above))),(À (.builtin "object.__setattr__")),(.Call (.Name "zip" p) [a,b] [] pos),0,Int.ofNat_le.mpr,List.mem_reverse.mp,[.int (i:Å),x],Array.mem_toList_iff.mpr,((Āa n).map λi=>A ù),(À (.obj á îe [a,b,c,d])::yJ),(yM (yM xI)),(y.toList.drop lo),PySem.F.slot_dict_getitem.lookup,(zx òb xN (zC Ĕa) (zC yZ) Ą),(e2 zL (Κ (xL [ĸ] Ĵ)) ťc),Nat.eq_zero_of_not_pos,(ža [a] Ö=[(Â,ý a Ö)]),(e1 (xY uk ul) (eC (.str Ľb))),(zf xO xM Ę zH),Array.mem_of_getElem?,(ţ q++(ϝa m (j-1)).reverse),(λa b h z=>h (Sum.inr.inj z)),(yU X.K H p ys\/ye X.K H p ys),(PySem.F.args_str_split_2 _ _),(0<=x/\0<=l/\l<64/\0<=d/\d<64),((c==("__debug__" : È))=Â),PySem.wpAny_Call_method0_late,Array.perm_iff_toList_perm.mp,(.builtin "object.__class__"),((űc : È)++yD (4*(i:Å))),List.pairwise_iff_getElem.mp,(wO X Ŀ cl own C s H l pn),0,(tG ϟ a b c (kP f) (vP f)),(st Ōb Â Â Â ķ Ŝ),(by exact _<=16777216;omega),(λq=>(L q/\¬ L1 q)\/L2 q),(x/2 ^ l.toNat%2 ^ W.toNat),(.type "method_descriptor"),(zZ Æa zY Ł Âa),PySem.wpAny_updateSeq_pair,PySem.Calls.evalArgs_plain,List.length_eq_zero_iff.mp,[wn T e fw fh sd due done],(.For tg iter body [] pos),List.pairwise_reverse.mpr,Builtin.Slice.sliceAdjust,(Ëb (ϥa x ľ Ý f c)),(rI Ue λi j=>.int (i*j)),(f (.int i t) (.int j u)),(((1:Å)*2 ^ w-1)*2 ^ l),PySem.wpAny_pyIter_tuple,PySem.Calls.Constant_str,List.mem_iff_getElem?.mp,(p9 ĩ (e2 tH øb þ)),(by rw[eq_of_beq e];rfl),(by exact 2<=â;decide),(PySem.evalArgs_none ?_),(.int ((1+4*m:Ã):Å)),PySem.F.entry_str_split,PySem.Calls.spliced_nil,Nat.testBit_mul_two_pow,Nat.add_sub_cancel_left,List.getElem?_replicate,0,List.filter_eq_self.mpr,List.filter_cons_of_pos,(Ąe P1 {#[9]} {#[32]}),(xF Â ϕ (s+64) ŋ),(xF (vI w) N (s+p) ŋ),(k K c λv n m x r=>?_),(by rw[ì];show e.len),(.ins C dx (fs.zip vs)),PySem.wpAny_getItem_of,List.Perm.append_right,Array.getElem?_eq_none,(À (Â,.dic ks ds)),(zC (zf tN jy zH ğ)),(xW T e fw fh s d0 j0),(wQ (ze Y2 b rfl Ŷb)),(o++(ąb k i).reverse),(if x<z then z else x),(.BoolOp .And [a] pos),PySem.wpAny_updateSeq,PySem.SeqAt.EqAt.same,PySem.F.slot_dict_get,PyProof.Rows.wpS_lift,List.set_append_right,List.Perm.append_left,[x0,x1,x2,x3,À Œc],[.int x,.int y,.bl p],(λz=>a (by simp[z])),(λp=>decide (0<p.2)),(λi=>a.getD i .none),(by dsimp only;omega),[.int l,.int W],(e2 zL Đ ů),(e2 yf þ ŀ),PySem.wpAny_newTuple,PySem.gives_joinTail,PySem.Value.type.inj,List.mem_of_mem_drop,[D.bl a,.bl b,.bl c],(Α (eC (.bl Æ))),(.tup [kV f[i].1,u]),(.done (.ret .none)),(.Subscript o i pos),z.cps.toList.length,s₂.heap.objs.size,List.reverse_append,List.getElem?_range,List.filterMap_cons,(64+4*(i:Å)),[Ïa,"one",ϣc,ąc],[.lst rows,.lst []],[.int p.1,.int p.2],(υa (.Name Ša p)),(β++[À (.fz d)]),(tG ws a b c hk hv),(minRun' ļ ļ 0),(by simpa using hv),(by rw[e];show ľa),(Nat.not_lt.mp hlt),(.str (yh Æ Ĝ)),((i:Å)+(m:Å)*1),"__getattribute__",(λ_ _ q=>ĝ _ q),(zZ ŭb zY Ę zH),(pF s u m++Vg u m),(e2 tH øb (z0 8)),(by simpa using f),(by simpa using d),(by simpa using a),(by simpa using G),(.tup [row,nx,tg]),(.tup (.str w::r)),(gN xs lo hi),bne_self_eq_false,Option.isSome_map,Nat.sub_pos_of_lt,Nat.lt_trichotomy,List.reverse_perm,List.getElem?_set,List.Pairwise.nil,List.Pairwise.map,Array.toList_push,[.str w,.str "d"],[.str k,.str "d"],(ĭd lo hi Ä n),(ϥa b a Ý f d),(ęe lo hi 1 ĕ),(λr=>Ş (uq r)),(λC s H b d=>uY),(zf kY kU zH Ę),(by rw[Vh];omega),(Vz r Ê Ê ?_),(Nat.log2_lt Ê),(.yH o (.dK ĝa)),(.tup (k.map kV)),(.Tuple es k pos),"fields_in_word",w.heap.objs.size,env.cells.lookup,X.s₀.heap.get?,X.env.scope.kind,List.zipIdx_cons,List.map_fst_zip,List.all_eq_true,Int.toNat_eq_max,Int.min_eq_right,(È->É Value),(wq as ds ks es),(wq [] [] ks es),(uT kvs p.1 p.2),(c b _ q λz=>z),(DO K t1 t2 a b),((ϙf).push Ăd),((W Ėa).map sD),"place_in_word",strValues,binarySort',a.setIfInBounds,W.methodCall_KW,List.take_left',List.range_succ,List.of_mem_zip,List.mem_append,List.forIn_cons,List.foldl_cons,List.filter_map,List.drop_left',[Ïa,"one",ϣc],[Ŏ,"low",Ăc],(γ (Vq f vs)),(ϒc b o e n a),(σ++Ŷ n Ä),(xs.getD j .zG),(e2 zL Đ ŀ),(e2 tH íb Č),(e2 jm Č Ϟ),(by rw[q];simp),(.tup [kV k,u]),(.dK (l.zip m)),(.str ""),"not_reaching","label_places","kind_of_code","is_near_code","distances_of","_law_cell_at",pairsOf_toList,d.toArray.size,d.names.lookup,c.toArray.size,Nat.le_min.mpr,List.take_take,List.drop_drop,[kV kv.1,kv.2],[.int (n:Å)],[.int (c:Å)],(č (Ô ?_)),(λz:È=>Ėa),(wK VC Ve rfl),(ve d&&Øa ds),(ut f A B s m),(by rw[í,L]),(TP X z6 σ Q),(.obj x fs ms),(.fz (.int m)),(.builtin óc),((Âg).take m),((Ŝc).map pD),sysModules,d.zb.fresh,Array.getD,"word_of_row","with_number","number_told","moved_right","least_fault","is_far_code","dict_values","__setattr__","__getitem__",s.heap.DictAt,0,p.toList.take,p.toList.drop,i.mem_iff.mpr,c.heap.DictOf,X.env.globals,W.plainGet_of,Paired.length,Bool.or_false,Bool.and_true,(wl s u i),[Ŏ,őd,ìa],[Ĵ,ėa,ϲ],(ý Ěa Ö),(þb (İd _)),(zT H5 D Ąc),(zC (yp Ûc)),(yL a p fl g),(yA.near x z),(rows.take i),(bs.map D.bl),(YS a ž H0),(Vn JR JQ zH),(D.bl (i==j)),(.mk e1 e2 d),(.Name x èa),(.Expr e pos),"words_from","word_fault",0,"targets_of","moved_left","is_address","first_word","field_told","bytes_from","address_of","address_in","_law_great","_law_bytes",seqIndex_neg,s2.heap.get?,r.cps.toList,pairsOf_size,l.row.toRowW,its'.toArray,h.IsListIter,concat_meets,WData.weight,SeqAt.RcNeAt,PySem.Within,PySem.W.Frag,Nat.succ_pos,Nat.succ_mul,Nat.lt_trans,E.ext.h.free,Code.isFrame,(ža es Ö),(uT kvs k v),(qB J π m2),(gg ï rfl),0,(gallopOf s),(atKey xs k),(I.ql x c e),(.inl {c,w}),(.inl (A p)),(.Name x p2),(Āe Ģa),(Η ϲb),(À Ů),(byt N j),"with_part","told_rows","number_at","near_word","item_told","is_number","four_from","far_words","assembled","addresses","_law_mark",seqIndex_of,a.names.all,W.specialIn,W.plainOver,W.kitx_list,W.emptyDict,Value.float,Reps.length,D.TOi2.symm,Builtin.Str,(ϵ n q c),(Δ (A p)),(ŀa .Mult),(λx=>!x.1),(za Zg ĳa),(za Zc ňb),(tP ps a w),(e1 Zx ŀ),(d b o a e),(by show y),(.list ßc),(.Name x f),(.Name c p),"words_in","unsigned","table_of","row_told","put_word","put_byte","pairs_of","max.loop","is_label","far_rows","bytes_of","__name__",wpAny_Name,typeIs_int,sortedHeap,scope.kind,es.toArray,builtinsNs,b.Pairwise,a.Pairwise,X.Pairwise,Walks.list,Value.type,Subscript_,SeqAt.RcAt,OwnMs.snoc,OwnMs.join,I.ok.above,D.i1z.symm,D.TOz.symm,[.tup âc],[.tup Ùc],[.str ĩa],[.lst ż],[.lst ϟi],[.lst ϔi],[.lst Ϩ],(Šd N vs),(È×Tok),(Á M×M),(λ_=>õ),(λ_=>Æ),(λ_=>#[]),(zT H x o),(wH d1 d2),(eL FL fs),(acc++its),(P.map pD),(.yH ob v),(.val İ),(.tup ϴi),(.tup âc),(.tup Ùc),(.str źe),(.str Ğc),(.str ŝb),(.str Ĕb),(.own ùb),(.int ϰ),(.inr ą),(.bl (!k)),((k,x)::r),"written","word_of","word_at","told_at","rows_of","look_at","left_by","is_pair","is_near","is_name","is_jump","is_item","held_in","code_in","byte_at",sortedAll,ps.take,o.reverse,inplaceOp,glued_len,g.toArray,g.gh.free,cellsFrom,c.toArray,c.heap.Ns,as.length,a.size_eq,a.g.trans,Ws.length,WData.int,W.takerIn,W.readsIn,W.findCls,W.OpenLaw,Str.empty,P1.length,IsTup.new,[ľb,Ŏ],[ġa,Ăc],[Ńa,Ŏ],[Ïa,ľb],[Ŏ,őd],[Ŏ,ìa],["thing"],(Åf ù),(Įc Ţb),(Ĝc r j),(Ϟa ťa),(Γ Ĉe),(Β Ϲ),(Α ϯe),(Α ĝe),(Α äa),(Ça _ c),(ĳ Ê),(ĝ _ f),(λc=>?_),(x-y-q<0),(x b u e),(vk ks k),(vW ks k),(n*2 ^ l),(k.n X G),(b i q z),(Vv te t),(.nx σ2),(.lst ds),(.bool b),"walked","summed","signed","row_in","joined","far_at",0,"do_row","behind",pick_run,o.toList,n.natAbs,j.typeIs,its.size,h.DictAt,g.h.free,failedOf,f.isList,d.typeIs,d.extBut,Reps.set,Reps.rep,OwnMs.Rw,Nat.succ,I.ok.mod,[.str z],[.str T],[.lst a],["four"],(Ϛa Vr),(àa op),(σ++τ),(zg Œ),(xs++ys),(xh 2 3),0,(we I _),(wd A k),(wT þ),(vj Ł),(vN Ę),(vB Đ),(vB ĩ),(t_ q c),(qT ďd),(p7 Ĩa),(lo+y-1),(kv.1=k),(eC όg),(eC Ħe),(eC Řa),(X6 r.1),(Oc rfl),(M9 h H),(HQ a b),(DM K a),(DL K a),(DI K a),(2 ^ 62),(.ref r),(.ref g),(.ref D),(.lst g),(.int N),(.inl x),(.inl i),(.inl h),0,(.inl e),(.inl d),(.bl d'),"taken","leads","count","added",uQ.near,u.trans,str_int,setItem,s.trans,j.mapOf,h1.get?,getAttr,e.pairs,a.trans,a.names,W.frame,Reps.SK,PySem.W,L3.getA,E.ext.g,C.trans,(uq r),(Ėf k),(ϧd k),(Åf i),(üa v),(Ūg l),(Ϸ e),(Ģj i),(ąj _),(ϐb f),(ϸf d),(Ęd _),(Ďa O),(Ťa i),(Ťa b),(ûc f),(õc h),(íc c),(ļb j),(ϔ _),(Ó g),(ĳ d),(Ŭ c),(É M),(À r),(À c),(z0 17),(yF 18),(x::xs),(x-y-q),(vj zH),(v::vs),(n::ns),(m::ms),(lo σ),(kO xs),(k Ê),(j+1+m),(hi σ),(g b a),(f ϋd),(f v u),(eC VG),(d q z),(b r.2),(a q w),(Y6 ps),(W ġj),(N/256),(DJ ks),(C q w),(1+4*k),(.fz d),"word","text","read","part","held","fits",u0.fin,typeOf,s.mono,r.drop,o.mono,o.bind,ns.sum,m.mono,l.most,j.mono,h.push,h.elim,g.get?,frames,ds.set,d.laid,c.getD,bubble,bs.map,b.toks,b.symm,b.Perm,Y.drop,Ws.set,W.item,Or.inl,O.keep,N.keep,L.heap,I.step,I.look,E.back,D.l2TO,B.kept,B.cell,(zn _),(zR d),(z7 9),(z7 4),(z0 i),(z0 7),(z0 6),(yD n),(vd m),(uv d),(r β),(qv 3),(mA f),(lo+y),(lo+j),(kV k),(k'=k),(i::a),(d::a),(a==b),(Ls i),(JB K),[.tup [.int (Ζ (x+0)),.int (w%256)],.tup [.int (Ζ (x+1)),.int (w/256%256)],.tup [.int (Ζ (x+2)),.int (w/65536%256)],.tup [.int (Ζ (x+3)),.int (w/16777216%256)]],[x0,x1,x2,x3,x4,À (Â,.str (yh u 0)),À (Â,.int s),À (Æ,.lst ((wl s u 0).map D.str)),x8,x9,x10,x11,x12,x13,x14,x15,x16,x17],(.ins C dx (putF f w (fs.zip vs))),((p.setIfInBounds i (d,ϖ+Y.length,N)).eraseIdxIfInBounds ù),Heap.get?_update_other,(λxs H Q=>(∃i,xs=[.int i]/\i.natAbs.log2<1920/\Q (.str (toString i)) H)\/∃z,xs=[.str z]/\Q (.str z) H),[.str w,.str b,.str a,.str c],(λc=>0+1=0/\c=(Ä,0)/\st=u4 ĵa x #[] Ä g\/1<=0+1/\c=(Ä,ļ)/\∃q,q.size<=1/\st=u4 ĵa x q Ä g),[.fz T,.fz (.int e),.fz (.lst ϟ),.fz (.dic hk hv)],[À (Â,.lst Ϩ),À (Â,.int (m:Å)),x2,x3,x4,x5,x6,x7,x8,x9,x10,x11,x12,x13,x14,x15,x16,x17],(vA (Η (Λb (xJ ["code","found"] [Ïa]))) rfl),[.tup [.int g0,.int 0],.tup [.int g1,.int 8],.tup [.int g2,.int 16],.tup [.int g3,.int 24]],[À (Â,.lst rows),À (Â,.lst []),À (Â,.lst (vJ Ûa)),À (Æ,.lst []),Ä,Ä],(λxs H Q=>(∃i,xs=[.int i]/\Q Ϡ H)\/∃k,xs=[.bl k]/\Q (.int (if k then 1 else 0)) H),[.tup [.str "carry",.bl Â],.tup [.str "nought",.bl Â],.tup [.str "sign",.bl Â]],(λr s'=>r=.ok (.ret (.bool Æ))/\OldK c.heap s'.heap/\s'.os=c.os/\AllBare s'.gens),(zj 5 (e2 zL (v3 (zA (eC (.str "add")) (Α (eC (.str "sub"))))) (e2 vx ů íb))),[.str w,.str b,.str a],[x0,x1,x2,x3,x4,x5,x6,x7,x8,x9,x10,x11,x12,x13,x14,x15,À (Â,.int 1),x17],pendingOf,(Xo (Γa (yO (i:=2) Xl.nd rfl à) (wV (yO (i:=3) Xl.nd rfl à) qZ)) rfl rfl),(λc=>c.1=Ä/\∃y q g,st=yL y q Ä g/\vF 0 q.toList y.toList/\y.Perm x),[.int (x%256),.int (x/256%256),.int (x/65536%256),.int (x/16777216%256)],(wT (v3 (zA (wp (zA Đ (zA ĩ zF))) (Α (wp (zA Œ (zA Ūc zF))))))),(by let:=Int.add_le_add_right (áa h) (n:Å);rwa [Int.zero_add]at this),(λq z=>h q (Εa (s q z))),(zj 15 (vh Yp (zA (e2 vx (z0 13) (e2 Tn (eC Õc) (eC (.int 6)))) Éa))),(tQ 7 (v3 (Α (e2 yf (eC (.str "set r5 ")) (eL kG (zA (z0 6) zF)))))),[.str f1,.str f2,.str f3],(zj 1 (e2 yf ŀ (e2 vx (za gz (Θ (zA ĩ zF))) (eC (.int 6))))),[À (Â,.lst R),À (Â,.dic [] []),e,c,À (Æ,.dic [] [])],(λr=>pure (.done (À r,e.2.1,e.2.2.1,e.2.2.2.1,e.2.2.2.2.1))),(sh A (4*k)%4294967296 + -(sh B (4*k)%4294967296)+qk A B Æ k),(č ⟨_,rfl,č h⟩),(N%6277101735386680763835789423207666416102355444464034512896),(zj 14 (eL OE (Α (e2 yf (z0 14) (xK 1 LV (yF 18) MX MR))))),(ş λp=>{PyData.keyHash w.params p.1,.str p.1 p.2.1,p.2.2}),(zA (Κ (xL [ĸ] "held")) (Α (za ZX (Θ (zA þ zF))))),[.str w,.int d,.int n],[À (Â,.int x),À (Â,N),À (Â,.str k),Ä,Ä,Ä],0,(occurrences x y 0 Ða (Ða+1)),[.int g0,.int (g1*256),.int (g2*65536),.int (g3*16777216)],[À (Â,.lst rows),À (Â,.lst []),À (Â,.lst [])],(λx y H Q=>∃a b,x=.bl a/\y=.bl b/\Q (.bl (!(a==b))) H),(ge (qv 7) (Νb (zC (zf xO xM zH (zf tN jy zH (z7 8)))))),(@lk x0 x2 x3 x4 x5 x7 x8 x9 x10 x11 x12 x13 x14 x16 x17),(a::b::yJ),(.tup [.str k,d,s,n]),(zx łb tM îb (zC (zf xO xM (ς (zC (z7 2))) zH)) Ą),(.done (À (Z1 a b (ţ q) i (j+1)),ţ q,i,j+1,g,k,u)),[.str w,.int d,.int s,.int n],(sh A ϑ%4294967296+sh B ϑ%4294967296+qk A B Â k),((Z.cps.toList.map λc=>ϐ {#[c]}).map λ_=>D.bl Æ),(λr=>pure (.done (À r,d.2.1,d.2.2.1,d.2.2.2.1,g))),["_law_address","_law_byte"],(Ε ((isort ns).map V.int)),[.bl Æ,.int (N:Å),.lst ϟ,.tup àc,.lst (Y6 f)],(yG (i:=3) Vk.nd rfl à (ze OY b rfl (zB ğ Āb))),(by exact(c*134217728+d*16777216)/2097152%8=0;omega),(.yield (Ä,e.2.1,e.2.2.1,e.2.2.2.1,e.2.2.2.2.1+1)),(λc=>c.1=Ä/\∃q,q.size<=1/\st=u4 ĵa x q Ä g),(jt (uu ύ qy) (Ow (ze kK b rfl Ÿb) (Ow Óc jD))),(e2 zL (Κ (xL [á] Ϣ)) (Κ (xL [á] "due"))),(.tup [.str k,d,s]),(if v<0 then max (v+(n:Å)) 0 else min v (n:Å)),(.tup [.tup (.str w::r),.int ((n+1:Ã):Å),.zG]),(.tup [.str Ôa,.int (d:Å),.int (s:Å),.int n]),(.tup [.str õa,.int (d:Å),.int (s:Å),.int n]),0,(if v<0 then(v+(n:Å)).toNat else min v.toNat n),(.Call (.Attribute Úa "values" apos) [] [] cpos),(zj 6 (e2 vx (e2 Zv ů íb) (eC (.int 65000)))),(W.fnOf x a (q_ st) ϱ ľ .none kV d g h b ct),(Q (.bl k) H->(kq K Â u v H Q\/Qs K u v H Q)),(λi=>decide (0<=i)&&decide (i<1099511627776)),[À (Â,.int N),À (Â,.int (m:Å)),e,a],[À (Â,.dic ķ Ŝ),À (Â,.int x),Ä],[.str Ϙa.1 d,.str Ϙa.2.1 tb,.str Ϙa.2.2 c],(n (E.go d) c λv u t g m=>q v _ _ (ûc g) m),(kvs.map λkv=>if kv.1=k then(kv.1,y)else kv),(by rw[I.ok.glob];show I.mod.glob.keeps I.bk),(.tup [.str Ϙa.1,.str Ϙa.2.1,.str Ϙa.2.2]),(assign (.Name x f) Ö),[.str f1,.str f2],[.str õa,.int 1,.int 5,.int (64+4*(k:Å))],(λq=>(t q/\¬ A q)\/((A q/\¬ L1 q)\/L2 q)),(zj 3 (za Ze (Θ (zA (eC (.int 12)) Éa)))),(ui yu P w K mg Ë N c ľ f g A Ā s H E),(ui yu P w K mg Ë N a ľ f b A Ā s H E),(W.fnOf x a (q_ st) ϱ ľ g kV d h i b ct),(W.fnOf m q (q_ st) ϱ ľ d kV c h g a ct),(Łb (λk' x=>if k'=k then v else x) ks vs),(Ëa Úa Ϙ Ö (ý Úa Ö)=ý Úa Ö),(zj 14 (xK 2 (wT (z0 9)) (xh 18 19) MV MQ)),(yG (i:=2) Q_.nd rfl à (ze OW b rfl Ÿb)),(xJ [Ĵ,"kind","fields"] ["field","word"]),(xJ ["text",ōa,"wrong"] ["number","item"]),(Builtin.Tuple.tupleItemsOf (.ref t) >>= _),(.Call (.Attribute o ĵ apos) ē [] cpos),(ui yu P w K mg a N x ľ f c A Ā s H E),0,(ui yu P w K mg a N q ľ f c A Ā s H E),(if([]:Á Keyword).isEmpty then 0 else 1),(by rw[q];show List.mem_singleton.mpr rfl),[.str Ôa,.int 1,.int 5,.int (4*(k:Å))],(ψa (λi j=>wz i+wz j<=134217728) (i*j)),(λ_=>î {_,rfl,YM.go {d,h,f,by omega}}),(xJ [Ϙ,"far","at"] ["number","target"]),(.tup [.str k,.int (d:Å),.int (s:Å)]),[.str w,.int d,.int s],(zB (wP ğ qy) (Γ (ze kK b rfl Ÿb))),(tE (e2 xE şa (e2 yf (eL xq ĺa) ŀ))),(Builtin.«zip.__next__» {[.ref z],[]}),(.dic (kP (tP ps x w)) (vP (tP ps x w))),Array.Perm.refl,(Þa { cls:=.type Ź,ă:=.dict #[] }),(zi (m pos o s σ H _ I h) λB y a=>?_),(zi (m pos d s σ H _ I h) λl j a=>?_),(zi (h pos j s σ H _ I k) λi a c=>?_),(wO X Ŀ cl own C s2 H2 fp (X.pn++z6)),(qw 0 Ġd (Ww (za ZX Żc) (Ww ïe uB))),(.tup [.str "set",.int (d:Å),.int n]),(.tup [.bl (cr A B u m),.bl n',.bl g']),(.Tuple [.Name x p1,.Name y p2] kk pos),(.Call (.Subscript Úa k z) ē [] pos),(.Attribute (.Name x p2) "values" apos),(("loadw " : È)++r ++ " r5 " ++ yD n),(wG (own:=[Ïa]) rfl),PyProof.Rows.slot_tuple_getitem.lookup,[.int l,.int d],(λq a b=>dj q ((ϴ).mpr (.inr a)) b),(zT (zT m i (.own y)) y (.ins C i [])),(ui L P w K J l N g d f F A Ā s H E),(p.pin (b,o) (Ĳa _ (Ĳa _ (Oy c e)))),(if x∈cs then getA fs ms f else Ä),(Y.pin (b,o) (Ĳa _ (Ĳa _ (Oy d e)))),(W.fnOf ĵ c g i a dV kV F pm Z d ct),(PySem.F.args_tuple_iterator_next_1 _),(j (E.go d) c λr p f=>q _ _ (ûc f)),(if k'=k then À v else Ĳ ks vs k),(λ_ _ z=>nomatch z),((ϴ).mpr (.inr w)),row.cps.toList,Builtin.bitNot,Builtin.SmallTypes.ownedTupleHandOut,(tryCatch (pyNext (.ref I)) _ >>= _),(if ns=[]then z else .int (maxI ns)),(e2 zL (e2 zL (z0 17) (eC Ňa)) ĩ),(backToKw cpos (keywordEach [] Ö)),(.Tuple [.Name x c,.Name y e] f pos),ne_true_of_eq_false,[D.bl (cr A B u m),D.bl n',D.bl g'],(ķb (show u0 _ _ _ _ _ from h).sx),(θ (jL t a b y) (Vs t a b (x+1))),(zi (m i s σ H _ I h) λv l e=>?_),(zi (k i s σ H _ I h) λc l d=>?_),(zi (c g s σ H _ I h) λv j a=>?_),(zi (b d s σ H Q I h) λc g e=>?_),(zZ ŭb zY (wP ğ X5) (wP ğ k6)),(zZ (zX (zR a)) zY (z7 15) (z7 18)),(tP ps (s+64+4*(k:Å)) (wd ϕ k)),(sh A ϑ + -sh B ϑ+qk A B Æ k),(J8 rfl g7 Ł (Li ğ (JA zH) J9)),(ôc y=À .cell\/ôc y=À .free),(ψa (λ_ j=>0<j/\j<2 ^ 64) (i/j)),(tE (e2 zh äa (eC (.str "sub")))),(c*134217728+d*16777216+s*2097152),PySem.F.entry_tuple_iterator_next,[.str Ôa,.int 2,.int 5,.int ϣf],(λq z=>(ϴ).mpr (.inr (s q z))),(λq z w=>B q ġd λy=>w (i q y)),(zj 2 (za Ze (Θ (zA øb Éa)))),PySem.Calls.Name_function_global,(λm f t j s o=>i m f t j ϧi o),(λm a j i s o=>c m a j i ϧi o),(yp (uX (zB yZ (zB yZ zM)) þd)),(sh A ϑ+sh B ϑ+qk A B Â k),(if(i==0)=Æ then 0 else ώc+1),(g0+g1*256+g2*65536+g3*16777216),(e2 zL (Κ (xL [ĸ] ϛa)) ĳb),(Xp (yO (i:=8) Öa rfl à) rfl),(Builtin.«list.sort» {Òa,[]}),(.ListComp g [{tg,b,d,0}] a pos),[Ϙ,"far","twofold",ìa,ōa,ėa],PySem.Calls.call_function_entry,[.own ùb,.fz Ŋb,.fz (.int w)],(ψa (λ_ j=>0<=j) (i/2 ^ ϝb)),(θ (jN t a b y) (Vt t a b x)),(λp=>if p.1=a then(a,b)else p),(zf kZ kW (zf kY kU zH Ł) zH),(ze OV a rfl (Ι (zB zH όa))),(wd A k + -wd B k+qk A B Æ k),(kvs.any λkv=>decide (kv.1=k)),(k_ .list rfl rfl ux qd Ir ϗa),(jK left (w6 f) λi=>K x (b+i)),(PySem.F.args_dict_get_3 _ _ _),(Nat.le_of_sub_eq_zero (Æg c)),(.Assign [.Name x px] Ϲa spos),((σ++Ŷ 2 Ä).set i (À b)),PySem.wpAny_comprehension_free,Array.perm_iff_toList_perm.mpr,[wn T e fw fh (vd s) due done],[b i,.int (A ù),tA A (tg i)],(λq z w=>o q z (Εa (j q w))),(λq z w=>B q (Εa (j q z)) w),(λb o f e=>(U.2 b f).trans e),(wp (zA Œ (zA (eC ò) zF))),(X.take k++r.toList++Y.drop e),(PySem.F.args_tuple_add_2 _ _),(PySem.F.args_dict_values_1 _),(Ĉ t==ϑc),(Φc (.bl (!decide (x=.zG)))),(Ş (x/2 ^ ((l:Å)).toNat)),(Ş (g*2 ^ ((n:Å)).toNat)),(Ħ ĕ ĕ hi-Ħ ĕ 0 lo),(Ħ ç ç hi-Ħ ç 0 lo),(Ëa o ĵ Ö Ċb=ý o Ö),(um Đ (jl Č (tL ŀ) tK)),[.int (i:Å),v],List.takeWhile_append_of_pos,[À (Â,.lst òe),Ä,Ä],[À (Â,.dic öa Ĺa),Ä],[.str "d",.str "s",.str "n"],(ϊb e Ä ϻc Ö=pure Â),(Čb general' āc #[] 7 Ä),(λc f m e=>g a d i c f m e),(xJ ["four"] ["byte","low"]),(wd A k+wd B k+qk A B Â k),(st ϟ a b c (kP f) (vP f)),(if g=f then À u else k g),(!(Øc j i 0 Ča 1).isEmpty),Option.isSome_iff_exists.mp,Builtin.Builtins.bindParams,(Ëa e f Ö Ϟc=ý e Ö),(λq=>(t q/\¬ L1 q)\/L2 q),(λd1 d2 v=>O8 I n d1 d2 v),(λa=>decide (jQ ps a≠0)),(zj 3 (za gH (zA Č ĺa))),(zZ Æa zY (wP ğ tF) Ĕa),(e2 qU (e2 vy ŀ Đ) ŀ),(call (.builtin a) (v::us)),(by with_unfolding_all rfl),([]++xF (vI w) A (s+0) ŋ),(Gv (A:=A) (B:=B) (u:=u) k),(.own (.dic (kP d) (vP d))),(e2 vy ŀ þ),"dict_reverseitemiterator",List.takeWhile_cons_of_pos,Int.fdiv_eq_ediv_of_nonneg,Builtin.Slice.sliceApplied,Array.toList_setIfInBounds,(λb p=>b++sep.cps++p.cps),(zj 2 (e1 (xY tu kJ) þ)),(ze VH a rfl (zB ğ ŋb)),(zZ (zX (zR d)) zY Ę zH),(seqItems? (.ref S) >>= _),(if ϛf=Æ then _ else _),(if p.1=a then(a,b)else p),(by rw[mirror_size];omega),(W.methodObj İ (.ref y)),(P++xF (vI w) N (s+p) ŋ),slot_tuple_getitem.lookup,PySem.F.entry_dict_values,["thing","kind","fields"],(Ëb (ϥa q ľ Ý f c)),(Ëb (ϥa c ľ Ý f g)),(Ëb (ϥa a ľ Ý f b)),(Ε ((isort a).map Ş)),(τ.set i (À (Æ,d'))),(λf vs=>PySem.call f vs),(rule "list.sort.gallop"),(cV đ (λb a=>ŗb.1) k),(X.N.map (hide own)++own),(.nx (Χ (À (Æ,a)))),(.ins C dx (putF f y fs)),(.call (.ref N) {Òa,[]}),(.Compare a [op] [b] pos),((Ϟf).map λ_=>D.bl Æ),((h.endLine==f.line)=Æ),slot_list_getitem.lookup,PySem.F.type_dict_values,0,PySem.F.slot_tuple_index,[.int x,.tup Ĕj,.int n],(ψa (λ_ j=>0<j) (i%j)),(ţ q++ϝa ϒ (j+1+m)),(zj 4 (za gz (Θ Źe))),(xs.drop (Ħ ç 0 lo)),(seqObj Ġ d.toArray 0),(partsBetween x Ϸi Żb),(e1 (xY uk ul) (eC ϩc)),(by unfold zA;rw[R];rfl),(by rw[e];simpa using n),(by exact 3<=â;decide),(by exact 12+_<=_;omega),(args_tuple_getitem _ _),(Option.map (λx=>!x) y),(.Attribute o "get" š),"itertools.zip_longest","_law_number",PySem.F.slot_dict_items,PySem.F.plainAttrs_list,PySem.F.entry_tuple_add,Nat.testBit_mod_two_pow,Nat.testBit_div_two_pow,List.mem_iff_getElem.mp,List.length_pos_iff.mpr,Builtin.Dict.updateFrom,[.int w,.int 31,.int 1],[.int a,.int (jQ ps a)],0,(Δ (((3:Ã):Å)+1)),(Δ (((2:Ã):Å)+1)),(λx l r Q c T N O=>?_),(zx òb xN îb ņa Ą),(zj 13 (e2 yf Đ Œ)),(zj 13 (e2 qU Đ Œ)),(Xh z B u hv {C} v a d),(List.take_sublist _ _),(({#[c]}:È)++ϊc.2.2),(À (.fz d)),("r" ++ yD n),"WordMachine.__init__",x.cps.toList.dropWhile,wpAny_pyNext_list_item,wpAny_Call_method_late,PySem.F.slot_tuple_add,PySem.F.entry_max_loop,PySem.F.entry_dict_get,PyProof.Rows.bitAnd_pp,List.pairwise_cons.mpr,List.getElem?_set_self,[ϻa,"_law_first",ŕe],(īd a (čb λ_=>#[])),(λq z=>(ϴ).mpr đc),(λc=>L_ x (z+1) c st),(λb o j e=>N b o j e),(λb o f e=>S b o f e),(λ_ _=>sortedAll_old),(zx YC YB Ôb Ϩa Ą),(zx YC YB ϗa Ϩa Ą),(zx Vc Vb Ϡb Ϩa Ą),0,(xL ["State"] "words"),(tG ϟ a b c ķ Ŝ),(rI C λi j=>.int Ŧa),(n.trans (Þb e.gh j)),(k.trans (Þb e.gh i)),(by rw[wu Ê];show w),(by rw[d];show{_,m,q}),(b.trans (ĭa b.gh f)),(Lw a b (ţ q) i Ÿa),(.inl {b,k,e,rfl,rfl}),(.While c body [] pos),wpAny_pyNext_list_end,X.s₀.heap.FunFrames,StrLaws.partition_sum,StrLaws.occ_length_le,Std.Legacy.Range.size,Nat.add_lt_of_lt_sub',List.Pairwise.sublist,Int.mul_ediv_add_emod,[.ref I,.none,.ref S],[.dic ķ Ŝ,.int x],(Ζ ((x+n)%65536+3)),(Ζ ((x+n)%65536+2)),(Ζ ((x+n)%65536+1)),(Ζ ((x+n)%65536+0)),(x.above y c (Ĕe h)),(wG (own:=[Ğc]) rfl),(vC (tE Đ) ŀ ĩ),(t_ (u.uc b c v q) d),(by simpa using this),(by simp only[Ü,q]),(by rw[<-ϋa];show b),(bg I l n hf e f d g),(M1 D.l2i2 J.toArray),(M1 D.l1i1 G.toArray),(F.args_zip_next_1 _),(.Slice lo hi Ä p2),(.Constant Ϡ ck cp),(.BoolOp .Or [a] pos),(.Attribute o f tpos),((åc : È)++yD ħg),"str_ascii_iterator","itertools.pairwise",wpAny_loadName_local,decide_eq_decide.mpr,codeAny_call_builtin,Nat.pow_le_pow_right,Nat.eq_of_testBit_eq,Nat.add_le_of_le_sub,List.getElem?_set_ne,List.all_eq_true.mpr,List.Pairwise.filter,Array.toList_reverse,Array.toArray_toList,[.Attribute o f èa],["one",ϣc,"borrow"],(Ξc (xJ Ϙf [ĸd])),(Γ (wK Tv Ql rfl)),(Γ (wK Tu Qk rfl)),(λz=>e (a.trans z)),(λq z=>j q (i q z)),(β++[À (.own d)]),(zA äa (zA ėg zF)),(wH x y&&dEqs xs ys),(u4 ĵa x #[] Ä g),(tE (e2 jm Đ Ϟ)),(if k then 1 else 0),(if a then 1 else 0),(by rw[ė]<;>omega),(by rw[zy z];show c),(Z2 a b Èd (i-1) j),(Xf.mpr {j,g,k,rfl}),(XU I w o hv ?_ q c),(Nat.min_le_left ..),(Nat.le_add_left ..),(.inr (j q (i q z))),(.Subscript o k èa),(.Subscript a b pos),(.Call c ē [] pos),(.BoolOp op [a] pos),(.Attribute o f èa),((Ϟf).map λ_=>Æ),((d q).mpr (.inl c)),"dict_itemiterator","Machine.registers",wpAny_loadName_cell,length_partsBetween,entry_tuple_getitem,beq_eq_false_iff_ne,Nat.sub_le_sub_left,List.mem_filter.mpr,Heap.get?_update_ne,Heap.SameBut.update,[Ŏ,"low",Ăc,ìa],[.str w,.str f2,d2],[.str w,.str f1,d1],[.str "d",.str "s"],[.str "d",.str "n"],(θc (.Name ğb p)),(θc (.Name Ńb p)),(Φc (Ιa (x=.zG))),(υa (.Name Ź p)),(Āa (min ç ċa)),(ĝ _ (ĝ _ ϟc)),(λx l r Q c q=>?_),(uE (wQ Ł) zH zH),(t_ (u.uP b e q) d),(storeName Ö x u),(qD λi j=>.bl Ŧa),(intBits_le_64 a b),(f x y&&qz f xs ys),(e1 (xY uk ul) þ),(by simpa using h2),(by simpa using e2),(by simpa using e1),(by rw[ť];show b),(by rw[ì];show c),(by rw[j,l];show i),(.tup (p.1.map kV)),(.str (yh Â Ĝ)),(.ret (.int j Ć)),(.Tuple elts kk tp),(.Assign če v pos),((şd : È)++yD s),((åc : È)++yD n),(("r" : È)++yD n),(zC (z7 7)),"internal:collect","dict.update.loop","Machine.__init__",wpAny_Constant_int,s.heap.IsTupleIter,getattributeRaised,SeqAt.EqAt.str_int,SeqAt.EqAt.of_refs,SeqAt.EqAt.int_str,Obj.data_mapFields,Nat.lt_of_le_of_ne,List.zip_nil_right,List.set_cons_zero,List.set_cons_succ,List.mem_filter.mp,List.getElem?_take,Int.mul_emod_right,Int.emod_lt_of_pos,[.lst ws,.int Âc],(ş λi=>Ãa Âc),(Ťa (ĭa c.gh e)),(ςa (ža es env)),(À (.Name x px)),(λv _=>v=.bl Æ),(λb u q=>ĝ _ q),(λ_ h=>Þ h ï),(λC s H b c=>Ę),(zj 2 (za Wj Żc)),(zj 2 (za We Żc)),(zf xO xM ğ Ę),(zf e9 e7 ğ Ę),(zZ ŭb zY ϰf zH),(zZ Æa zY Âa zH),(zZ Æa zY Ϲ zH),(zT G p (Vq f vs)),(zB ũa (Γ Þg)),(zA Œ (Α ů)),(wq [] [] p.1 p.2),(uW tm qC rfl Ę),(uW kH kj rfl Ę),(uW Tz Qq rfl ğ),(seqObj Ġ ϝ n),(lA kH kj rfl Ę),(gM (β.take ĥ)),(by simpa using t),(by simpa using c),(by simpa using Q),(by rw[Ś,o];rfl),(by rw[Ś,n];rfl),(by rw[Ś,k];rfl),(by rw[Ś,i];rfl),(by rw[Ď,Ď,l]),(by rw[ė];omega),0,(args_list_sort _),(Txt.endswith z y),(Ma t1 t2 h l1 l2),(MZ t1 t2 h l1 l2),(Lm a b Èd ù j),(.obj á îe ϖi),(.Tuple es x1 pos),(.IfExp c a b pos),wpAny_sequenceKey,wpAny_pyIter_enum,wpAny_assign_Name,meets_dict_values,decide_eq_true_eq,d.params.defaults,Value.isInt_shape,Nat.add_sub_of_le,List.nodup_append,List.getElem_take,List.getElem_drop,Int.emod_eq_of_lt,Builtin.Str.glued,Array.size_append,[ϲ,"looked_at"],[ìa,Ăc,"power"],[.str w,.str "s"],[.str w,.str "n"],[.str k,.str "s"],[.str k,.str "n"],0,[.lst Ϩ,.int k],(ϵ i q (t q z)),(ϵ i q (C q z)),(űe b o e n F t),(ŕb (i.trans n)),(ζc (i*2 ^ ϝb)),(ϥa g d Ý f F),(Μc (o q z Ġj)),(τ++Ŷ ôb Ä),(λx=>x.1.isSome),(λi=>c.getD i 0),(zf tN jy zH Ę),(ze XN b rfl Ŝa),(ze QK b rfl Ŝa),(zT a p (.lst c)),(y.toList.map w6),(x.toList.map w6),(we (s.free r) _),(wb (L4 (vj uD))),(wI (rg s w1 w2)),(i<1099511627776),(by rw[z];show a),(by rw[j];show T),(by rw[j];show J),(by rw[c];decide),(List.cons.inj a),(.tup [d1,d2,d3]),(.tbl (ps++more)),(.str (yh Æ 0)),(.inr (.inr Ŀa)),(.Pass {0,0,0,0}),0,(.Dict [] [] pos),"odict_iterator","_law_mark_here","State.__init__","REGISTER_COUNT","Machine.stands","Machine.memory",z.cps.toList.map,wpAny_pyIter_zip,wpAny_execs_cons,wpAny_eqBool_int,noFill_tuple_add,g.heap.objs.size,W.cellsFrom_some,SeqAt.in_tupleAt,Option.getD_none,Nat.zero_testBit,Nat.succ_lt_succ,List.map_snd_zip,List.any_eq_true,F.entry_zip_next,[{À Ĥd,e,kp}],[x0,x1,x2,x3,x4],[.str f2,.str a],[.str f1,.str b],[.lst ws,.int a],[.int 27,.int 5],[.int (i:Å),d],(Κ (xY T_ Q2)),(λz=>h (ϝc z)),(λx y=>Įa Ťb),(λq=>İe\/L2 q),(λq=>nomatch q),(λq z=>h q Ϧd),(λc=>nomatch c),(yL x ϑi Ä g),(wq [] [] ks us),(gM (β.take b)),(e1 (X9 tu) þ),(by simp[ϫg,c]),(args_sorted1 _),(a.symm.trans e),(a.map λ_=>.zG),(XD Ŀa Í Í),(XD ą Í Í),(N+T*(eR r*256)),(.tup [Řa,òc]),(.obj á [] []),(.done (Ä,())),(.cons rfl .nil),(.builtin "sum"),(.builtin "all"),(.bl (a.all id)),((Ďd).length=n),"type.__call__","list_iterator","NUMBER_WIDTHS","Machine.steps","Machine.marks","Machine.again",vs.toArray.size,sc.names.lookup,list_sort_plain,entry_list_sort,Option.map_some,Nat.testBit_and,List.zipIdx_nil,List.map_const',Int.emod_nonneg,Int.ediv_nonneg,Heap.DictOf.new,F.slot_int_rmul,Bool.or_eq_true,[À Œc,x1,x2],[.int 0,.int W],[.int 0,.int 8],[.int 0,.int 5],[.at [ĸ] ϛa],[.at [á] Ąb],[.at [á] Ϻa],(Τ (Α ťc)),(ζc (i ^ ϝb)),(Ĭe (ϓa x z)),(ŀb (šc įc)),(Δ (jQ ps a)),(Δ (i+b2i k)),(Ε (xs++[y])),(ÿb T {#[10]}),(ža [e,f] Ö),(σ++Ŷ 1 Ä),(σ++[À Ů]),(xc A b tg ù),(vz ks ms k m2),(q _ _ _ d rfl),(j5 .tuple Č),(h.swap.pa e c),(ge (qv 4) ũa),(f x (Ä,l,r)),(eC (.int 256)),(e2 zL Œ ĩ),(e2 yf Č þ),(e2 kF Œ Ϟ),(e2 XC Č Üf),(e2 V8 Č þ),(e.2.2.2.2.1+1),(cq λi j=>i+j),(by simp;omega),(by kernel_rfl),(Z0 rfl tT Ę),(Rd.tw t ğj q),(Ot I v n ?_ c),(Nt sp [] E0 t),(K.ext.trans x),(I.ok.WI b o e),(.tup (êd kV)),(.str (yh u i)),(.nx (Χ ñc)),((ϴ).mpr Õb),((ϻf).map Ş),((u p).mpr rfl),"str_iterator","NAME_LONGEST","Machine.step","FIGURES_MOST","ADDRESS_BITS",wpAny_setField,wpAny_notIn_of,slot_list_sort,sliceRange_one,slicePart_none,recursionLimit,firstArgMember,env.scope.kind,c.resolve_left,PyData.keyHash,Nat.add_le_add,List.take_zero,List.forIn_nil,List.drop_zero,J.toArray.size,G.toArray.size,Builtin.bitXor,Bool.and_false,[Ϙ,"places"],[.dic ķ Ŝ],(âb [:n] c f),(ĺe tg Ϝa u),(Φa (eC ęa)),(Ğd (Ä,())),(ēe (ύa ?_)),(ÿb x {#[c]}),(Ĉ ãa::Çd),(Ó (ĩj h1)),(Á V×Á D),(τ.set i ñc),(λi=>Èf i 0),(β'++[À m]),(yL x p Ä g),(xV x&&ķc xV),(we (Że j) _),(we (Że i) _),(wc ks ds x y),(wK Tx Qm rfl),(wK OK LP rfl),(qx c m fo zF),(qX fs vs f w),(qX fs ms f e),(pre_splitW b),(l.lst hl ķa),(j5 .list Č),(glued sep ts),(eC (.int 64)),(d2 q (G▸f)),(d.lst hl ķa),(cutS z lo hi),(cr A B u Ĝ),(by size_fits),(by rw[P];rfl),(b.getD j .zG),(a.getD i Â),0,(H _ _ Ê ?_),(AP X z6 σ Q),(64+4*(m:Å)),(64+4*(k:Å)),(32+4*(m:Å)),(32+4*(i:Å)),(.tup [d1,d2]),(.str (Ϻc i)),(.int Ŧa Ć),(.int (w:Å)),(.int (j:Å)),(.ins C dx []),(.fz (.int k)),(.builtin ųa),(.List es pos),"list.append","Machine.run",x.toList.drop,tupleItemsOf_,swapsWithSole,swappedStores,subscriptTail,seq_tuple_add,s.heap.IsCell,r.length.symm,h.IsTupleIter,getItem_tuple,evalPart_none,0,call_list_seq,WData.layable,Value.isStrOf,Nat.reduceSub,Nat.reduceAdd,NameKind.free,NameKind.cell,L2.isort_perm,Int.add_assoc,E.ext.gh.free,E.ext.g.trans,Bool.true_and,[öd,ϣc,ąc],[Ûb,Úb,Ìb],[Ϣ,Őa,Ϻa],[Ïa,ľb,ġa],[Ŏ,Ïa,ľb],[Ĵ,ϛa,ϻ],[z,TI,TO,t,r],(θa (Ùb f)),(ūg lo n ok),(ζa (À a)),(ϩe%65536+3),(ϩe%65536+2),(ϩe%65536+1),(ϩe%65536+0),(ϒe ē Ö),(Ĕc _ _ n x),(Ϻf (Êg d)),(Đe%65536+3),(Đe%65536+2),0,(Đe%65536+1),(Đe%65536+0),(Δ (2 ^ w)),(ý îa Ö),(À Œc::yJ),(σ++[À b]),(λo j=>o++j),(zU (zl Ę)),(zT H' a ň),(zT H' D Ąc),(zT G' a ň),(xx.size-1+1),(xc A b tg i),(v4 ps x İc),(tP ps Ŷe v),(qb 4 j6 äa),(kR kvs more),(jw r.2 i π),(j p (i p w)),(c*134217728),(b.gh.free f),(Zr xs lo hi),(Xv (K:=K) e),(St->Hp->Ç),(H _ _ lo ?_),(EP X c σ Q),(.str s t::r),(.str (i++j)),(.Name ųa p),(.Name Ġ p),((n:Å)*8+d),"startswith","dict_items","_law_found","NUMBER_LOW","NEAR_CODES",w.cps.toList,sortedAll_at,plain_sorted,listItems_at,entry_sorted,e2.length_eq,d.toList.any,c.symm.trans,W.kitx_tuple,OwnMs.length,Nat.sub_zero,Nat.mul_comm,Nat.lt_asymm,List.mem_map,List.all_map,K.ext.h.free,Int.zero_add,Int.sub_zero,Int.max_comm,Int.add_zero,Int.add_comm,Array.toList,(àa .NotEq),(àa .IsNot),(Ŷ Õa xs),(λz=>h ϰc),(λz=>c Ϸb),(λx v h=>h),(λi v h=>h),(λc=>p ļf),(λb v h=>h),(zU (zl xR)),(zT H l Ţd),(zT H l Êj),(zT H l Ąc),(zB Ł Ÿe),(zB Ł Ŷb),(zB Ę Āb),(zA Đ ňb),(zA þ ĺa),(z.bs b o e),(yL y p f g),(xo ϕ ŋ),(xV o&&xV j),(xJ Ϙf Éj),(x.rebase y),(wl s u ù),(vY fs fg g),(uT kvs k y),(tC (.ty T)),(qB m π m2),(p9 ĩ þ),(okb.UZ b d),(newList []),(loop _ rfl),(k.append o),(i+1+1==ó),(by cases h),(b.h.free f),(b (pJ r.2)),(a.map V.bl),(VB X.K n t),(MY t1 h l1),(I.Yf x c e),(DN a o kvs),(DK a o kvs),(.type T.nm),(.tup [òc]),(.tup [v,u]),(.tup [u,v]),(.tab ks ms),(.int n::us),(.inr {g,f}),(.inl {z,w}),(.inl {g,f}),(.dic ks ds),"partition","distances","WORD_BITS","NEAR_BACK","FAR_CODES","BYTE_LOWS","BYTE_BITS",wpAny_of_eq,wpAny_in_of,unsupported,t.heap.get?,subscripted,o.ExactDict,ns.Pairwise,mirror_perm,l.takeWhile,kind_sorted,keywordEach,k.objs.size,interactive,c.objs.size,acc.toArray,W.kitx_dict,Value.isInt,Value.bytes,Shared.heap,Reps.append,Paired.snoc,OwnMs.split,Option.none,Nat.sub_sub,Nat.pow_pos,Nat.le_refl,IsRangeIter,Int.pow_pos,I.ok.qm.mem,I.ok.frames,Heap.ExtBut,E.ext.trans,D.TOi1.symm,Code.guards,Code.frames,[a,.fz Òj],[a,.fz Âj],[S,.fz Òj],[S,.fz Âj],[.Name x p],["key",Ĥd],(Λa (łe)),(Χc (ĩa)),(Ιa (i=j)),(Ηa (i-j)),(ϝa m Ÿa),(ý e env),(ý a Ö),(Öc ϯi b),(Ĳa _ ī),(Ŧ Ϝb f),(Ŷ k its),(À (_,d)),(zj 16 ŀ),(za Yt ĳa),(za Wp ĳa),(za Wc ĺa),(zX (zR a)),(zT H' D o),(zT H x o'),(zT H a u'),0,(zB Âa zM),(zB Ł zM),(zB ğ zM),(zA Ūc zF),(zA ů zF),(zA Č zF),(zA ĩ zF),(xw I q ?_),(vh Yo Éa),(uq ż[i]),(ug Œ uB),(ug Đ uB),(tz Ϲ jD),(tz Ł jD),(n=0->v=dv),(n d v c r),(j.cut l h),(i.cut l h),(fs.zip vs),(d.mono hk),(by show N),(as.zip vs),(W.sub _ h),(SP X z6 D),(Et f y fs),(8*2097152),(4*(i:Å)),(.yH o Ċa),0,(.type Ēa),(.rt Æ d),(.rt m β2),(.ok .next),(.int done),"endswith",z.cps.size,wpAny_load,us.toArray,uA.none_of,typeLookup,size_push',pushGuards,out.toList,m.zb.fresh,l.swap.fin,l.Pairwise,isTrue_and,f.zb.fresh,closureFor,checkCount,call_gives,WShape.has,W.handedIn,PlainAttrs,OwnMs.putF,D.i2z.symm,D.i12.symm,[p0,p1,p2],[.tup æj],[.tup Ϫi],0,[.lst ϟ],(Ōe C dx),(Ġa<1000),(Æb this),(Ŷ k xs),(ç==ċa),(Æ==Æ),(Ý==ϩg),(λv h=>h),(λ_=>Â),(λ_=>rfl),(λ_=>.zG),(zj 9 Ŗb),(zj 2 ϒj),(zj 2 ĩ),(zj 1 Űb),(zT H a c),(zT H T o),(zT H D o),(zT G p u),(zT G p o),(yg b=Æ),(xo B ŋ),(xh 10 11),(xY jo jp),(xY XH Y1),(xY XG Y0),(xA A ù),(wd ϕ k),(vi its k),(v4 d u v),(uh Ėa i),(uT f k v),(truthy v),(this▸q),(q b ob e),(o.getD d),(kf ks ds),(j+1==Ű),(d.db ķa),(d.da ķa),(by rw[h]),(a.d4 X G),(Yf y c e),(YF h o e),(Vd k=Æ),(Vd b=Æ),(QR đ n),(P.zip vs),(L.map pD),(Gb e=Æ),(2 ^ 63-1),(.tup ŭj),(.tup Ŀg),(.tup Ėg),(.tup Ĕj),(.tup Āj),(.tup æj),(.tup Åj),(.tup Ěd),(.tup Ϫi),(.tup Ϯf),(.tup èc),(.str Ûf),(.str âk),(.str Çf),(.str Ňd),(.str Ŭa),(.str x t),(.str "r"),(.str ";"),(.str " "),(.ref Įd),(.ref ãa),(.ref Ąa),(.lst ϟi),(.lst ϔi),(.int ĕ),(.int ç),(.inr źe),(.inr Ğc),(.inr ąc),(.inr Ēd),(.inl Âc),(.inl p.1),(!vW ks k),"NEAR_ON","Machine","LETTERS","FIGURES",zs.length,z.sameBut,updateSeq,spos.line,slicePick,sh.extBut,sg.extBut,s.heap.Ns,pu.isList,oneLt_int,ok.frames,maxI_uniq,lastMarks,l.swap.sa,kvs.foldl,k.toArray,isTrue_or,i.g.trans,h.swap.ca,h.IsTuple,h.DictOfH,getMethod,g.isEmpty,es.length,c.g.trans,Reps.take,Reps.getK,Reps.getA,Reps.drop,I.zb.kept,Decidable,Arguments,[ϝd,ϻ],[Ìk,ŕe],[ϲ,Ŏa],[Ϣ,Őa],[Ĵ,ėa],[x,y,z,u],[w,x,y,z],[v,ov,iv],[.p 0 []],[.lst []],["State"],(Ųh ù),(Ķf Ϝa),(ϲd Įd),(Èf i 0),(Ϫg ċ),(Λa Äh),(ζa ák),(ťj=Æ),(Įc Ĉ),(ϯb s h),(Ϧb Ác),(Þb s r),(Τb ťj),(ć f N),(Θa ũa),(Ηa Ŧa),(Δ Ŧa),(Ε ϋc),(Ϟa Űe),(Χ Āh),(ÿb z y),(ÿb x y),(Γ īe),(Γ ũa),(Γ ϕa),(àa .Eq),(Āa ϙa),(Α Ýf),(Α Ūc),(Α Űb),(Η ũa),(ς Ŷk),(Ça _ e),(Ça _ d),(č ϯi),(č Ģa),(Ô þh),(À åj),(λz=>?_),(zA f fs),(ys++[y]),(xB K gE),(xB K ZW),(xB K ZV),(xB K WX),(xB K WV),(xB K WQ),0,(x/2 ^ l),(x a o e),(vk ks x),(vi [] 0),(vZ K gD),(vZ K WU),(vZ K WT),(vZ K WS),(vZ K WR),(u e1 e2),(st::sts),(r.app h),(q _ _ d),(p_ F fa),(o++x++y),(kR [] c),(k K b z),(i _ _ e),(h r g f),(h p ī),(f _ _ e),(d+k+x.2),(cut H L),(byt N i),(b.val k),(b _ _ e),(a[Õa]?),(a++[yv]),0,(Td ns k),(IK lo n),(Hp->Ç),(E b o e),(A.n X G),(A q đc),(A q ša),(2 ^ w-1),(.v d::a),(.tup []),(.str P1),(.rt o d),(.ref ZQ),(.ref ZP),(.ref ZO),(.ref WP),(.ref WO),(.ref WM),(.ref WL),(.ok Ųd),(.nx σ'),(.nx r.2),(.int g0),(.int 21),(.fz Ń),(.dK ĝa),(!(a==b)),(x==("__debug__" : Str)),(uu ύ xn),[.Constant (.str y) ck1 p1,.Constant (.str z) ck2 p2],(by cases y<;>show c),0,(uu ύ tF),(wG (own:=[όd]) rfl),(λd=>À (Â,d)),(by show ķf {?_,?_};rintro(⟨z,w⟩|⟨z,w⟩|z);show .inl {z,λy=>w Őf};show .inl {j q z,w};show .inr z;rintro(⟨z,w⟩|z)),(by subst e;let{o,e,c,d}:=st;show{o,e,λv z=>by rw[d]at z;cases z}),(by omega;rintro _ g (⟨f⟩|⟨l⟩);show î {g,rfl,_,rfl,f}),(by let{t,p,k}:=h.h;show{{t,p,λE a q=>?_}}),(by decide +kernel),(by intro c s σ H x y v u Q I a b h),(by let{c,B,rfl,f,k,t}:=r2;cases(show u=Ĉ a from rx);cases(show v=Ĉ c from ry);by_cases hac:a=c;subst hac;rw[O8 I ı _ _ _ q m o]),(by rw[show ľd űa=ϋf űa by simp,TY r c];show q),(by intro m s σ H x y v u Q I d g h;let{o,j,k,e,f,i,q}:=h;by_cases hf:Ňm=Æ;let c:=hf;rw[Ğ]at c;let{a,b}:=iW i c.1 c.2 e f),(by cases e;rw[Ŕ]at c;subst c;show{_,v_ ő,?_};simp only[Ĳb,Ÿ,Ŗ]),(by intro e s σ H x vs v d Q I b a h;let{z,y,rfl,rfl,q}:=h;let{t,rfl}:=(show ∃t,v=ĥa z t from b);let{u,rfl,c,rfl}:=wv a),(by intro X Z T L n i z6 s σ H E I J st y;subst Z T L;let{ok,ov,g}:=st;let{_,f,j,N}:=V9 đ y.1 d;let r:ċa=Ĺ:=jC j),(by by_cases c:A q;show .inr ûh;show .inl {z,c};show .inr ša),(by intro X L G y O i Q s σ H E I t st B;subst L G y;let{vs,f,A}:=g ô ß ŗ;let n:ü=Ŋ:=by rw[jC f,ĸa,R,Ľa]),(by let{O,A,e1,Q,j,R}:=ϧc r a;let{v1,L1,X,S,i,Y}:=ċf Z Q ee),(by cases e;rw[g]at a;cases a;rw[l]at b;cases b;show Ϲb r c),(by simpa using this),(by let{a,z,rfl,g,j,B}:=n;let{c,w,rfl,f,k,q}:=o;cases(show u=Ĉ a from m);cases(show v=Ĉ c from p)),(by intro X G C x L i N s σ H E I r st n;subst G C x;let{_,g,f,y}:=V9 đ n.1 d;let m:Öb=Ĺ:=jC f),(by by_cases c:k'=k;rw[Ò c]at e;cases e),(by rintro _ _ ⟨rfl,rfl⟩),(by by_cases hb:b=a;subst hb),(by show this),(by obtain⟨⟨n,g⟩,q⟩:=g;subst ex),(by rw[<-(Ãd).Yi,<-l];show h _ ϳb;subst f;cases(show u=Ĉ b from m);let{z,i,r,c,j}:=V5 đ e),(by simp only[Ď,Śa];omega),(by omega;let e:qk A B u Ĝ=tk A B u k/4294967296:=rfl;unfold cr;rw[e];show Ĥk ?_;omega),(by obtain⟨⟨m,β1⟩,hy,a⟩:=zD a;let{y,ey,a}:=zD a;cases TZ ey;let{nd,hn,a}:=zD a),(by intro X hP hw hK d i z6 s σ H E I hf st hg;subst hP hw hK;let{f,j,{u,v,n},m,p}:=st),(by split at a),(by intro e s σ H x y v u Q I b c h;let{i,j,rfl,rfl,q}:=h;let{t,rfl}:=b;let{d,rfl}:=c),(by intro X hP U L b i z6 s σ H E I C st N;subst hP U L;obtain⟨⟨old,g⟩,j⟩:=st),(by let{u,rfl,m}:=wv r;cases(show u=Ĉ a from m)),(by dsimp only;rw[Ó Ê];refine ä Ϸl;cases e2:B Ϻe;show î (O e2);show î (N e2)),(by split at h;rename_i e),(by intro X S R J O i Q s σ H E I F st q;subst S R J;let{y,B,f2,G,p,C}:=F it ï),(by rw[ő];show Ŧ Ōa.1 ÿa),(by intro X x r j l i A s σ H E I f st m;subst x r j;let{p,q,L,y,g,u}:=f it ï),(by rw[Ó c]at b;cases b),(by rw[Ò c]at b;cases b),(by let{g,f,d,r,z,q}:=c;refine{by rw[<-ũ];show z,?_};let l:f Ąa=Ä:=Ϫg ċ),(by simp only[c,ċb,Ŗ];show î (u c);simp only[c,ϖe,Ĵa,Ÿ];show î (v c)),(by rename_i lo y q g L R;let G:=żh;have ll:ìd=lo+Ĥc:=by rw[<-ť,i,í,o]),(by split at d),(by intro b m;exact b<(Þa _).objs.size;rw[āb];simp only[Ļa,Ìa,ňa]at m),(by by_cases hj:j=i;subst hj;rw[hi]at e1;cases e1;rw[ìk L]at e2;cases e2),(by show{ϕd,λb q=>?_,g};cases q;let{ob,_,_,h,i,_}:=c;show{ob,h,i.2.1}),(by let{v,r,rfl,b,a}:=h),(by let{u,rfl,t,rfl}:=wv r),(by let:=Ča;rw[ì]at this;rw[ė];rw[đo]),(by cases(show _=[]from r)),(by show{?_,?_};rw[t];unfold kX cr;by_cases z:qk A B u k=0;rw[į Ê,z]),(by intro j s σ H x y v u Q I c f h;let{a,b,k,rfl,rfl,e,q}:=h;cases f),(by show ïb _;show êc c;rw[<-l];show lK A;intro C tk t' k;rw[<-l,e]),(by rw[ĩk (Ùb hj)]at e2;let{Z,T,q}:=hl j y v' e1 e2 e3;show{Z,T,?_}),(by let{p,a,w,e,g,l,r}:=h;let{d,b,c}:=İf r;show{d,{p,a,w,e,g,l,b},c}),(by cases a;show{_,_,b,c,q _ _ _ ϫ rfl}),(by let{F,e1,G}:=g x n;let{E,e2,J}:=g w y;show P j F E _ _ e1 e2 G J),(by intro l s σ H x y v u Q I f j h;let{p,k,rfl,b,g,c,q}:=h;cases j),(by cases f;rename_i g h;let{a,n,rfl,B,k,_}:=t;let{b,A,rfl,C,o,_}:=w),(by let{t,p,k}:=h.h),(by let{t,C,A}:=r.h;show{{_,(Þk).h,λE b q=>?_}};let{s,f,b}:=zD b),(by show Ô ϗl;exact Û è A _ P E { s with é:=(ϙf).push Ăd }),(by rename_i p i;let{a,m,rfl,g,h,_}:=f;cases k;let{w,j,b}:=HM h e),(by generalize xo N ŋ=BL at a ⊢;generalize byt N j=bj at a ⊢),(by change (match xV x&&ķc xV with|Æ=>À Ĳe|Â=>Ä)=À k at b),(by let a:xY uk ul ϩc=À čd:=by rfl),(by let a:=df (n:=n) Ê;rw[į (show ¬ 18<=n by omega),ϕc]at a),(by let{k,e,a}:=zD a;cases a),(by let{d,c,a}:=zD a;cases a),(by rw[Āo];let{i,j,rfl,rfl,q}:=h;let{t,rfl}:=a;let{d,rfl}:=b),(by rintro i v σ l ⟨e,c,rfl⟩;let{k,f,rfl,m,o}:=j (Ϗa l)),(by simp only[Ü,e1,e2]),(by rw[í,ì,ðb];omega),(by rintro g c v ⟨b,f,e,q,r,l⟩;show{b,f,e,?_,ϧa c r,l}),(by omega;rintro⟨q,c⟩ g ⟨r,e,f⟩;cases e;show î Ío),(by let{t,p,k}:=b.h),(by let{p,i,w,rfl,g,l,r}:=h;let{m,d,j,e,a,b,c}:=h';rw[Ċo]),(by let{a,z}:=u.qM b g q;show{a,by rw[zy (t_ z d)];show z}),(by show ŋj Ÿm Ğm Ġm Ġl ?_;unfold Builtin.«sorted»),(by rw[show(Ϯ).N.length=ú+ôb from af X own]at q;show q),(by let{x,g,f,k,d}:=e;let{c,rfl,d}:=d;cases k;show Ýc ?_),(by obtain⟨⟨l⟩⟩:=z),(by let q:=(Ãd).Yi;rw[Łg]at q;rw[<-q,<-l];show h _ ϳb),(by cases(show _=[]from h)),(by cases f;let m:(g++h).length<=â:=by rw[ŧ,í];show c),(by show{{o,e,d.1},λa e2=>?_};cases e2;show{o,e,d.2.1}),(by let{a,l,rfl,c,d,_}:=r1;let{m,k,e,b,f,_}:=r2;cases e),(by exact Û _ _ ϓn _ _ s;rw[Ó (show ¬ ώn from ņ)]),(by by_cases c:k'=k;rw[Ò c,Ò c]),(by let{t,h,q}:=c b A Ā s H vs Q E l d;show{t,h.t6,q}),(by split at z),(by simp only[Ü,G,H,I,hq,F,ld,pk,pp,bk,K,Q,X,so,v,y]),(by refine{u,by rw[wu ŭc];show y,?_};simp only[Ò c]),(by let c:(ĸc Üb:Á zV).length=Ũ:=by rw[ì,ϊf,ũ]),(by intro X L G y N i O s σ H E I n st B;subst L G y),(by intro X J F t N i O s σ H E I m st A;subst J F t),(by cases a;show q _ _ _ Ϟb rfl),(by by_cases c:L q),(by let{τ1,h1,a}:=zD (show(c _ τ).bind _=_ from a)),(by let{w,r,_}:=ĉb.2.2;rw[r];show x.h _ _ r;rw[Ąo]),(by exact(match qA 1 (w:Å)with|Æ=>À ăe|Â=>Ä)=_),(by exact À Ñh=_;rw[show Ýe=decide (i=j)from rfl]),(by unfold kf at b;rw[ųb,<-ġc]at b;rw[ĸa];show b),(by rw[this]at f;show Þ Àe Ϭ),(by let a:=Z6 A k;let b:=Z6 B k),(by exact Ϩc õh _=_;rw[U];rfl),(by let{a,b,c}:=ϵ i q z),(by let{_,_,_,_,o,_,_,e,d,_}:=đ p _ b;show{o,e,d}),(by let o:(Ęn).length<=â:=by let:=GD f k v;omega),(by intro l s σ H Q I h),(by intro d s σ H Q I h),(by simp only[í,Ď,Śa];omega),(by show ku (n:=(m:Å)) rfl Ê),(by rintro x _ J ⟨l,o,rfl,t,p,u,C⟩;dsimp only),(by let{k,u,f,i,n}:=a;show v d j σ u k l Q f i n),(by let:ĉd x=À .free:=a;rw[k]at this;cases this),(by let:b=Ý:=by simpa using z),(by cases(show v=_ from r);rfl),(by let e:x[b+i]?=À x[b+i]:=getElem?_pos _ _ Ê),(by intro e s σ H x y v u Q I d a h;let{c,q}:=h),(by show .inr z),(by rename_i c),(by let e:wz i=ώc+1:=by exact ńj=_;rw[Ó Ϯk]),(by let e1:=Ćk x y 0 Ða (Ða+1);rw[Ŏk];omega),(by rw[Ęo];rename_i b c e;show{b,c,e};cases a),(by rw[wu Ê]at this;rw[đo]),(by let{a,C,rfl,g,j,E}:=r1;rw[āo];show ċg _),(by let{G,ru,pu}:=I.WJ Z;let{J,B,pw}:=I.WJ hy),(by let e:Åf i=[]:=Ťc ıg;rw[e]at a;cases a),(by split at f;rw[Ħo]),(by show ða _),(by rw[Ŀo];show{_,rfl,λq=>{x,y,k,b,c,e,q}}),(by show .inl z;show .inr ťm;show .inr ša),(by rw[ϖa];show Ŕ),(by let{C,F,f2,N,u,J}:=t it ï;rw[<-n]at st),(by constructor),(by rw[ĸb hlt]at a;rw[ĳ hlt]at s;cases s),(by rw[a];generalize byt N j=bj at b a ⊢),(by split<;>omega),(by simpa using h),(by simpa using e),(by show{rfl,rfl}),(by show Ô ?_;simp only[Ŝg,ĺl,Ųg,ϋl]),(by rw[Ś,Ğ]at a),(by rintro _ ⟨l,_,_,z⟩),(by let{t,rfl}:=d),(by dsimp only;rw[Ò c];show î q;rw[Ĝo]),(by cases a;show{_,λ_=>rfl,λq=>{_,r,q}}),(by by_cases z:b=a;subst z),(by by_cases c:i=0;subst c),(by split;rw[ì];omega;rw[í];show ïa _),(by rintro _ _ ⟨rfl,y,q,g,rfl,d,a,F⟩),(by rintro _ _ ⟨rfl,l,o,rfl,t,p,u,C⟩),(by let{tv,S,kv}:=ōc;let{to,R,ko}:=ho.h),(by let:x≠n:=by rintro rfl;show h v ī),(by simp only[ŀg,Ĵa,Ÿ]),(by rw[Ŀo];show{_,rfl,λq=>cY b c e q}),(by let:=ÿa;omega),(by by_cases e:p.1=k;let a:q.1=k:=ģm e),(by split at h;rw[ŵo];show{c,h};cases h),(by split at b),(by show Ô (m:=úe Øb) ?_;unfold úe),(by show .inl {(ϴ).mpr ša,w};rw[Ŵo]),(by rw[eL]at E;let{f3,f4}:=T n u Ĵk o),(by rw[ON];unfold Wy),(by rw[t.ne b hb];show h),(by let{z,f,c}:=zD c;let{k,p,c}:=zD c),(by let{p,q}:=ći (P:=P)),(by let:c=b:=by simpa using ŕ ım d1),(by let e:=ũ;simp only[ť]at e;omega),(by intro o s σ H Q I h;show Ċd Ŧl),(by intro i s σ H Q I h),(by intro g s σ H D I h),(by obtain⟨⟨k,m'⟩,l,c⟩:=zD c),(by let{x,e,j}:=o.h;let{tb,r,n}:=i.h),(by let{t,e,i}:=l.h;let{tb,n,j}:=g.h),0,(by by_cases h:p.1=a;rw[Ò ġn,Ò h]),(by subst f;let{z,i,t,c,j}:=kC đ e),(by simp only[Ŗ]),(by simp at h1 h2;subst h1;subst h2),(by show ä ϩb),(by show q _ _ _ ϫ rfl),(by show .mem Ēd Í Í Í Í Ê Ê),(by show .inr {_,Ña _ _ e,λo=>?_}),(by show .inl z;rintro(z|z);rw[Ŵo]),(by rw[ĝo];cases e),(by rw[Ęo];rw[ŵo]),(by rw[í,ő];rfl),(by rw[e]at h;let a:y=n:=by rw[ϒo]),(by rintro(⟨z,w⟩|z)),(by obtain⟨⟨o,d⟩,b,a⟩:=zD a),(by let{us,G,pu,_}:=ű A;let Y:=Śn),(by let{tb,pb,kb}:=hb.h),(by exact(ôd).bind _=_),(by cases u<;>rfl)],[(zA ἀ zF),(zU (zl ἀ)),(zB ἀ zM),(.int ἀ),(.lst ἀ),(ἀ%65536),(λC s H b c=>ἀ),(zA Č ἀ),(zB ğ ἀ),(e1 ἀ Č),(zQ (yV ἀ ἁ yd) (zQ ἂ ἃ)),(.nx (À ἀ::yJ)),(pH Ñc rfl ἀ ἁ ἂ),(zU (qF ἀ)),(λC s H c d=>ἀ),0,(zQ (yV ἀ ἁ yd) (Β ἂ)),0,0,(zA Đ ἀ),(zA þ ἀ),(PyProof.Rows.wpS_modify ἀ),(σ.set i ἀ),(qG (tE ἀ)),(jO (wQ ἀ)),0,0,0,0,0,0,0,0,0,(zT H p ἀ),(À ἀ::yJ),(őc ἀ ?_),(zA ἀ zF),(wV ἀ qZ),(λr st=>∃g,st=yL a0 p0 f0 g/\qE ἀ ἁ r),(.Call ἀ [e] [] cpos),0,0,(yp (wt rfl ἀ ἁ ἂ ἃ ἄ)),(tE (e2 zh Č ἀ)),(wb (Y8 ôo Ĕa ἀ)),(vm ἀ þd),0,0,(wg vV vX rfl xG vS (xy ἀ xz)),0,0,(yo ἀ λc=>?_),0,(yV ἀ YN yd),(zg (wp ἀ)),(zB Ę ἀ),(yO (i:=1) (show (ἀ).Nodup by decide +kernel) rfl à),(PyProof.Rows.wpS_lift (PySem.wpAny_rule {rfl,ä ἀ})),(qY (n:=2) rfl (wV ἀ ἁ)),(gZ 0 [.at [ĸ] Ĵ] ĳb ἀ),((u q).mpr (.inr ἀ)),(vA (λC s H b c=>(Αa ἀ)) rfl),(qD λi j=>.int ἀ),(zf pE pC ἀ zH),(.bl (decide ἀ)),(č (Ô ἀ)),((ἀ).map ϐ),(Η (jP ἀ)),(wb (ju ἀ)),(zf xO xM ἀ ἁ),(uZ (qc ἀ ἁ)),0,(zB Ł ἀ),0,0,(yO (i:=3) (show (ἀ).Nodup by decide +kernel) rfl à),(Ô (PySem.wpAny_onRaise ἀ)),(tE (e2 zh þ ἀ)),(Xo (Γa ἀ ἁ) rfl rfl),(Β (vm ἀ þd)),(vA (Ο ἀ) rfl),0,0,0,0,0,0,0,0,0,(λC s H b d=>ἀ),(uw (tE ἀ) (tE ἁ)),(Z4 (tE ἀ) (tE ἁ)),(β.set i ἀ),(γ (Ε ἀ)),(ϒi _ _ ἀ),(vN (yp ἀ)),0,0,(Xu (tE ἀ)),(zA ĩ ἀ),(Xp ἀ rfl),(wZ λi j=>decide ἀ),0,0,(backTo pos ἀ),0,0,(.Call ἀ [e] [] pos),0,(XW 0 [.at [ĸ] ϛa] (eC ἀ) (vB ἁ)),(rI ἀ λi j=>.int ἁ),(λc=>î {g,rfl,jN.fin ἀ}),(qD λi j=>.bl (decide ἀ)),(yV íe (Β ἀ) yd),(uZ (qc (Ω ἀ) (pI ἁ))),(λc=>î (h _ _ ἀ)),(e2 zh ób (eC ἀ)),(Vx ἀ ἁ {l} ?_ ?_ ?_),(QY Ϧa øo yZ ἀ),(uw (Ψ ἀ) (tE ἁ)),(ÿd (ä ἀ)),(Γe (yp ἀ)),(yO (i:=2) (show (ἀ).Nodup by decide +kernel) rfl à),(wV (yO (i:=4) (show (ἀ).Nodup by decide +kernel) rfl à) qZ),(zf xO xM yZ (J6 Iz LA rfl gi V2 (xy ἀ xz))),(swapsWith v (À ἀ) pos.line Ö=pure Â),(Lg I_ LB rfl pM V3 (Γ ἀ)),0,(vm (zB Ł (zB Ég ἀ)) (xH (yM Ág) Í)),0,0,(if ἀ=Æ then _ else _),(qb 7 j6 (e2 yf (eC ἀ) (eL kG ἁ))),(ju (XX XJ b rfl (jt ύ ἀ))),(Wz (λC s H c d=>ἀ) rfl rfl),(zx Qg vE (zC ἀ) ņa (zn _)),(GR G H ἀ y u v d Q s e f öo q),0,0,0,0,0,0,0,0,0,(λc=>î {g,rfl,jL.fin ἀ}),(ze kL b rfl (Ι (Γ ἀ))),(tE (e2 zh (e1 ἀ Đ) Č)),(NW rfl rfl YT Iq (Γ ἀ)),(vM şe xN (zC ἀ) (zC ἁ) Ą),(qV (p_ Yr (qw 0 [] ἀ))),(λC s H fp pn=>Ip ἀ),0,0,(λC s H fp pn=>Io ἀ),(λC s H a b=>ἀ),(λC s H fp pn=>(ἀ).h),(qY (n:=2) rfl (wV ἀ ἁ)),0,0,(zg (e2 ἀ þ Đ)),0,0,(Η (Δe įf ἀ)),0,(rU λi=>.int ἀ),(zf tN Qc ἀ zH),(ze kM b rfl ἀ),(ze XM b rfl ἀ),(za qp (Εe ἀ)),(q _ _ _ ἀ rfl),(eL kD (Α ἀ)),(eL Zu (Α ἀ)),(zg (eL gQ ἀ)),(ἀ%4294967296),(Wz ἀ rfl rfl),(Ēe (Ô ἀ)),(w_lt rfl ἀ ἁ ?_),(.BoolOp .And ἀ pos),(λq z w=>by rcases z with⟨z,_⟩|z;show z;show i q ἀ),(.BoolOp .Or ἀ pos),(yO (i:=18) (show (ἀ).Nodup by decide +kernel) rfl à),(μ (wG (own:=["_law_k"]) rfl) (Z0 rfl tT (zf tN jy zH Ę)) (vA (Η ἀ) rfl) (Η (jP ἁ)) (Η (vm ἂ ἃ))),0,(λxs H Q=>(∃p ys,xs=[.ref p]/\ἀ/\Q ἁ H)\/∃z,xs=[.str z]/\ĕ<=â/\Q (.int ĕ) H),0,0,(LX I Ê ἀ j k h λd1 d2 x y u v d l b e i=>O7 I n A.in1 d1 d2 x y u v ἁ d l b e i),(vM òb xN (zC (ze tI b rfl ἀ)) ņa Ą),(λx y H Q=>y=.zG/\Q ἀ H),([114,53]++32::((ἀ).cps.toList++[])),(λx vs H Q=>∃z y:È,x=.str z/\vs=[.str y]/\Q (.bl ἀ) H),(.nx [À (.own ἀ),À (.fz Ŋb),À ĥd,À (.fz ἁ),À (.fz ἂ)]),0,0,0,0,0,0,0,0,0,(λx y H Q=>∃i j,x=.str i/\y=.str j/\Q (.bl ἀ) H),(yO (i:=2) (show (ἀ).Nodup by decide +kernel) rfl à),(vC (tE (e2 zh þ ĩ)) Ϟ (e2 zh (za vH ἀ) ŀ)),(rI Uf λi j=>.int ἀ),(λx y H Q=>y=.ref A/\∃k,x=kV k/\Q (.bl ἀ) H),(.Call ἀ [a] [] pos),(yG (i:=2) Vj.nd rfl à (ze Y3 b rfl ἀ)),0,0,(.done (À ἀ,i,m,ţ q++(ἁ).reverse,g,k,j-1-m)),(λd=>match d with|.int j=>.int ἀ|d=>d),(uE (zx òb xN ğa ņa Ą) xR (Υc ἀ)),(Γ (zf xO xM Ę (ze QH b rfl ἀ))),0,0,(by rw[size_push',ĭe];show ϓ ἀ),0,0,(υ (λc=>î {_,rfl,YM.fin ἀ})),0,(υ (λc=>î {_,rfl,YK.fin ἀ})),(zA (e2 yf (e2 yf ἀ ἁ) Àf) (Α (e2 zL ἂ Àf))),(.done (À ἀ,i,j-1,ţ q,g,k,u)),(Β (vM ěc jx ϗa (zC ἀ) Ža)),(ze tI b rfl (zB Ł (zB zH ἀ))),(.done (À ἀ,o++ąb i ἁ,i+k,j,g,k,u)),(Q w H->rU (λi=>.int ἀ) u H Q),(pI (zx Qg vE îb (zC ἀ) Ą)),(μ ùo (vN Ŋe) (vA ἀ rfl) (λC s H a b=>uY) (νb ἁ)),(Np (qv 1) (wt rfl Ēj ἀ Ϙi ἁ ÿh)),(λxs H Q=>∃p ys,xs=őb/\ἀ),(yp (pG OU a rfl (zB ἀ όa))),(šb β i π (.obj x šd ἀ)),(λq z=>zy λc=>z ((ἀ).mpr c)),(zx (tO ἀ) tM (zC ϰf) (zC ἁ) Ą),(Βb (ze OS b rfl (ω ἀ))),(Γ (ze QJ b rfl (ω ἀ))),(Β (vM òb xN ἀ Ġb Ą)),0,(Α (e2 yf þ (za IF ἀ))),0,0,(λc=>î {_,rfl,jL.fin ἀ}),(λc=>î (B λp j q f=>Ŵa ἀ ἁ)),(by rw[ř,<-ř ἀ,Ŕa,ex]),(e2 ŷe (e2 zL ἀ Àf) ĩ),(ψ (zA Đ (zA Ęg ἀ))),(šb r.2 i π (.own ἀ)),0,0,0,0,0,0,0,0,0,(Įa [.int ἀ,.int āh]),(λq z=>.inl ((ἀ).mpr z)),(zg (e2 vw Č (eC ἀ))),(ms.map À++Ŷ ἀ Ä),(êa ἀ ?_ λ_ _ e=>e),(Β (ze tI b rfl ἀ)),((ἀ).map λr=>.int Đi),0,0,(ĺf úo++Ŷ ἀ Ä),(ä (v6 e (ä ἀ))),(by rw[ì];show ἀ.1),(.Subscript a ἀ pos),0,0,(.Call ἀ õo [] Ž),0,0,(Ăe i rfl (Ô ἀ)),0,(zi ἀ λr s4 a=>?_),(zB Ĕa (zB Óc ἀ)),(zA ób (zA ïe ἀ)),(Z0 rfl tT (ς ἀ)),(.Expr (ι ἀ) pos),(wg (Iy rfl) L8 rfl Z9 Iu (xy (zC ἀ) xz)),(jP (zx (xP ἀ) xN (zC ἁ) ϗa (zn _))),(Θ (Α (e1 ἀ Űb)))],[(by first|(with_reducible first|exact Nat.le_of_not_lt ‹_›|exact Nat.lt_of_lt_of_le ‹_› (Nat.min_le_right _ _)|exact Nat.lt_of_lt_of_le ‹_› (Nat.min_le_left _ _)|exact Nat.le_trans (Nat.sub_le _ _) ‹_›|exact Nat.add_sub_cancel' ‹_›|exact (Int.toNat_lt ‹_›).mpr ‹_›|exact Nat.lt_of_sub_pos ‹_›|exact Nat.le_of_sub_eq_zero ‹_›)|((with_reducible refine Int.emod_nonneg _ ?_)<;>decide)|((with_reducible refine Int.emod_lt_of_pos _ ?_)<;>decide)|((with_reducible refine Int.lt_of_lt_of_le (Int.emod_lt_of_pos _ ?_) ?_)<;>decide)|lia|omega+splitNatSub),(by first|subst ἀ|(injection ἀ;done)|cases ((ἀ))),(by first|(have q:=ἀ;first|subst q|(injection q;done))|cases ((ἀ))),(by first|subst ἀ|(injection ἀ;done)|cases ((ἀ)))])
def q0 (h_0:0=0:=by first|show .inl rfl|show .inr rfl|assumption)(h_1:0=0:=by decide)(h_2:0=0:=by intro _;rfl)(h_3:0=0:=by rfl)(h_4:0=0:=by with_unfolding_all rfl)(h_5:0=0:=by first|show Ťi rfl|show ŀc à|show ŀc ŝa)(h_6:0=0:=by first|show ľa|show⟨rfl,ľa⟩|show⟨rfl,rfl,ľa⟩|show⟨rfl,rfl,rfl,ľa⟩|show⟨rfl,rfl,rfl,rfl,ľa⟩)(h_7:0=0:=by intros;show λ_ _ _ _ _ _=>rfl):Įb:=⟨⟩
def q3:=q0._auto_1
def q7:=q0._auto_2
def q10:=q0._auto_3
def q11:=q0._auto_4
def q12:=q0._auto_5
def q13:=q0._auto_6
def q14:=q0._auto_7
def q15:=q0._auto_8
noncomputable section
namespace L2
open ě ħ Ģ
abbrev zV:=Sum Å È
nonrec def Y4:zV->Value->Ð
 |.inl k,v=>ſm k v|.inr x,v=>Úm x v
nonrec def z4e(w:å):zV->Å
 |.inl k=>hashInt k|.inr x=>hashStr w x
def gW:∀{k:zV}{v:Value},Y4 k v=Æ->(∃i t,k=Ãa i/\v=Ēc i t)\/(∃x t,k=Üb x/\v=ĥa x t)
 |.inl i,v,h=>by let{t,e}:=Él (k:=i) (v:=v) h;show .inl {i,t,rfl,e}
 |.inr x,v,h=>by let{t,e}:=Value.isStrOf_shape (x:=x) (v:=v) h;show .inr {x,t,rfl,e}
def z4f(i:Å)(t:Tok):Y4 õi Øf=Æ:=by simp[Y4,ſm]
theorem z4g(x:È)(t:Tok):Y4 Įf ļn=Æ:=by simp[Y4,Úm]
theorem z4h(a b:Å):decide ((Ãa a:zV)=Ãa b)=ϋi:=by
 by_cases e:a=b;subst e;simp;let h:¬ (Ãa a:zV)=Ãa b:=λq=>e (ϝc q)
 rw[į h];show(Üc e).symm
def z4k(a b:È):decide ((Üb a:zV)=Üb b)=decide (a=b):=by
 by_cases e:a=b;subst e;simp;let h:¬ (Üb a:zV)=Üb b:=λq=>e (Sum.inr.inj q)
 rw[į h,į e]
theorem z4i(a:Å)(b:È):decide ((Ãa a:zV)=Üb b)=Â:=į Ęl
def z4j(a:È)(b:Å):decide ((Üb a:zV)=Ãa b)=Â:=į Ęl
def yn(Ē:ë)(w:å):PySem.KeyKind Ē w zV where
 is:=Y4
 hash:=z4e w
 inj:=λv a b g d=>by
  rcases gW g with⟨i,t,rfl,rfl⟩|⟨x,t,rfl,rfl⟩;rcases gW d with⟨j,u,rfl,e⟩|⟨y,u,rfl,e⟩;injection e with e1 _;rw[e1];show nomatch e
  rcases gW d with⟨j,u,rfl,e⟩|⟨y,u,rfl,e⟩;show nomatch e
  injection e with e1 _;rw[e1]
 byValue:=λk v h=>by rcases gW h with⟨i,t,rfl,rfl⟩|⟨x,t,rfl,rfl⟩<;>rfl
 pyHash:=λc h=>by rcases gW c with⟨i,t,rfl,rfl⟩|⟨x,t,rfl,rfl⟩;show wpAny_pyHash_int h;show wpAny_pyHash_str h
 eqBool:=λf c h=>by rcases gW f with⟨i,t,rfl,rfl⟩|⟨x,t,rfl,rfl⟩;rcases gW c with⟨j,u,rfl,rfl⟩|⟨y,u,rfl,rfl⟩;rw[z4h]at h;show Ăl h;rw[z4i]at h;show ſk i t y u _ _ _ _ h;rcases gW c with⟨j,u,rfl,rfl⟩|⟨y,u,rfl,rfl⟩;rw[z4j]at h;show Žk x t j u _ _ _ _ h;rw[z4k]at h;show wpAny_eqBool_str h
 «strs»:=λk x t v h=>by
  rcases gW h with⟨i,u,rfl,e⟩|⟨y,u,rfl,e⟩;show nomatch e
  injection e with e1 _
  subst e1;cases v<;>rfl
def z64(Ē:ë)(w:å)(i:Å)(t:Tok):(Ła).is õi Øf=Æ:=z4f i t
def GK(Ē:ë)(w:å)(x:È)(t:Tok):(Ła).is Įf ļn=Æ:=z4g x t
set_option genInjectivity true
inductive V where
 |zG|bl (b:Ð)|int (i:Å)|str (x:È)|byt (b:Ú UInt8)|Yh (b:UInt64)|ref (a:Ì)|ty (n:Åa)
 deriving Ňb
set_option genInjectivity false
def zw:V->Value->Ç
 |.zG,u=>u=ϑc|.bl b,u=>u=Æf b|.int i,u=>∃t,u=Ēc i t|.str x,u=>∃t,u=ĥa x t|.byt b,u=>∃t,u=ϊm b t|.Yh b,u=>∃t,u=ēh b t|.ref a,u=>u=Ĉ a|.ty n,u=>u=ĺh n
abbrev zm:Á V->Á Value->Ç:=Ŀc zw
theorem zm.length{xs:Á V}{us:Á Value}(r:zm xs us):ç=Ũ:=Áh r
theorem zm.get:∀{xs:Á V}{us:Á Value}{i:Ã}{x:V},zm xs us->xs[i]?=À x->∃u,us[i]?=À u/\zw x u
 |_,_,_,_,.nil,e=>by simp at e|_,_,0,_,.cons r _,e=>by simp at e;subst e;show{_,rfl,r}|_,_,i+1,x,.cons _ t,e=>by let{u,a,b}:=zm.get (i:=i) (x:=x) t ϒa;show{u,by simpa using a,b}
theorem zm.set{x:V}{u:Value}(r:zw x u):∀{xs:Á V}{us:Á Value}(i:Ã),zm xs us->zm ϣe (us.set i u)
 |_,_,_,.nil=>.nil|_,_,0,.cons _ t=>.cons r t|_,_,i+1,.cons q t=>.cons q (zm.set r i t)
theorem âf:∀{xs ys:Á V}{us ws:Á Value},zm xs us->zm ys ws->zm Õi (us++ws)
 |_,_,_,_,.nil,s=>s|_,_,_,_,.cons r t,s=>.cons r (âf t s)
theorem zm.take:∀{xs:Á V}{us:Á Value}(n:Ã),zm xs us->zm (xs.take n) (us.take n)
 |_,_,0,_=>.nil|_,_,_+1,.nil=>.nil|_,_,n+1,.cons r t=>.cons r (zm.take n t)
theorem zm.drop:∀{xs:Á V}{us:Á Value}(n:Ã),zm xs us->zm (xs.drop n) (us.drop n)
 |_,_,0,r=>r|_,_,_+1,.nil=>.nil|_,_,n+1,.cons _ t=>zm.drop n t
def uA:É V->É Value->Ç
 |À v,À u=>zw v u|Ä,Ä=>Įb|_,_=>õ
def KV{κ:Type}:Á ūa->Á Ϭc->Ç:=Ŀc λ(p:κ×V) (q:κ×Value)=>p.1=q.1/\zw p.2 q.2
nonrec def kV:zV->V
 |.inl i=>.int i|.inr x=>.str x
inductive HO where
  |lst (xs:Á V)
  |tup (xs:Á V)
  |dK (kvs:Á Ϗ)|dT (kvs:Á ďb)
  |set (S:Å->Ð) (n:Ã)
  |ins (C dx:Ì) (fs:Á Ĝb)
  |own (x:Ì)
  |xd (fs:Á Ĝb)
  |met (f x:Ì)
  |rng (lo hi:Å)
  |yH (o:Obj) (u:HO)
  |tbl (ps:Ú Value)
  |ext (φ:Heap->Ç)
abbrev Hp:=Ì->É HO
nonrec def zT(H:Hp)(a:Ì)(o:HO):Hp:=λb=>if b=a then À o else H b
def yS{H:Hp}{a:Ì}{o:HO}:zT H a o a=À o:=by unfold zT;rw[Ò rfl]
theorem zy{H:Hp}{a b:Ì}{o:HO}(h:b≠a):zT H a o b=H b:=by unfold zT;rw[Ó h]
theorem z6r{H:Hp}{a b:Ì}{o u:HO}(h:H a=À o)(h':H b=À u)(d:o≠u):a≠b:=by intro e;subst e;rw[h]at h';show d (ća h')
def t_{H:Hp}{a b:Ì}{o:HO}(h:H a=À o)(h':H b=Ä):a≠b:=by intro e;subst e;rw[h]at h';cases h'
section
variable(P:ë)(w:å)
def yz(H:Hp)(h:Heap)(a:Ì):HO->Ç
 |.lst xs=>ç<=â/\∃(its:Á Value) (n:Ã),zm xs its/\Ě a=À { cls:=.type Ġ,ă:=.seq Ϫ n }|.tup xs=>ç<=â/\∃its:Á Value,zm xs its/\ϵa h a Ϫ|.dK kvs=>Ĺ<=â/\Îa=Â/\∃vs,KV kvs vs/\Ìd ģa a vs|.dT kvs=>Ĺ<=â/\Îa=Â/\∃xs:Á äc,
   Ŀc (λ(p:Á zV×V) (q:Á zV×Ì×Value)=>p.1=q.1/\H q.2.1=À Ůk/\zw p.2 q.2.2) kvs xs/\
   ∃o es ep,Ě a=À o/\Ŵm/\Đa=.dict es ep/\es.toList=ĸc (entryOfKey ĵd)/\(ĸc (·.1)).Nodup
 |.set S n=>h.SetOf (intKind P w) a S n|.ins C dx fs=>H dx=À ϥd/\Ġa<=1000/\dx≠a/\Ě a=À ùn/\
   ∃mA,Žf dx mA/\(∀f,uA ęi źi)/\ìh mA (Įc (·.1))
 |.own _=>∃o,Ě a=À o|.xd fs=>∃mA,Žf a mA/\∀f,uA ęi źi|.rng lo hi=>∃t u v,Ě a=À { cls:=.type ğb,ă:=.fields #[.int lo t,.int hi u,.int 1 v] }|.yH o u=>Ě a=À o/\yz H h a u|.tbl ps=>Ě a=À { cls:=.none,ă:=.fields ps }|.met f x=>Ě a=À (W.methodObj İ Ûd)|.ext φ=>φ h/\(∃o,Ě a=À o)/\∀h1 h2:Heap,φ h1->(∀o,ąi a=À o->h2.get? a=À o)->φ h2
def xg(H:Hp)(h:Heap):Ç:=∀a o,H a=À o->yz P w H h a o
#print a
section
variable{P:ë}{w:å}{H H':Hp}{h h':Heap}{a:Ì}{o:HO}
theorem yz.lt(x:yz P w H h a o):a<ϙa:=by
 cases o with
 |lst xs=>let{_,_,_,_,e}:=x;show Ĥ e
 |tup xs=>let{_,_,_,p}:=x;show p.lt
 |dK kvs=>let{_,_,_,_,o,_,_,e,_}:=x;show Ĥ e
 |dT kvs=>let{_,_,_,_,o,_,_,e,_}:=x;show Ĥ e
 |set S n=>let{o,_,_,_,e,_}:=x;show Ĥ e
 |ins C dx fs=>let{_,_,_,e,_}:=x;show Ĥ e
 |own y=>let{_,e}:=x;show Ĥ e
 |xd fs=>let{_,{_,_,_,e,_},_}:=x;show Ĥ e
 |rng lo hi=>let{_,_,_,e}:=x;show Ĥ e
 |yH ob u=>let{e,_}:=x;show Ĥ e
 |tbl ps=>show Ĥ (show Ě a=À _ from x)|met f y=>show Ĥ (show Ě a=À _ from x)|ext φ=>let{_,{_,e},_}:=x;show Ĥ e
theorem ðf{α β:Type}{F G:α->β->Ç}:∀{l₁:Á α}{l₂:Á β},Ŀc F l₁ l₂->(∀a b,F a b->G a b)->Ŀc G l₁ l₂
 |_,_,.nil,_=>.nil|_,_,.cons r t,f=>.cons (f _ _ r) (ðf t f)
def yz.ZM(x:yz P w H h a o)(k:∀b u,(b=a\/H b=À ϥd)->Ě b=À u->Ė b=À u)(F:∀b,H b=À ϥd->H' b=À ϥd)(A:∀b xs,H b=À Ħa->H' b=À Ħa):yz P w H' h' a o:=by
 induction o with
 |lst xs=>let{z,l,n,r,e}:=x;show{z,l,n,r,k _ _ ą e}
 |tup xs=>let{z,l,r,g,e,c}:=x;show{z,l,r,g,k _ _ ą e,c}
 |dK kvs=>let{z,y,E,r,g,j,i,e,c}:=x;show{z,y,E,r,g,j,i,k _ _ ą e,c}
 |dT kvs=>let{z,y,xs,r,g,j,i,e,c}:=x;show{z,y,xs,ðf r λp q z=>{z.1,A _ _ z.2.1,z.2.2},g,j,i,k _ _ ą e,c}
 |set S n=>let{g,j,i,t,e,c}:=x;show{g,j,i,t,k _ _ ą e,c}
 |ins C dx fs=>let{d,z,B,e,s,{m,j,i,e2,c},r}:=x;show{F _ d,z,B,k _ _ ą e,s,{m,j,i,k _ _ (.inr d) e2,c},r}
 |own y=>let{g,e}:=x;show{g,k _ _ ą e}
 |xd fs=>let{s,{m,j,i,e,c},r}:=x;show{s,{m,j,i,k _ _ ą e,c},r}
 |rng lo hi=>let{t,u,v,e}:=x;show{t,u,v,k _ _ ą e}
 |yH g u ih=>let{e,q}:=x;show{k _ _ ą e,ih q}
 |tbl ps=>have e:Ě a=À { cls:=.none,ă:=.fields ps }:=x;exact Ė a=À { cls:=.none,ă:=.fields ps };show k a _ ą e|met f y=>have e:Ě a=À Ϡj:=x;exact Ė a=À Ϡj;show k a _ ą e|ext φ=>let{p,{o,e},st}:=x;show{st _ _ p λo q=>k _ _ ą q,{o,k _ _ ą e},st}
theorem xg.lt(x:xg P w H h)(e:H a=À o):a<ϙa:=(ϸn).lt
def xg.fresh(x:xg P w H h)(e:ϙa<=a):H a=Ä:=by
 cases q:H a with
 |Ä=>rfl|À u=>show Þ (Ŧ (x.lt q) e) Ϭ
def xg.kept(x:xg P w H h)(k:∀b u,Ě b=À u->Ė b=À u):xg P w H h':=λa o e=>
 (ϸn).ZM (λb u _ q=>k b u q) Ìf λ_ _ q=>q
def xg.laid(x:xg P w H h)(k:∀b u,Ě b=À u->Ė b=À u)(g:ϙa<=a)(d:yz P w Ŧd h' a o):xg P w Ŧd h':=λb u e=>by let f:=x.fresh g;rw[Đo];rw[yS]at e;cases e;show d;rw[zy hb]at e;show(Ϧh).ZM (λc v _ q=>k c v q) (λc q=>by rw[zy (t_ q f)];show q) λc i q=>by rw[zy (t_ q f)];show q
#print a
def Rd(H:Hp)(a:Ì)(u:HO):Ç:=H a=À u\/∃o,H a=À Žd
def Rd.ok{P:ë}{w:å}{H:Hp}{h:Heap}{a:Ì}{u:HO}(r:Rd H a u)(x:xg P w H h):yz P w H h a u:=by rcases r with r|⟨o,r⟩;show x a u r;let{_,q}:=x a _ r;show q
def T9:É HO->Ç
 |À (.lst _)=>Įb|À (.dK _)=>Įb|À (.dT _)=>Įb|À (.set _ _)=>Įb|À (.ins _ _ _)=>Įb|À (.ext _)=>Įb|_=>õ
section
variable{P:ë}{w:å}{H:Hp}{h h':Heap}{x e:Ì}{o':HO}
def xg.write(ok:xg P w H h)(g:T9 (H x))(m:e=x\/H e=À Üd)(k:∀b u,b≠e->Ě b=À u->Ė b=À u)(j:∃u,Ė e=À u)(l:yz P w ϴm h' x o'):xg P w ϴm h':=λb u q=>by
 let a:∀c y,H c=À (.own y)->c≠x:=λc y r z=>by subst z;rw[r]at g;show g
 let d:∀c f,H c=À (.tup f)->c≠x:=λc f r z=>by subst z;rw[r]at g;show g
 by_cases hb:b=x;subst hb;rw[yS]at q;cases q;show l;rw[zy hb]at q;by_cases hbe:b=e;let n:H b=À Üd:=by rcases m with z|z;show Þ (hbe.trans z) hb;rw[hbe];show z
 rw[q]at n;cases n;let{v,o}:=j;show{v,by rw[hbe];show o};show(ok b u q).ZM (λc v i r=>k c v ?_ r) (λc r=>by rw[zy (a c b r)];show r) λc f r=>by rw[zy (d c f r)];show r
 rcases i with rfl|i;show hbe;rintro rfl;rcases m with z|z;show a c b i z;rw[i]at z;cases z;show hb rfl
#print a
structure Un(fs ex:Á Ì)(H H':Hp)(h h':Heap):Ç where
 ć:∀b o,Ě b=À o->H b=Ä->b ∉ fs->b ∉ ex->Ė b=À o
 slot:∀b o,Ě b=À o->H b=Ä->b∈fs->b ∉ ex->∃sl,Ė b=À { o with ød:=sl }
 free:∀b o,Ě b=À o->H b=Ä->b ∉ ex->H' b=Ä
 Ÿf:∀b o,Ě b=À o->b ∉ ex->∃o',Ė b=À o'
 uP:∀b xs,H b=À Ħa->H' b=À Ħa
 uc:∀b o u,H b=À Žd->H' b=À Žd
 qM:∀b ps,H b=À žd->∃more,H' b=À ól
section
variable{fs ex:Á Ì}{H H1:Hp}{h h1 h':Heap}{a x e:Ì}{o:HO}
def Un.any(u:Un fs ex H H1 h h1){b:Ì}{a:Obj}(q:Ě b=À a)(n:H b=Ä)(c:b ∉ ex):∃sl,ąi b=À { a with ød:=sl }:=by by_cases hb:b∈fs;show Ŝf b a q n hb c;show{a.slots,Çe b a q n hb c}
def ϰd(k:∀b u,Ě b=À u->Ė b=À u):Un fs ex H H h h':=
 {λb a q _ _ _=>k b a q,λb a q _ _ _=>{a.slots,k b a q},λ_ _ _ n _=>n,λb a q _=>{a,k b a q},λ_ _ q=>q,λ_ _ _ q=>q,λ_ c q=>{#[],by rw[q];simp}}
def Un.refl:Un fs ex H H h h:=ϰd λ_ _ q=>q
def Un.laid(k:∀b u,Ě b=À u->Ė b=À u)(e:ϙa<=a)(c:H a=Ä):Un fs ex H Ŧd h h' where
 ć:=λb u q _ _ _=>k b u q
 slot:=λb u q _ _ _=>{u.slots,k b u q}
 free:=λb u q n _=>by rw[zy (ϓ (Ŧ ϻd e))];show n
 Ÿf:=λb u q _=>{u,k b u q}
 uP:=λb d q=>by rw[zy ßi];show q
 uc:=λb u d q=>by rw[zy ßi];show q
 qM:=λb f q=>{#[],by rw[zy ßi,q];simp}
def Un.write(a:T9 (H x))(j:e=x\/H e=À Üd)(k:∀b u,b≠e->Ě b=À u->Ė b=À u)(d:∃u,Ė e=À u):Un fs ex H ŏh h h':=by
 let f:∀b,H b=Ä->b≠x:=λb n z=>by subst z;rw[n]at a;show a
 let g:∀b,H b=Ä->b≠e:=λb n z=>by subst z;rcases j with r|r;show f b n r;rw[n]at r;cases r
 let c:∀b u,H b=À u->¬ T9 (À u)->b≠x:=λb u q l z=>by subst z;rw[q]at a;show l a
 refine⟨λb u q n _ _=>k b u (g b n) q,λb u q n _ _=>{u.slots,k b u (g b n) q},λb u q n _=>by rw[zy (f b n)];show n,λb u q _=>?_,
  λb i q=>by rw[zy ťg];show q,λb u i q=>by rw[zy ťg];show q,λb m q=>{#[],by rw[zy ťg,q];simp}⟩
 by_cases hbe:b=e;subst hbe;show d;show{u,k b u hbe q}
#print a
nonrec def M9(h:Heap)(H:Hp):Á Ì:=(ϡn).filter λa=>(H a).isSome
def kN(h:Heap)(H:Hp):Heap:=W.hideAll h éi
def z3i(h:Heap)(H:Hp):(ġf).objs.size=ϙa:=W.hideAll_size _ _
def z3h{h:Heap}{H:Hp}{b:Ì}{o:Obj}(e:Ě b=À o)(n:H b=Ä):(ġf).get? b=À o:=
 W.hideAll_get _ e λa=>by let q:(H b).isSome=Æ:=(Ϗk a).2;rw[n]at q;simp at q
def z8u{h:Heap}{H:Hp}{b:Ì}{o:Obj}(e:(ġf).get? b=À o):Ě b=À o/\H b=Ä:=by
 let a:Ě b=À o:=W.of_hideAll éi e;show{a,?_};cases q:H b with
 |Ä=>rfl|À x=>have c:b∈M9 h H:=Œk {Ŵc (Ĥ a),by simp[q]};let z:(ġf).get? b=Ä:=W.hideAll_none éi c;rw[z]at e;cases e
nonrec def oK(g h:Heap)(L:Ì):Á ð:=(ϡn).filterMap λa=>if a=L\/(ŗi a).isSome=Æ then Ä else(Ě a).map λo=>(a,o)
def yJ(g h:Heap)(L d:Ì):Á ð:=(oK g h L).filter λp=>decide (p.1≠d)
structure Mod(K:Ñ)(mg:È->É Value)(Ë:Heap):Ç where
 Yj:Ő Ë
 glob:ád ď mg
 blt:∃mb,ád ĵh mb/\∀x:È,x ≠ įh->mb x=Ţ x
 nolimit:base.NoLimit
structure Cx where
 Ē:ë
 w:å
 K:Ñ
 mg:È->É Value
 Ë:Heap
 A:û
 N:Á È
 s₀:Ï
 H₀:Hp
 env:Env
 Ā:Á Env
 stack:Á Env
 ex:Á Ì
 fn:È->Ð
 calm:Ð
 pn:Á ð
 xe:Value->Ï->Ç
nonrec def p7(l:Á Env):Á Ì:=l.filterMap (·.frame)
abbrev Cx.fs(X:Cx):Á Ì:=p7 âd
def pf(a:Ùa)(x:È):Ç:=Ŀb x=À .local\/Ŀb x=À .cell\/Ŀb x=À .free
def pV(a:Ùa)(x:È):Ç:=Ŀb x=À .local\/Ŀb x=À .cell
def o6(env:Env)(h:Heap)(m:È->É Value)(x:È)(u:Value):Ç:=
 (Ďc x=À .local/\m x=À u)\/((Ďc x=À .cell\/Ďc x=À .free)/\∃c,řg x=À c/\h.IsCell c (À u))
structure Cx.Ok(X:Cx):Ç where
 mod:Mod X.K ñ ŏ
 kind:śg=.function
 glob:ϻg=ď
 blt:X.env.builtins=ĵh
 above:Ŭb<=Ϝ
 inj:∀x y c,āa x=À c->āa y=À c->x=y
 has:∀x,(ôc x=À .cell\/ôc x=À .free)->∃c,āa x=À c
 WF:∀x c,X.fn x=Æ->āa x=À c->Ŭb<=c
 hd:Ż=Æ->X.A.handled=Ä
 Ři:X.A.frames=À Ĩa
 Uc:Ĩa=âd\/(Ĩa=Ö::âd/\X.env.frame=À Ϝ)
 UZ:∀b∈X.ex,b≠Ϝ/\∀x c,āa x=À c->c≠b
 bs:∀b o,Ŕd b=À o->Śg b=À o/\ϰa b=Ä
 gB:X.base.objs.size<=Ŭb
 WI:∀b o,Ŕd b=À o->b ∉ X.ex
 WG:∀b∈X.ex,b ∉ ıa
 qm:Ąk ŏ âd
 ZL:∀b∈ıa,ϰa b=Ä
structure zE(X:Cx)(z6:Á ð)(σ:Á Ŏf)(H:Hp)(s:Ï):Ç where
 ok:X.Ok
 os:s.os=X.s₀.os
 bare:åd Şf
 Ë:Un ıa X.ex ϰa H X.s₀.heap ß
 loc:∃m,řn Ϝ m/\∀(i:Ã)(x:È)(v:V),X.N[i]?=À x->σ[i]?=À Ϥ->pf ϸ x->∃u,zw v u/\o6 Ö ß m x u
 cell:∀x c,āa x=À c->∃v,Òm c v
 free:H Ϝ=Ä
 ql:∀x c,āa x=À c->H c=Ä
 pin:∀p∈Ũb++z6,Ă p.1=À p.2/\H p.1=Ä/\p.1≠Ϝ/\p.1 ∉ ıa/\∀v,p.2.data≠.cell v
 zb:xg ô X.w H ß
 len:σ.length=ú
section
variable{X:Cx}{z6:Á ð}{σ:Á Ŏf}{H H':Hp}{s:Ï}{h':Heap}
def Cx.Ok.nh(ok:X.Ok){b:Ì}{o:Obj}(e:Ŕd b=À o):b ∉ ıa:=λa=>by let:=(ok.qm.mem a).1;rw[e]at this;cases this
theorem zE.bs(I:zE X z6 σ H s):∀b o,Ŕd b=À o->Ă b=À o/\H b=Ä:=λb o e=>
 {űe b o ůe.1 ůe.2 (I.ok.nh e) ũl,ϒc b o ůe.1 ůe.2 ũl}
def zE.bk(I:zE X z6 σ H s):∀b o,Ŕd b=À o->Ă b=À o:=λb o e=>(I.bs b o e).1
theorem zE.mod(I:zE X z6 σ H s):Mod X.K ñ ŏ:=Ìi
def zE.xD(I:zE X z6 σ H s):X.K.In ß:=I.ok.mod.Yj.keeps I.bk
theorem zE.lt(I:zE X z6 σ H s):Ϝ<Ý:=let ⟨_,hn,_⟩:=ça;hn.lt
def zE.sz(I:zE X z6 σ H s):Ŭb<=Ý:=ģ Ŀh (ϯ I.lt)
def zE.S3(I:zE X z6 σ H s){a:Ì}(h:Ý<=a):a ∉ ıa:=λb=>by let{_,o,c,_}:=ϕm b;show Þ (Ŧ (Ĥ c) (ģ I.sz h)) Ϭ
def zE.Yf(I:zE X z6 σ H s):∀x c,āa x=À c->c≠Ϝ:=λx c e z=>by let{v,o,f,d}:=Ĭa x c e;let{m,{i,h,g,b,a,_},_}:=ça;rw[z,b]at f;cases f;rw[a]at d;cases d
theorem zE.qm(I:zE X z6 σ H s):ŗe ŏ âd:=by
 let c:∀(l:Á Env),(∀b∈p7 l,b∈ıa)->Ąk ŏ l->ŗe ŏ l:=by
  intro l
  induction l with
  |nil=>intro _ _;trivial|ā env r ih=>
   intro g m;let{n,{L,o,f,j,k,i},h}:=m;let d:L∈ıa:=g L (by unfold p7;rw[Ħg,f];show ī);let{p,e}:=ŗd L o k (I.ok.ZL L d) d λz=>I.ok.WG L z d
   show{n,{L,_,f,j,e,i},ih (λb a=>g b (by unfold p7;rw[Ħg,f];show Ça _ a)) h}
 show c âd (λ_ a=>a) I.ok.qm
theorem zE.stack(I:zE X z6 σ H s):ŗe ŏ Ĩa:=by rcases I.ok.Uc with e|⟨e,hf⟩;rw[e];show I.qm;rw[e];let{m,a,_}:=ça;refine .cons (by rw[Òb];decide) hf a ?_ I.qm;show Heap.get?_none_of_le (ģ Ŀf Ŀh)
def zE.Ud(I:zE X z6 σ H s):∀b∈p7 Ĩa,b∈Ϝ::ıa:=λb a=>by rcases I.ok.Uc with e|⟨e,hf⟩;rw[e]at a;show Ça _ a;rw[e]at a;unfold p7 at a;rw[Ħg,hf]at a;show a
def zE.SH(I:zE X z6 σ H s):∀b∈p7 Ĩa,H b=Ä:=λb a=>by rcases Ī (I.Ud b a)with e|a;rw[e];show Ůa;let{_,o,c,_}:=ϕm a;show ϒc b o c (I.ok.ZL b a) λz=>I.ok.WG b z a
def zE.step{g':Ú GenState}{t':Ã}{d':Drawn}{ch:Á Ì}(I:zE X z6 σ H s)(g:∀b∈ch,ŉe/\b≠Ϝ/\(∀x c,āa x=À c->c≠b)/\∀p∈Ũb++z6,p.1≠b)(ć:∀b o,b≠Ϝ->b ∉ ıa->b ∉ ch->Ă b=À o->H b=Ä->Ė b=À o)(y:∀b o,b≠Ϝ->b∈ıa->b ∉ ch->Ă b=À o->H b=Ä->∃sl,Ė b=À { o with ød:=sl })(f:∀b o,b ∉ ch->Ă b=À o->H b=Ä->H' b=Ä)(A:∀b o,b ∉ ch->Ă b=À o->∃o',Ė b=À o')(T:∀b xs,H b=À Ħa->H' b=À Ħa)(O:∀b o u,H b=À Žd->H' b=À Žd)(S:∀b ps,H b=À žd->∃more,H' b=À ól)(ns:∀m,řn Ϝ m->h'.Ns Ϝ m)(Z:xg ô X.w H' h')(P:åd g') :zE X z6 σ H' { s with é:=h',gens:=g',drawn:=d',Ċ:=t' }:=by
 let E:∀b o,Śg b=À o->b≠Ϝ:=λb o e=>ϓ (Ŧ Ϝb Ŀh)
 let t:∀b o,Śg b=À o->b ∉ X.ex->b ∉ ch:=λb o e a B=>by rcases(g b B).1 with z|z;show a z;show Þ (Ŧ Ϝb z) Ϭ
 let h:∀x c,āa x=À c->∀v,Òm c v->h'.IsCell c v:=λx c e v ⟨o,C,F⟩=>by
  let j:c ∉ ch:=λz=>(g c z).2.2.1 x c e rfl
  by_cases hc:c∈ıa;let{sl,q}:=y c o śm hc j C úh;show{_,q,F};show{o,ć c o śm hc j C úh,F}
 show{I.ok,Îc,P,{λb o e n B a=>?_,λb o e n B a=>?_,λb o e n a=>?_,λb o e a=>?_,λb xs e=>T b xs (ůd b xs e),λb o xs e=>O b o xs (Ůd b o xs e),λb ps e=>?_},?_,λx c e=>?_,?_,λx c e=>?_,λp K=>?_,Z,çb};show ć b o Ûo B (t b o e a) (űe b o e n B a) Źg;let{sl,e1}:=ŗd b o e n B a;let{G,e2}:=y b _ Ûo B (t b o e a) e1 Źg;show{G,e2};let{o',e1}:=ŉd b o e a;show f b o' (t b o e a) e1 Źg;let{o',e1}:=ŉd b o e a;show A b o' (t b o e a) e1;let{R,e1}:=Űd b ps e;let{N,e2}:=S b _ e1;show{R++N,by rw[e2,Array.append_assoc]};let{m,U,Q}:=ça;show{m,ns m U,λi x v e1 e2 Y=>?_};let{u,r,l}:=Q i x v e1 e2 Y;show{u,r,?_};rcases l with l|⟨k,c,e,z⟩;show .inl l;show .inr {k,c,e,h x c e _ z};let{v,z}:=Ĭa x c e;show{v,h x c e v z};let{m,{o,_,_,C,_},_}:=ça;show f _ o (λz=>(g _ z).2.1 rfl) C Ůa;let{v,o,C,F}:=Ĭa x c e;show f c o (λz=>(g c z).2.2.1 x c e rfl) C úh;let{e,n,J,L,d}:=İa p K;let j:p.1 ∉ ch:=λz=>(g p.1 z).2.2.2 p K rfl
 show{ć p.1 p.2 J L j e n,f p.1 p.2 j e n,J,L,d}
def zE.un{t':Ã}(I:zE X z6 σ H s)(u:Un ıa [] H H' ß h')(k:xg ô X.w H' h'):zE X z6 σ H' { s with é:=h',Ċ:=t' }:=by
 let{m,{o,t,l,g,r},_}:=id ça;let{v,j}:=u.any g Ůa ï
 show Ũi (g':=Şf) (d':=s.drawn) (ch:=[]) Êa (λb o _ c _ e n=>Çe b o e n c ï) (λb o _ c _ e n=>Ŝf b o e n c ï) (λb o _ e n=>ŝf b o e n ï) (λb o _ e=>ĵf b o e ï) u.uP u.uc u.qM (λp i=>by let{q,f,d,a,h}:=i;rw[g]at a;cases a;show{_,f,d,j,h}) k ůa
def zE.call{g':Ú GenState}{t':Ã}{d':Drawn}{ch:Á Ì}(I:zE X z6 σ H s)(u:Un ái ch H H' ß h')(q:xg ô X.w H' h')(v:åd g')(f:∀b∈ch,ŉe/\b≠Ϝ/\(∀x c,āa x=À c->c≠b)/\∀p∈Ũb++z6,p.1≠b) :zE X z6 σ H' { s with é:=h',gens:=g',drawn:=d',Ċ:=t' }:=by
 let{m,{o,C,y,j,r},_}:=id ça;let{E,g}:=u.any j Ůa λz=>(f _ z).2.1 rfl
 show Ũi (ch:=ch) f (λb o g l a e n=>Çe b o e n (λz=>(Ī (I.Ud b z)).elim g l) a) (λb o _ _ a e n=>u.any e n a) (λb o a e n=>ŝf b o e n a) (λb o a e=>ĵf b o e a) u.uP u.uc u.qM (λA t=>by let{B,i,h,d,k}:=t;rw[j]at d;cases d;show{_,i,h,g,k}) q v
def zE.turned{t':Ã}{it:Ì}(I:zE X z6 σ H s)(k:∀b o,b≠it->Ă b=À o->Ė b=À o)(l:H it=Ä)(f:it≠Ϝ)(t:it∈X.ex\/Ŭb<=it)(y:∀x c,āa x=À c->c≠it)(i:∀p∈Ũb++z6,p.1≠it):zE X z6 σ H { s with é:=h',Ċ:=t' }:=by
 let d:∀b u,H b=À u->b≠it:=λb u e z=>by rw[z,l]at e;cases e
 show Ũi (g':=Şf) (d':=s.drawn) (ch:=ũb) (λb h=>?_) (λb o _ _ a e _=>k b o Ēg e) (λb o _ _ a e _=>{o.slots,k b o Ēg e}) (λ_ _ _ _ n=>n)
  (λb o a e=>{o,k b o Ēg e}) (λ_ _ e=>e) (λ_ _ _ e=>e) (λb B e=>{#[],by rw[e];simp}) (λm j=>?_) (λb u e=>?_) ůa
 let e:b=it:=by rw[ϑo]
 subst e;show{t,f,y,i};let{o,A,g,w,r}:=j;show{o,A,g,k _ o (Ùb f) w,r};show(đ b u e).ZM (λc v a q=>k c v ?_ q) Ìf λ_ _ q=>q
 rcases a with z|z;rw[z];show d b u e;show d c _ z
def zE.tok(I:zE X z6 σ H s)(t:Ã):zE X z6 σ H { s with Ċ:=t }:=I.un (h':=ß) (t':=t) Un.refl đ
theorem zE.kept{t':Ã}(I:zE X z6 σ H s)(k:∀b u,Ă b=À u->Ė b=À u):zE X z6 σ H { s with é:=h',Ċ:=t' }:=I.un (ϰd k) (ůn k)
theorem zE.laid{a:Ì}{o:HO}{t':Ã}(I:zE X z6 σ H s)(k:∀b u,Ă b=À u->Ė b=À u)(c:Ý<=a)(d:yz ô X.w Ŧd h' a o) :zE X z6 σ Ŧd { s with é:=h',Ċ:=t' }:=I.un (Un.laid k c (þb c)) (I.zb.laid k c d)
theorem zE.write{x e:Ì}{o:HO}{t':Ã}(I:zE X z6 σ H s)(f:T9 (H x))(d:e=x\/H e=À Üd)(k:∀b u,b≠e->Ă b=À u->Ė b=À u)(a:∃u,Ė e=À u)(c:yz ô X.w ŏh h' x o):zE X z6 σ ŏh { s with é:=h',Ċ:=t' }:=I.un (Un.write f d k a) (I.zb.write f d k a c)
def zE.weak{σ':Á Ŏf}(I:zE X z6 σ H s)(a:σ'.length=σ.length)(w:∀(i:Ã) v,σ'[i]?=À Ϥ->σ[i]?=À Ϥ):zE X z6 σ' H s:=
 {I.ok,Îc,ůa,ũf,let ⟨m,hn,hl'⟩:=ça;{m,hn,λi x v e1 e2 b=>hl' i x v e1 (w i v e2) b},Ĭa,Ůa,İb,İa,đ,Ĉi çb}
def zE.Ub{a:Á ð}(I:zE X z6 σ H s)(h:∀p∈a,Ă p.1=À p.2/\H p.1=Ä/\p.1≠Ϝ/\p.1 ∉ ıa/\∀v,p.2.data≠.cell v):zE X a σ H s:=
 {I.ok,Îc,ůa,ũf,ça,Ĭa,Ůa,İb,λp b=>(Ăa b).elim (λz=>İa p (ãc _ z)) (h p),đ,çb}
def di{N:Á È}(c:N.Nodup){i j:Ã}{x:È}(a:N[i]?=À x)(b:N[j]?=À x):i=j:=by let{d,e1}:=Ŭ a;let{e,e2}:=Ŭ b;show(List.getElem_inj c).mp (e1.trans e2.symm)
def lF{M:ée}{A:û}{E:Value->Ï->Ç}{i:Ã}{x:È}{v:V}{u:Value}{Q:þa->Ï->Ç}(I:zE X z6 σ H s)(hN:Ĥa)(hi:X.N[i]?=À x)(t:pV ϸ x)(r:zw v u)(h:∀s',zE X z6 ϖc H s'->(∃a,Éb a ß ıc/\(a=Ϝ\/āa x=À a))->Q () s')(hf:Î ża q3):Û M A ţk Q E s:=by
 let{m,hn,hl}:=id ça;let O:(śg == .class||(śg == .module&&Ϝ != ϻg))=Â:=by rw[Òb];rfl
 let L:i<σ.length:=by rw[çb];show Œb.1
 let Yf:=I.Yf
 let g:∀{a:Ì}{h':Heap},(∃o,Ă a=À o/\H a=Ä)->Éb a ß h'->xg ô X.w H h':=λ{a h'} ha f b ob e=>by
  let{_,_,B}:=ha;show(đ b ob e).ZM (λc P l q=>(f.2 c ?_).trans q) Ìf λ_ _ q=>q
  rintro rfl;rcases l with rfl|l;rw[B]at e;cases e;rw[B]at l;cases l
 rcases t with hk|hk;show wpAny_storeName_local hk hn (λh' hn' f=>?_) O;let{oL,_,_,hoL,_}:=id hn;show h _ {I.ok,Îc,ůa,{λb o e n F t=>?_,λb o e n F t=>?_,ϒc,λb o e t=>?_,ůd,Ůd,Űd},{_,hn',λj y v' e1 e2 e3=>?_},λy c e=>?_,Ůa,İb,λp hp=>?_,g {oL,hoL,Ůa} f,by simpa using çb} {_,f,.inl rfl};show(ϳf).trans Ûl;let{sl,e1}:=ŗd b o e n F t;show{sl,(ϳf).trans e1};let{U,e1}:=ŉd b o e t;show{U,(ϳf).trans e1};rw[Ĩo];show{u,r,.inl {hk,by simp}};rw[ıo];rcases q with⟨k,e⟩|⟨k,c,e,z⟩;show .inl {k,?_};let:y≠x:=λe=>hj (di hN e1 (e▸hi))
 simp[this,e];show .inr {k,c,e,œn f ģn};let{P,z}:=Ĭa y c e;show{P,œn f ģn};let{e,n,R,Y,d}:=İa p hp;show{(f.2 p.1 R).trans e,n,R,Y,d};let C:X.fn x=Æ:=by rcases hf with z|z;show z;rw[z]at hk;cases hk
 let{c,l}:=I.ok.has x (.inl hk);let{P,z}:=Ĭa x c l;show wpAny_storeName_cell Òb hk l z (λh' J f=>?_);let{oc,K,G}:=id z;show h { s with é:=h' } {I.ok,Îc,ůa,{λb o e n F t=>?_,λb o e n F t=>?_,ϒc,λb o e t=>?_,ůd,Ůd,Űd},{m,hn.sameBut f (Ùb (Yf x c l)),λj y v' e1 e2 e3=>?_},λy S e=>?_,Ůa,İb,λp hp=>?_,g {oc,K,İb x c l} f,by simpa using çb} {c,f,.inr l};show(Ϫf).trans Ûl;let{sl,e1}:=ŗd b o e n F t;show{sl,(Ϫf).trans e1};let{U,e1}:=ŉd b o e t;show{U,(Ϫf).trans e1};rw[Ĩo];show{u,r,.inr {.inl hk,c,l,J}};rw[ıo];rcases q with q|⟨k,S,e,z'⟩;show .inl q;show .inr {k,S,e,z'.sameBut f ?_};rintro rfl;show hj (di hN e1 (I.ok.inj _ _ _ e l▸hi));by_cases hcc:S=c;subst hcc;show{_,J};let{w2,z2}:=Ĭa y S e;show{w2,z2.sameBut f hcc};let{e,n,R,Y,d}:=İa p hp;show{(f.2 p.1 ?_).trans e,n,R,Y,d};intro q;rw[q,K]at e;let q':oc=p.2:=ća e;show d P (by rw[<-q'];show G)
def Nq{M:ée}{A:û}{E:Value->Ï->Ç}{i:Ã}{x:È}{v:V}{u:Value}{Q:þa->Ï->Ç}(I:zE X z6 σ H s)(b:Ĥa)(hi:X.N[i]?=À x)(a:pV ϸ x)(r:zw v u)(h:∀s',zE X z6 ϖc H s'->Q () s')(c:Î ża q3):Û M A ţk Q E s:=
 lF I b hi a r (λs' d _=>h s' d) c
def zE.BR{s':Ï}{ch:Á Ì}(I:zE X z6 σ H s)(d:s'.os=s.os)(u:Un ái ch H H' ß ıc)(g:xg ô X.w H' ıc)(f:åd s'.gens)(a:∀b∈ch,ŉe/\b≠Ϝ/\(∀x c,āa x=À c->c≠b)/\∀p∈Ũb++z6,p.1≠b):zE X z6 σ H' s':=by let{h',g',d',t',h}:=s';let e:h=s.os:=d;subst e;show I.call (g':=g') (t':=t') (d':=d') u g f a
#print a
abbrev XK:=Value->É Ì->Hp->Ç
abbrev St:=Á Ŏf
abbrev VK:=V->Hp->Ç
abbrev TE:=St->Hp->VK->Ç
abbrev TT:=St->Hp->(Ð->Hp->Ç)->Ç
abbrev TA:=St->Hp->(Á V->Hp->Ç)->Ç
structure vt where
 nx:St->Hp->Ç
 rt:VK
 bk:St->Hp->Ç:=λ_ _=>õ
 ct:St->Hp->Ç:=λ_ _=>õ
abbrev TS:=vt->St->Hp->Ç
def EP(X:Cx)(a:Á ð)(σ:St)(Q:VK)(u:Value)(s':Ï):Ç:=∃v H',zE X a σ H' s'/\zw v u/\Q v H'
def TP(X:Cx)(a:Á ð)(σ:St)(Q:Ð->Hp->Ç)(b:Ð)(s':Ï):Ç:=∃H',zE X a σ H' s'/\Q b H'
def AP(X:Cx)(a:Á ð)(σ:St)(Q:Á V->Hp->Ç)(us:Á Value)(s':Ï):Ç:=∃vs H',zE X a σ H' s'/\zm vs us/\Q vs H'
def SP(X:Cx)(a:Á ð)(D:vt)(f:Flow)(s':Ï):Ç:=
 match f with
 |.next=>∃σ' H',zE X a σ' H' s'/\œa σ' H'|.brk=>∃σ' H',zE X a σ' H' s'/\D.bk σ' H'|.cont=>∃σ' H',zE X a σ' H' s'/\D.ct σ' H'|.ret u=>∃v σ' H',zE X a σ' H' s'/\zw v u/\D.rt v H'
def PE(X:Cx)(e:Õ)(t:TE):Ç:=
 ∀(z6:Á ð) (s:Ï) (σ:St) (H:Hp) (Q:VK),zE X z6 σ H s->t σ H Q->Û ÿ X.A Ϟc Ăb ġ s
def PT(X:Cx)(e:Õ)(t:TT):Ç:=
 ∀(z6:Á ð) (s:Ï) (σ:St) (H:Hp) (Q:Ð->Hp->Ç),zE X z6 σ H s->t σ H Q->Û ÿ X.A (íd e Ö Ϟc) ϣg ġ s
def PW(X:Cx)(e:Õ)(t:TT):Ç:=
 ∀(Äc:Sem Value)(z6:Á ð) (s:Ï) (σ:St) (H:Hp) (Q:Ð->Hp->Ç),zE X z6 σ H s->t σ H Q->Û ÿ X.A (íd e Ö Äc) ϣg ġ s
def PW.pt{X:Cx}{e:Õ}{t:TT}(h:PW X e t):PT X e t:=h _
def PA(X:Cx)(es:Á Õ)(t:TA):Ç:=
 ∀(pos:Pos)(z6:Á ð) (s:Ï) (σ:St) (H:Hp) (Q:Á V->Hp->Ç),zE X z6 σ H s->t σ H Q->Û ÿ X.A (spliced ŵc) ϸl ġ s
def PS(X:Cx)(st:Ø)(t:TS):Ç:=
 ∀(z6:Á ð) (s:Ï) (σ:St) (H:Hp) (D:vt),zE X z6 σ H s->t D σ H->Û ÿ X.A (exec st Ö) Òn ġ s
def uR(X:Cx)(st:Á Ø)(t:TS):Ç:=
 ∀(z6:Á ð) (s:Ï) (σ:St) (H:Hp) (D:vt),zE X z6 σ H s->t D σ H->Û ÿ X.A (execs st Ö) Òn ġ s
def zi{α:Type}{t:Sem α}{Q b:α->Ï->Ç}{M:ée}{A:û}{E:Value->Ï->Ç}{s:Ï}(h:Û M A t Q E s)(c:∀a s,Q a s->b a s):Û M A t b E s:=êa h c λ_ _ x=>x
section
variable{X:Cx}
nonrec def JK(i:Ã):TE:=λσ H Q=>∃v,σ[i]?=À Ϥ/\Q v H
nonrec def tC(v:V):TE:=λ_ H Q=>Q v H
def Xd{i:Ã}{x:È}{pos:Pos}(k:X.N[i]?=À x)(hv:pf ϸ x)(f:Î Ĭ q7)(g:Î ìb q7):PE X îa áe:=by intro p s σ H Q I h;let{v,e,h}:=h;let{m,o,q}:=ça;let{u,r,l}:=q i x v k e hv;let b:EP X p σ Q u s:={v,H,I,r,h};rcases l with⟨d,n⟩|⟨d,c,j,a⟩;show İh (ģk Òb d o n b) f;rcases d with d|d;show İh (ōk Òb d j a b) f;show İh (wpAny_loadName_free Òb d j a b g) f
def y2z{i j pos}:PE X (.Constant Ϡ j pos) (tC Ϡ):=λ_ _ _ H _ I h=>źk {.int i,H,Ų _,{_,rfl},h}
def y2k{b j pos}:PE X (.Constant ϯh j pos) (tC ϭa):=λ_ _ _ H _ I h=>Constant_bool {.bl b,H,I,rfl,h}
def y34{j pos}:PE X (.Constant .none j pos) (tC .zG):=λ_ _ _ H _ I h=>Constant_none {.zG,H,I,rfl,h}
def y3a{x j pos}:PE X (.Constant œb j pos) (tC œb):=λ_ _ _ H _ I h=>ëg {.str x,H,Ų _,{_,rfl},h}
def Gl(X:Cx)(x:È):Ç:=ôc x=À .globalImplicit
def Ot{E:Value->Ï->Ç}{c:Á ð}{s:Ï}{σ:St}{H:Hp}{x:È}{u:Value}{pos:Pos}{Q:Value->Ï->Ç}(I:zE X c σ H s)(d:Gl X x)(a:ñ x=À u)(h:Q u s)(b:Î Ĭ q7):Û ÿ X.A ûm Q E s:=
 Ŀj Òb d (Calls.loadGlobal_global ãj a h) b
def XU{E:Value->Ï->Ç}{d:Á ð}{s:Ï}{σ:St}{H:Hp}{x:È}{u:Value}{pos:Pos}{Q:Value->Ï->Ç}(I:zE X d σ H s)(g:Gl X x)(a:ñ x=Ä)(hv:Ţ x=À u)(h:Q u s)(b:Î ϑa q7)(c:Î Ĭ q7):Û ÿ X.A ûm Q E s:=by let{i,e,f}:=I.mod.blt;show Ŀj Òb g (Calls.loadGlobal_builtin ãj a (by rw[I.ok.blt];show e.keeps I.bk) ((f x b).trans hv) h) c
def y2x{x:È}{v:V}{u:Value}{pos:Pos}(b:Gl X x)(a:ñ x=À u)(r:zw v u)(c:Î Ĭ q7):PE X îa Ùe:=
 λ_ _ _ H _ I h=>Ot I b a {v,H,I,r,h} c
def y2l{x:È}{v:V}{u:Value}{pos:Pos}(d:Gl X x)(a:ñ x=Ä)(hv:Ţ x=À u)(r:zw v u)(b:Î ϑa q7)(c:Î Ĭ q7):PE X îa Ùe:=
 λ_ _ _ H _ I h=>XU I d a hv {v,H,I,r,h} b c
variable{a b:Õ}{ta tb:TE}{pos:Pos}
nonrec def tB(t:TE):TT:=λσ H Q=>t σ H λx a=>∃c,x=.bl c/\Q c a
def fB{e:Õ}{t:TE}(h:PE X e t)(c:Î (∀Äc,íd e Ö Äc=(do let v <-Äc;standAt e.pos;holding [v] ęn)) q10):PT X e (tB t):=by intro k s σ H Q I g;show isTrue_plain (zi (h k s σ H _ I g) λv l a=>?_) (c _);let{x,j,b,f,i}:=a;let{d,rfl,q}:=i;cases f;show Ýc {j,b,q}
variable{tA tB':TT}{yJ:Á Õ}
nonrec def y9a(t u:TT):TT:=λσ H Q=>t σ H λc a=>if c=Æ then u σ a Q else Q Â a
nonrec def y9u(t u:TT):TT:=λσ H Q=>t σ H λc a=>if c=Æ then Q Æ a else u σ a Q
nonrec def y9s(t:TT):TT:=λσ H Q=>t σ H λc a=>Q (!c) a
def fL(b:PT X a tA):PW X ĉg tA:=by
 intro f d s σ H Q I h;show én İj;cases c with
 |Æ=>show isTrue_and_nil e|Â=>show e
def y4q(b:PT X a tA):PW X Ğk tA:=by
 intro f d s σ H Q I h;show Ţn İj;cases c with
 |Â=>show isTrue_or_nil e|Æ=>show e
def fK(k:PT X a tA)(m:PW X Ńd tB'):PW X ŷd (y9a tA tB'):=by
 intro j i s σ H Q I h;show én Įj;let{g,e,f}:=d;cases c with
 |Æ=>show m j i l σ g Q e f|Â=>show{g,e,f}
def y4p(k:PT X a tA)(m:PW X ϋe tB'):PW X ôf (y9u tA tB'):=by
 intro j i s σ H Q I h;show Ţn Įj;let{g,e,f}:=d;cases c with
 |Æ=>show{g,e,f}|Â=>show m j i l σ g Q e f
def y4b(b:PT X a tA):PT X ĩe (y9s tA):=by intro e s σ H Q I h;show isTrue_not (b e s σ H (λc d=>Q (!c) d) I h)
nonrec def y9b(ta tb:TE):TE:=λσ H Q=>ta σ H λx a=>∃c,x=.bl c/\if c=Æ then tb σ a Q else Q ò a
nonrec def y9v(ta tb:TE):TE:=λσ H Q=>ta σ H λx a=>∃c,x=.bl c/\if c=Æ then Q ŉ a else tb σ a Q
nonrec def y9t(ta:TE):TE:=λσ H Q=>ta σ H λx a=>∃c,x=.bl c/\Q (.bl (!c)) a
def y36{op}{t:TE}(h:PE X a t):PE X Ňk t:=λc s σ H Q I b=>BoolOp_one (h c s σ H Q I b)
def y2j(m:PE X a ta)(j:PE X Ńd tb):PE X ŷd (y9b ta tb):=by
 rw[ϱo];show BoolOp_and ĭj;rw[Ōo];cases c with
 |Æ=>show j i l σ g Q f d|Â=>show{.bl Â,g,f,rfl,d}
def y37(m:PE X a ta)(j:PE X ϋe tb):PE X ôf (y9v ta tb):=by
 rw[ϱo];show BoolOp_or ĭj;rw[Ōo];cases c with
 |Â=>show j i l σ g Q f d|Æ=>show{.bl Æ,g,f,rfl,d}
def y35(g:PE X a ta):PE X ĩe (y9t ta):=by intro j s σ H Q I h;show UnaryOp_ (zi (g j s σ H _ I h) λv k b=>?_);let{x,i,e,f,d}:=b;let{c,rfl,d}:=d;cases f;show not_of (Ýc {.bl (!c),i,e,rfl,d})
nonrec def y9j(t:TT)(ta tb:TE):TE:=λσ H Q=>t σ H λc a=>if c=Æ then ta σ a Q else tb σ a Q
def y2y{c:Õ}(m:PT X c tA)(l:PE X a ta)(n:PE X b tb):PE X Âl (y9j tA ta tb):=by
 intro f s σ H Q I h;show wpAny_IfExp (zi (m f s σ H _ I h) λd k e=>?_);let{j,g,i}:=e;cases d with
 |Æ=>show l f k σ j Q g i|Â=>show n f k σ j Q g i
#print a
def yU(K:Ñ)(H:Hp)(a:Ì)(xs:Á V):Ç:=
 Rd H a Ċa \/
  ∃(o:Obj) (its:Ú Value) (n:Ã),ϋ a=À o/\úa=.type Ġ/\Ëe=Ä/\Đa=.seq its n/\Ái<=â/\zm xs Ťd
def ye(K:Ñ)(H:Hp)(a:Ì)(xs:Á V):Ç:=
 Rd H a Ħa \/
  ∃(o:Obj) (its:Ú Value) (n:Ã),ϋ a=À o/\úa=.type ō/\Đa=.seq its n/\Ái<=â/\zm xs Ťd
nonrec def oC:Value->É V
 |.none=>À .zG|.bool b=>À ϭa|.int i _=>À Ϡ|.str x _=>À œb|.bytes b _=>À (.byt b)|.float b _=>À (.Yh b)|.ref a=>À ŝ|.type n=>À (.ty n)|_=>Ä
def zw.abs{x:V}{u:Value}(r:zw x u):oC u=À x:=by
 cases x with
 |zG=>cases r;rfl|bl _=>cases r;rfl|int _=>let{t,rfl}:=r;rfl
 |str _=>let{t,rfl}:=r;rfl
 |byt _=>let{t,rfl}:=r;rfl
 |Yh _=>let{t,rfl}:=r;rfl
 |ref _=>cases r;rfl|ty _=>cases r;rfl
def zw.inj{x y:V}{u:Value}(r:zw x u)(q:zw y u):x=y:=ća (r.abs.symm.trans q.abs)
theorem zm.inj{xs a:Á V}{us:Á Value}(h:zm xs us)(g:zm a us):xs=a:=by
 induction h generalizing a with
 |nil=>cases g;rfl|ā r _ ih=>cases g with|ā r' t'=>rw[r.inj r',ih t']
section
variable{X:Cx}{z6:Á ð}{σ:St}{H:Hp}{s:Ï}{a:Ì}{xs ys:Á V}
def æb{K:Ñ}(h:H a=À Ċa):yU K H a xs:=.inl öi
def åb{K:Ñ}(h:H a=À Ħa):ye K H a xs:=.inl öi
def zE.list(I:zE X z6 σ H s)(h:yU X.K H a xs):∃its:Á Value,zm xs its/\PlainL ß a Ϫ/\ç<=â:=by rcases h with h|⟨o,its,n,hk,hc,hd,hs,hz,r⟩;let{z,its,n,r,e}:=h.ok đ;show{its,r,{_,n,e,rfl,rfl,rfl},z};refine{Ťd,r,{o,n,ŗ a o hk,hc,hd,by simpa using hs},?_};rw[ϯo]
def zE.tuple(I:zE X z6 σ H s)(h:ye X.K H a xs):∃its:Á Value,zm xs its/\ϵa ß a Ϫ/\ç<=â:=by rcases h with h|⟨o,its,n,hk,hc,hs,hz,r⟩;let{z,its,r,p}:=h.ok đ;show{its,r,p,z};refine{Ťd,r,{o,ŗ a o hk,hc,n,by simpa using hs},?_};rw[ϯo]
def zE.Jy(I:zE X z6 σ H s)(h:yU X.K H a xs)(h':yU X.K H a ys):xs=ys:=by
 let{c,r,{o,n,e,_,_,d},_}:=ű h;let{b,i,{k,j,g,_,_,f},_}:=ű h';rw[e]at g;cases g;rw[d]at f;injection f with d1 _
 rw[Ϯo]
 subst this;show r.inj i
def zE.Bc(I:zE X z6 σ H s)(h:ye X.K H a xs)(h':ye X.K H a ys):xs=ys:=by
 let{c,r,{o,e,_,n,d},_}:=ώ h;let{b,i,{k,g,_,j,f},_}:=ώ h';rw[e]at g;cases g;rw[d]at f;injection f with d1 _
 rw[Ϯo]
 subst this;show r.inj i
#print a
abbrev Cx.gC(X:Cx)(E:Value->Ï->Ç):Cx:={ X with xe:=E }
abbrev Cx.t6(X:Cx):Cx:=X.gC λ_ _=>õ
theorem Cx.Ok.gC{X:Cx}(ok:X.Ok)(E:Value->Ï->Ç):(ϣd).Ok:=
 {ok.mod,ok.kind,ok.glob,ok.blt,ok.above,ok.inj,ok.has,ok.WF,ok.hd,Ŝn,ok.Uc,ok.UZ,ok.bs,ok.gB,ok.WI,ok.WG,ok.qm,ok.ZL}
def Cx.Ok.ZN{X:Cx}{E:Value->Ï->Ç}(ok:(ϣd).Ok):X.Ok:=
 {ok.mod,ok.kind,ok.glob,ok.blt,ok.above,ok.inj,ok.has,ok.WF,ok.hd,Ŝn,ok.Uc,ok.UZ,ok.bs,ok.gB,ok.WI,ok.WG,ok.qm,ok.ZL}
section
variable{X:Cx}{z6:Á ð}{σ:St}{H:Hp}{s:Ï}{E:Value->Ï->Ç}
theorem zE.gC(I:zE X z6 σ H s)(E:Value->Ï->Ç):zE ϣd z6 σ H s:={I.ok.gC E,Îc,ůa,ũf,ça,Ĭa,Ůa,İb,İa,đ,çb}
theorem zE.ZN(I:zE ϣd z6 σ H s):zE X z6 σ H s:={I.ok.ZN,Îc,ůa,ũf,ça,Ĭa,Ůa,İb,İa,đ,çb}
theorem SP.ZN{D:vt}{f:Flow}{s':Ï}(h:SP ϣd z6 D f s'):SP X z6 D f s':=by
 cases f with
 |next=>let{σ',a,I,q}:=h;show{σ',a,I.ZN,q}
 |brk=>let{σ',a,I,q}:=h;show{σ',a,I.ZN,q}
 |Ĭb=>let{σ',a,I,q}:=h;show{σ',a,I.ZN,q}
 |ret u=>let{v,σ',a,I,r,q}:=h;show{v,σ',a,I.ZN,r,q}
theorem uR.t6{st:Á Ø}{t:TS}(h:uR X.t6 st t):uR X st t:=λz6 s σ H D I a=>
 êa (h z6 s σ H D (I.gC _) a) (λ_ _ q=>q.ZN) λ_ _ z=>óa z
#print a
section
variable{X:Cx}{st:Ø}{yJ:Á Ø}{t u:TS}{e:Õ}{te:TE}{pos:Pos}
nonrec def y9q:TS:=λD σ H=>œa σ H
nonrec def x00(t u:TS):TS:=λD σ H=>t { D with nx:=u D } σ H
def f9:uR X [] y9q:=λ_ _ σ H _ I h=>Ġe {σ,H,I,h}
def f8(c:PS X st t)(d:uR X yJ u):uR X (st::yJ) (x00 t u):=by
 intro a s σ H D I h;show āl (zi (c a s σ H { D with nx:=u D } I h) λf b q=>?_);cases f with
 |next=>let{σ',e,g,q}:=q;show d a b σ' e D g q
 |ret v=>show q|brk=>show q|Ĭb=>show q
def fA(b:PS X st t):uR X [st] t:=by
 intro a s σ H D I h;show āl (zi (b a s σ H D I h) λf c q=>?_);cases f with
 |next=>show Ġe q|ret v=>show q|brk=>show q|Ĭb=>show q
def zE.quiet{a:Á ð}{σ:St}{H:Hp}{s:Ï}(I:zE X a σ H s):Żm Ö=Â:=by simp[Żm,Òb]
nonrec def lO(te:TE):TS:=λD σ H=>te σ H λ_ a=>œa σ a
def eh(c:PE X e te)(i:Î Ųj q11):PS X Ôh (lO te):=by rw[ϲo];show wpAny_Expr_any įj I.quiet i;let{x,f,b,k,d}:=a;show{σ,f,b,d}
nonrec def y9y(te:TE):TS:=λD σ H=>te σ H D.rt
def LM(c:PE X e te):PS X Īe (y9y te):=by rw[ϲo];show wpAny_Return_some įj;let{x,f,b,i,d}:=a;show{x,σ,f,b,i,d}
nonrec def y9k(c:TT)(t u:TS):TS:=λD σ H=>c σ H λb a=>if b=Æ then t D σ a else u D σ a
def e_{c:Õ}{a b:Á Ø}{l:TT}(n:PT X c l)(m:uR X a t)(o:uR X b u):PS X (.If c a b pos) (y9k l t u):=by
 intro f s σ H D I h;show wpAny_If (zi (n f s σ H _ I h) λd i e=>?_);let{k,g,j}:=e;cases d with
 |Æ=>show m f i σ k D g j|Â=>show o f i σ k D g j
nonrec def y9p:TS:=λ_ _ _=>õ
def y4a{a:Á Ø}:uR X a y9p:=λ_ _ _ _ _ _ h=>Ŗi
#print a
abbrev TG:=V->St->Hp->ďm->Ç
abbrev gK:=Á V->St->Hp->ďm->Ç
def PG(X:Cx)(a:Õ)(t:TG):Ç:=
 ∀(z6:Á ð) (s:Ï) (σ:St) (H:Hp) (v:V) (u:Value) (Q:St->Hp->Ç),zE X z6 σ H s->zw v u->t v σ H Q->
  Û ÿ X.A (Àc a Ö u) (λ_ b=>∃σ' H',zE X z6 σ' H' b/\Q σ' H') ġ s
def TB(X:Cx)(ts:Á Õ)(t:gK):Ç:=
 ∀(z6:Á ð) (s:Ï) (σ:St) (H:Hp) (vs:Á V) (us:Á Value) (Q:St->Hp->Ç),zE X z6 σ H s->zm vs us->t vs σ H Q->
  Û ÿ X.A (assignInOrder ((ϒe ts Ö).map (·.2)) us) (λ_ a=>∃σ' H',zE X z6 σ' H' a/\Q σ' H') ġ s
abbrev IV:=V->V->V->Hp->Úo->Ç
def DR(X:Cx)(t:IV):Ç:=
 ∀(z6:Á ð) (s:Ï) (σ:St) (H:Hp) (o i v:V) (ov iv u:Value) (Q:Hp->Ç),zE X z6 σ H s->zw o ov->zw i iv->zw v u->t o i v H Q->
  Û ÿ X.A (Ăi ov iv u) (λ_ a=>∃H',zE X z6 σ H' a/\Q H') ġ s
abbrev TH:=V->V->Hp->VK->Ç
def IQ(X:Cx)(a:Ïd)(t:TH):Ç:=
 ∀(z6:Á ð) (s:Ï) (σ:St) (H:Hp) (x y:V) (v u:Value) (Q:VK),zE X z6 σ H s->zw x v->zw y u->t x y H Q->
  Û ÿ X.A (Ŵh a v u) Ăb ġ s
section
variable{X:Cx}{pos:Pos}
nonrec def tj(i:Ã):TG:=λv σ H Q=>Q ϖc H
def y3e{i:Ã}{x:È}(b:Ĥa)(hi:X.N[i]?=À x)(a:pV ϸ x)(c:Î ża q3):PG X îa Ńc:=by intro f s σ H v u Q I r h;show Ål (Nq I b hi a r (λe d=>{_,H,d,h}) c)
nonrec def VA:gK:=λa σ H Q=>a=[]/\Q σ H
nonrec def gR(t:TG)(u:gK):gK:=λb σ H Q=>∃v r,b=v::r/\t v σ H λσ' a=>u r σ' a Q
def y3i:TB X [] VA:=by intro b s σ H a c Q I r h;let{e,h}:=h;subst e;cases r;show assignInOrder_nil {σ,H,I,h}
def y3h{e:Õ}{es:Á Õ}{t:TG}{u:gK}(j:PG X e t)(k:TB X es u)(d:Î ((òm).map (·.2)=Àc e Ö::(Ďd).map (·.2)) q11):TB X ē (gR t u):=by
 intro b s σ H m n Q I r h;let{v,l,e1,h}:=h;subst e1;cases r with
 |ā r rr=>rw[d];show assignInOrder_cons (zi (j b s σ H _ _ _ I r h) λ_ f a=>?_);let{σ1,i,c,g}:=a;show k b f σ1 i _ _ Q c rr g
nonrec def VB(K:Ñ)(n:Ã)(t:gK):TG:=λv σ H Q=>∃a xs,v=.ref a/\ye K H a xs/\ç=n/\t xs σ H Q
def y3g{es:Á Õ}{k:Ã}{t:gK}{n:Ã}(p:Ż=Æ)(h:TB X es t)(m:Î ĭl q11)(d:Î ((Ďd).findIdx? (·.1)=Ä) q11):PG X Ŗg řm:=by
 intro g s σ H v u Q I r c;let{a,l,e1,w,x,c}:=c;subst e1;cases r;let{z,f,j,A}:=ώ w;refine assign_Tuple_tuple (Ďa p) j (by simp[m,<-x,ċa]) d λy q=>?_
 let i:zE X g σ H { s with é:=y }:=ïd (t':=Ć) λb o e=>q b o ùf e
 show h g _ σ H l _ Q i Ĺg c
nonrec def cA(b d:TE)(t:IV):TG:=λv σ H Q=>b σ H λo c=>d σ c λi e=>t o i v e λa=>Q σ a
def y3f{o i:Õ}{c d:TE}{t:IV}(C:PE X o c)(hi:PE X i d)(j:DR X t)(A:∀v,Àc ġg Ö v=(do
   let ov <-holding [v] Ċb
   let iv <-holding [v,ov] (ý i Ö)
   standAt pos
   holding Źn (Ăi ov iv v)
   release Źn []):=by intro _;rfl):PG X ġg (cA c d t):=by
 intro b s σ H v u Q I r h;rw[A];show Ô (ύa (zi (C b s σ H _ I h) λov n a=>?_));let{x,B,e,k,w}:=a;show Ô (ύa (zi (hi b n σ B _ e w) λiv l a=>?_));let{y,E,g,m,z}:=a;show Ô (Ļe (Ô (ύa (zi (j b l σ E x y v ov iv u _ g k m r z) λ_ F a=>?_))));let{f,p,q}:=a;show wpAny_release {σ,f,p,q}
nonrec def Nr(a:TE)(g:TG):TS:=λD σ H=>a σ H λx b=>g x σ b œa
def y45{tg e:Õ}{b:TE}{g:TG}(f:PE X e b)(p:PG X tg g)(i:Î (Îm [tg] e ϻc Ö=pure Â) q11)(k:Î (Ïm [tg] e Ö=pure Ä) q11)(o:Î ((ϒe [tg] Ö).map (·.2)=[Àc tg Ö]) q11):PS X (.Assign [tg] e pos) (Nr b g):=by intro c s σ H D I h;show wpAny_Assign_stores (zi (f c s σ H _ I h) λv l a=>?_) i k;let{x,n,d,j,m}:=a;rw[o];show zi (p c l σ n x v _ d j m) λ_ r q=>q
def y49{i:Ã}{x:È}{e:Õ}{c:TE}{a:Pos}(j:Ĥa)(hi:X.N[i]?=À x)(p:pV ϸ x)(f:PE X e c)(k:Î (ϊb e (À (.Name x a)) ϻc Ö=pure Â) q11)(q:Î ża q3) :PS X (.Assign [.Name x a] e pos) (Nr c Ńc):=by intro o s σ H D I h;show wpAny_Assign_Name (zi (f o s σ H _ I h) λv t b=>?_) k;let{y,n,d,l,m}:=b;show Nq d j hi p l (λr g=>{_,n,g,m}) q
nonrec def y9c(i:Ã)(a:TE)(d:TH):TS:=λD σ H=>∃x,σ[i]?=À (À x)/\a σ H λy b=>d x y b λz c=>œa (Χ (À z)) c
def ef{i:Ã}{x:È}{e:Õ}{q:TE}{o:Ïd}{t:TH}{f:Pos}(C:Ĥa)(hi:X.N[i]?=À x)(j:pV ϸ x)(R:PE X e q)(Z:IQ X o t)(hf:Î ża q3) :PS X (.AugAssign Ģh o e pos) (y9c i q t):=by
 rw[ϲo];let{v,e1,h}:=h;let{m,T,P}:=ça;let n:pf ϸ x:=by rcases j with k|k;show .inl k;show .inr (.inl k)
 let{u,r,l}:=P i x v hi e1 n;show wpAny_AugAssign_Name ?_
 let p:Û ÿ X.A Ϟc (λw s₂=>Û ÿ X.A (Ŵh o u w) (λr L=>Û ÿ X.A (storeName Ö x r) (λ_=>SP X g D .next) ġ L) ġ s₂) ġ s:=by
  show zi (R g s σ H _ I h) λw S d=>?_
  let{y,K,Q,E,U}:=d;show zi (Z g S σ K v y u w _ Q r E U) λz s2 d=>?_
  let{zv,H2,B,F,Y}:=d;show Nq B C hi j F (λs3 G=>{_,H2,G,Y}) hf
 rcases l with⟨a,J⟩|⟨a,c,O,b⟩;show ģk Òb a T J p;rcases a with a|a;show ōk Òb a O b p;rcases j with k|k;rw[ůo];rw[ůo]
nonrec def cq(f:Å->Å->Å):TH:=λx y H Q=>∃i j,x=.int i/\y=.int j/\Q (Δ (f i j)) H
def El:IQ X .Add šl:=by rw[Āo];let{i,j,e1,e2,q}:=h;subst e1;subst e2;let{t,rfl}:=a;let{d,rfl}:=b;show iadd_int {.int _,H,Ų _,{_,rfl},q}
#print a
section
variable{X:Cx}{pos:Pos}
nonrec def x06(c:TT)(tb:TS):TS:=λD σ H=>∃W:Ã->St->Hp->Ç,(∃m,W m σ H)/\∀m σ H,W m σ H->
 c σ H λb a=>if b=Æ then ∃N:St->Hp->Ç,(∀σ' H',N σ' H'->∃m',m'<m/\W m' σ' H')/\tb { D with nx:=N,ct:=N,bk:=œa } σ a else œa σ a
def f7{c:Õ}{a:Á Ø}{z:TT}{tb:TS}(x:ēc ÿ X.A Ö ġ)(C:PT X c z)(J:uR X a tb):PS X (.While c a [] pos) (x06 z tb):=by
 intro m s σ H D I h;let{W,{E,O},e}:=h;show wpAny_While (codeAny_whileLoop (λn G=>∃σ' H',zE X m σ' H' G/\W n σ' H') ?_ E {σ,H,I,O});rintro n L ⟨σ1,u,F,B⟩;show ác x (zi (C m L σ1 u _ F (e n σ1 u B)) λb K q=>?_);let{y,r,i}:=q;cases b with
 |Æ=>
  let{N,t,i}:=i;rw[Ò rfl];show ác x (zi (J m K σ1 y _ r i) λf P g=>?_);cases f with
  |next=>let{σ3,d,k,j}:=g;let{p,l,o}:=t σ3 d j;show{p,l,σ3,d,k,o}
  |Ĭb=>let{σ3,d,k,j}:=g;let{p,l,o}:=t σ3 d j;show{p,l,σ3,d,k,o}
  |brk=>show g|ret v=>show g
 |Â=>rw[Ó ņ];show Ġe {σ1,y,r,i}
#print a
structure It where
 go:Ã->Hp->Ç
 u5:Ã->Hp->V->Hp->Ç
 ēa:Ã->Hp->Ç
def pU(X:Cx)(a:Á ð)(H:Hp)(b:Ì):Ç:=
 H b=Ä/\b≠Ϝ/\b ∉ ıa/\ŉe/\(∀x c,āa x=À c->c≠b)/\∀p∈Ũb++a,p.1≠b
def zE.gw{X:Cx}{d:Á ð}{σ:St}{H H':Hp}{s:Ï}{b:Ì}(I:zE X d σ H s)(a:Ý<=b)(f:H' b=Ä):pU X d H' b:=by show{f,Æb (Ŧ I.lt a),I.S3 a,.inr (ģ I.sz a),λx c e z=>?_,λp g z=>?_};let{v,q}:=Ĭa x c e;show Þ (Ŧ q.lt íl) Ϭ;show Þ (Ŧ (Ĥ (İa p g).1) íl) Ϭ
structure jj(P:ë)(w:å)(K:Ñ)(tg:Õ)(J:It)(fp:Á Ì)(it:Ì)(tn:Ã->Heap->Ç):Ç where
 mem:it∈fp
 obj:∀i h,tn i h->∀b∈fp,∃o,Ě b=À o/\∀v,Đa≠.cell v
 ć:∀i h h',tn i h->(∀b∈fp,∀o,Ě b=À o->Ė b=À o)->tn i h'
 Źa:∀(X:Cx),ô=P->X.w=w->X.K=K->Ż=Æ->∀(i:Ã)(z6:Á ð) (s:Ï) (σ:St) (H:Hp) (E:Value->Ï->Ç),zE X z6 σ H s->(∀b∈fp,pU X z6 H b)->tn i ß->J.go i H->
  Û Đb X.A žn (λr s1=>∃u,r=À u/\
   Û Đb X.A ϔl (λ_ s2=>∃x H',zE X z6 σ H' s2/\zw x u/\J.u5 i H x H'/\tn ù s2.heap/\∀b∈fp,H' b=Ä) E s1) E s
 done:∀(X:Cx),ô=P->X.w=w->X.K=K->Ż=Æ->∀(i:Ã)(z6:Á ð) (s:Ï) (σ:St) (H:Hp) (E:Value->Ï->Ç),zE X z6 σ H s->(∀b∈fp,pU X z6 H b)->tn i ß->ŧf i H->
  Û Đb X.A žn (λr s1=>r=Ä/\zE X z6 σ H s1) E s
 īb:∀(A:û)(i:Ã)(s:Ï)(Q:Value->Ï->Ç)(E:Value->Ï->Ç),tn i ß->Q Ϝa s->Û Đb A (Ée Ϝa) Q E s
abbrev TI:=St->Hp->(It->Hp->Ç)->Ç
def DQ(X:Cx)(c:Á ð)(σ:St)(tg:Õ)(R:It->Hp->Ç)(a:Value)(d:Ï):Ç:=
 ∃(it:Ì) (fp:Á Ì) (tn:Ã->Heap->Ç) (J:It) (H':Hp),a=.ref it/\zE X c σ H' d/\jj ô X.w X.K tg J fp it tn/\tn 0 d.heap/\(∀b∈fp,pU X c H' b)/\R J H'
def PI(X:Cx)(tg a:Õ)(b:TI):Ç:=
 ∀(z6:Á ð) (s:Ï) (σ:St) (H:Hp) (R:It->Hp->Ç),zE X z6 σ H s->b σ H R->
  Û ÿ X.A Ϩm (λv c=>Û ÿ X.A (Ée v) (DQ X z6 σ tg R) ġ c) ġ s
def VF{M:ée}{A:û}{E:Value→Ï→Ç}{s:Ï}{tg:Õ}{it:Ì}{u:Value}{o:Obj}{n:Åa}{vs:Ú Value}{Q:þa→Ï→Ç}(c:Ă it=À o)(e:úa=.type n)(d:Đa=.fields vs)(b:[Ńb,Ēa,ŋk,ϓj,ùl,Ëk,Ģk].contains n=Â)(a:Q () s):Û M A ϔl Q E s:=by
  unfold ĺe
  cases tg<;>first
    |show č a
    | (cases u<;>first
        |show č a
        | (show Ô (ßn c ?_)
           rw[e,d];exact Û M A (Τb ([Ńb,Ēa,ŋk,ϓj,ùl,Ëk,Ģk].contains n&&vs[0]?==À (ϲd _))) Q E s;rw[Ó (by intro h;rw[b,ϕc]at h;cases h)];show č a))
nonrec def DL(K:Ñ)(a:Ì):It:=
 {λi H=>∃xs x,yU K H a xs/\xs[i]?=À x,λi H x b=>b=H/\∀xs,yU K H a xs->xs[i]?=À x,λi H=>∃xs,yU K H a xs/\ç<=i}
nonrec def DM(K:Ñ)(a:Ì):It:=
 {λi H=>∃xs x,ye K H a xs/\xs[i]?=À x,λi H x b=>b=H/\∀xs,ye K H a xs->xs[i]?=À x,λi H=>∃xs,ye K H a xs/\ç<=i}
nonrec def IK(lo:Å)(n:Ã):It:={λi _=>i<n,λi H x a=>a=H/\x=.int Ųa,λi _=>n<=i}
def x3v{P:ë}{w:å}{K:Ñ}{tg:Õ}(a it:Ì):jj P w K tg ìi ũb it (λi h=>èh it a i) where
 mem:=by simp
 obj:=λi h st b f=>by
  let e:b=it:=by simpa using f
  rw[üo]
 ć:=λi h j st k=>źf λo e=>k it ï o e
 Źa:=by
  rw[śo];let{Z,x,l,y}:=A;let{L,n,p,Y}:=ű l;let{u,Q,R}:=n.get y;let{B,C,f2,r,q,G}:=m it ï;refine åk st ďf (x:=u) ϯk λj g U=>?_
  let T:zE X O σ H { s with é:=j }:=Ŋa (t':=Ć) Šj B C r q G;let{o,e,c,d}:=id g;show{u,rfl,VF (s:={ s with é:=j }) e c d Í {x,H,T,R,{rfl,λys hy=>by rw[I.Jy hy l];show y},g,λb f=>(m b f).1}}
 done:=by rw[śo];let{Z,l,y}:=A;let{L,n,p,Y}:=ű l;let{B,C,f2,r,q,G}:=m it ï;let hl:=ϣb;show ăk (Ďa N) st ďf Ţl λj S=>{rfl,Ŋa (t':=Ć) òk B C r q G}
 īb:=λ_ _ _ _ _ st h=>wpAny_pyIter_listiter st h
def x3y{P:ë}{w:å}{K:Ñ}{tg:Õ}(a it:Ì):jj P w K tg ëi ũb it (λi h=>Ôm it a i) where
 mem:=by simp
 obj:=λi h st b f=>by
  let e:b=it:=by simpa using f
  rw[üo]
 ć:=λi h l st k=>źf λo e=>k it ï o e
 Źa:=by
  rw[Śo];let{Z,x,m,A}:=B;let{g,q,p,Y}:=ώ m;let{u,Q,R}:=q.get A;let{C,F,f2,t,r,J}:=n it ï;refine wpAny_pyNext_tuple_item st (show źb a Ŷh from p) (x:=u) ϯk λl j U=>?_
  let T:zE X O σ H { s with é:=l }:=Ŋa (t':=Ć) Šj C F t r J;let{o,e,c,d}:=id j;show{u,rfl,VF (s:={ s with é:=l }) e c d Í {x,H,T,R,{rfl,λys hy=>by rw[I.Bc hy m];show A},j,λb f=>(n b f).1}}
 done:=by rw[Śo];let{Z,m,A}:=B;let{g,q,p,Y}:=ώ m;let{C,F,f2,t,r,J}:=n it ï;let hl:=q.length;show wpAny_pyNext_tuple_end (Ďa N) st (show źb a Ŷh from p) Ţl λl S=>{rfl,Ŋa (t':=Ć) òk C F t r J}
 īb:=λ_ _ _ _ _ st h=>wpAny_pyIter_tupleiter st h
def x3w{P:ë}{w:å}{K:íh}{tg:Õ}(it:Ì)(lo:Å)(n:Ã):jj P w K tg Ùo ũb it (λi h=>ϓm h it (lo+(i:Ã)*1) ((n:Å)-(i:Ã)) 1) where
 mem:=by simp
 obj:=λi h st b a=>by
  let e:b=it:=by simpa using a
  subst e
  show{_,st,λv z=>by let J:Data.fields _=Data.cell v:=z;cases J}
 ć:=λi h d st k=>k it ï _ st
 Źa:=by
  rw[Ġo];let W:=Walks.range (Ē:=ô) (w:=X.w) (Ďa l) it lo 1 n;show ţi i s _ _ m st λv d tk B c F=>?_
  let{t,rfl}:=B;let G:zE X A σ H { s with é:=d,Ċ:=tk }:=Ŋa (λb o a e=>F b o Ļg e) p q y g u;refine{_,rfl,VF (s:={ s with é:=d,Ċ:=tk }) (n := "range_iterator") c rfl rfl Í {.int Ųa,H,G,{t,?_},{rfl,rfl},c,λb a=>(f b a).1}};rw[Ϯe]
 done:=by rw[Ġo];show wpAny_pyNext_range_end (Ďa l) st (by let:n<=i:=m;omega) λd C=>{rfl,Ŋa (t':=Ć) (λb o a e=>C b o a e) p q y g u}
 īb:=λ_ _ _ _ _ st h=>wpAny_pyIter_rangeiter st h
section
variable{X:Cx}{tg:Õ}
def z3o(K:Ñ)(c:TE):TI:=λσ H R=>c σ H λx b=>∃a,x=.ref a/\(∃xs,yU K b a xs)/\R ìi b
def z3r(K:Ñ)(c:TE):TI:=λσ H R=>c σ H λx b=>∃a,x=.ref a/\(∃xs,ye K b a xs)/\R ëi b
def y3n{l:Õ}{g:TE}(t:PE X l g):PI X tg l (z3o X.K g):=by
 intro n s σ H R I h;show zi (t n s σ H _ I h) λv d f=>?_
 let{x,m,c,j,k}:=f;let{a,e,{z,r},q}:=k;subst e;cases j;let{u,w,p,y}:=c.list r;show şc ďf ?_;show{Ħd,[Ħd],_,_,m,rfl,c.kept (t':=d.toks) λb o e=>ĝ _ e,x3v a _,{_,Ř _ rfl,rfl,rfl},λb i=>?_,q};let e:b=Ħd:=by simpa using i
 subst e;show c.gw ċ (c.zb.fresh ċ)
def y3q{l:Õ}{i:TE}(u:PE X l i):PI X tg l (z3r X.K i):=by
 intro r s σ H R I h;show zi (u r s σ H _ I h) λv c f=>?_
 let{x,n,d,k,m}:=f;let{a,e,{z,t},q}:=m;subst e;cases k;let{g,w,p,y}:=d.tuple t;show êg (show c.heap.IsTuple a Ŷh from p) ?_;show{ðc,[ðc],_,_,n,rfl,d.kept (t':=Ĩb) λb o e=>ĝ _ e,x3y a _,{_,Ř _ rfl,rfl,rfl},λb j=>?_,q};let e:b=ðc:=by simpa using j
 subst e;show d.gw ċ ϋn
def y5g{c:Á ð}{σ:St}{H:Hp}{s:Ï}{R:It->Hp->Ç}{E:Value->Ï->Ç}{lo hi:Å}{t u v:Tok}{tk:Ã}(I:zE X c σ H s)(f : -îi<=lo)(g:lo<2 ^ 62)(i : -îi<=hi)(d:hi<2 ^ 62)(q:R (IK lo (őf).toNat) H):Û ÿ X.A (Ée Ðb) (DQ X c σ tg R) E { s with é:=Þa { cls:=.type ğb,ă:=.fields #[.int lo t,.int hi u,.int 1 v] },Ċ:=tk }:=by
 show wpAny_pyIter_range (IsRange.new ..) (small_one f g i d) ?_;let a:zE X c σ H { s with é:=Þa { cls:=.type ğb,ă:=.fields #[.int lo t,.int hi u,.int 1 v] },Ċ:=tk }:=ïd λb o e=>ĝ _ e
 refine⟨(ϟf).objs.size,[(ϟf).objs.size],_,_,H,rfl,
  a.kept (t':=tk) λb o e=>ĝ _ e,x3w _ lo (őf).toNat,?_,λb h=>?_,q⟩
 let e1:lo+((0:Ã):Å)*1=lo:=by simp
 let e2:(((őf).toNat:Ã):Å)-((0:Ã):Å)=Builtin.Range.rangeSize lo hi 1:=by rw[rangeSize_one];rw[ϐo]
 exact ϓm _ _ (lo+((0:Ã):Å)*1) ((((őf).toNat:Ã):Å)-((0:Ã):Å)) 1;rw[e1,e2];show Ř _ rfl;let e:b=(ϟf).objs.size:=by rw[ϑo]
 subst e;show a.gw ċ (a.zb.fresh ċ)
def z3p(a:TA):TI:=λσ H R=>a σ H λc b=>∃j:Å,c=[.int j] /\ -îi<=j/\j<2 ^ 62/\R (IK 0 ϝb) b
def y3o{a:Õ}{d:TA}{p pos:Pos}(o:Gl X ğb)(n:ñ ğb=Ä)(l:PA X [a] d)(g:Î Çg q11):PI X tg Śk (z3p d):=by
 intro m s σ H R I h;show Call_ (XU I o n boot_range (ċe (zi (l pos m s σ H _ I h) λw u b=>?_) g rfl));let{v,x,f,i,c}:=b;let{j,e,c,k,q}:=c;subst e;cases i with
 |ā r rr=>cases rr;let{t,rfl}:=r;show call_range_1 (y5g f Ê Ê c k (by simpa using q))
nonrec def y9i(a:TI)(g:TG)(tb:TS):TS:=λD σ H=>a σ H λJ b=>∃W:Ã->Ã->St->Hp->Ç,(∃m,W 0 m σ b)/\∀i m σ H,W i m σ H->
 (ŧf i H/\œa σ H)\/(J.go i H/\∃N:St->Hp->Ç,(∀σ' H',N σ' H'->∃m',m'<m/\W ù m' σ' H')/\∀x H',J.u5 i H x H'->g x σ H' λσ2 c=>tb { D with nx:=N,ct:=N,bk:=œa } σ2 c)
nonrec def Qi(a:Á Ì)(h:Heap):Á ð:=a.filterMap λb=>(Ě b).map λo=>(b,o)
def Oy{a:Á Ì}{h:Heap}{b:Ì}{o:Obj}(c:b∈a)(e:Ě b=À o):(b,o)∈Qi a h:=List.mem_filterMap.mpr {b,c,by rw[e];rfl}
def z8v{a:Á Ì}{h:Heap}{p:Ì×Obj}(d:p∈Qi a h):p.1∈a/\Ě p.1=À p.2:=by
 let{b,c,e}:=List.mem_filterMap.mp d;cases q:Ě b with
 |Ä=>rw[q]at e;cases e|À o=>rw[q]at e;let f:(b,o)=p:=ća e;subst f;show{c,q}
def zE.pinned{c:Á ð}{σ:St}{H:Hp}{s:Ï}{a:Á Ì}(I:zE X c σ H s)(j:∀b∈a,pU X c H b)(i:∀b∈a,∃o,Ă b=À o/\∀v,Đa≠.cell v):zE X (c++Qi a ß) σ H s:=
 I.Ub λp k=>(Ăa k).elim (λz=>İa p (Ĳa _ z)) λz=>by let{f,e}:=z8v z;let{l,m,h,_}:=j p.1 f;let{o,g,d}:=i p.1 f;rw[e]at g;cases g;show{e,l,m,h,d}
def zE.Bd{a pl:Á ð}{σ:St}{H:Hp}{s:Ï}(I:zE X (a++pl) σ H s):zE X a σ H s:=I.Ub λp b=>İa p (Ĳa _ (ãc _ b))
def Ge{k:Õ}{t:Á Ø}{wi:TI}{g:TG}{tb:TS}{pos:Pos}(C:ēc ÿ X.A Ö ġ)(hc:Ż=Æ)(hi:PI X tg k wi)(hg:PG X tg g)(c:uR X t tb)(hs:Î (∀x,úb k Ö x=pure x) q10):PS X (.For tg k t [] pos) (y9i wi g tb):=by
 intro B s σ H D I h;show wpAny_For (zi (hi B s σ H _ I h) λv s1 h1=>zi h1 λitv s2 h2=>?_) hs;let{it,P,tn,J,H2,e,I2,T,U,f2,W,{m0,w0},F}:=h2;subst e;let j:∀{H':Hp},(∀b∈P,H' b=Ä)->∀b∈P,pU X B H' b:=λhn b c=>{hn b c,(f2 b c).2}
 show codeAny_forLoop_any (λn s'=>∃i σ' H',zE X B σ' H' s'/\tn i ıc/\(∀b∈P,H' b=Ä)/\W i n σ' H') ?_ m0 {0,σ,H2,I2,U,λb c=>(f2 b c).1,w0};rintro n s3 ⟨i,σ3,Q,I3,G,L,w3⟩;rcases F i n σ3 Q w3 with⟨K,qn⟩|⟨go,N,hN,E⟩;show ác C (χd (T.done X rfl rfl rfl hc i B s3 σ3 Q ġ I3 (j L) G K));let{S,I4}:=a;subst S;show Ġe {σ3,Q,I4,qn}
 .show ác C (χd (T.item X rfl rfl rfl hc i B s3 σ3 Q ġ I3 (j L) G go));let{u,S,h4}:=a;subst S;show ác C (zi h4 λ_ s5 a=>?_);let{x,H5,I5,r5,y5,z,R}:=a;let Y:=I5.pinned (j R) (èe _ _ z);show ác C (zi (hg _ s5 σ3 H5 x u _ Y r5 (E x H5 y5)) λ_ s6 a=>?_);let{σ6,H6,I6,q6}:=a;show ác C (zi (c _ s6 σ6 H6 _ I6 q6) λf Z y=>?_)
  let q:∀{σ7:St}{l:Hp},zE X (B++Qi P s5.heap) σ7 l Z->N σ7 l->∃m,m<n/\∃i σ' H',zE X B σ' H' Z/\tn i Z.heap/\(∀b∈P,H' b=Ä)/\W i m σ' H':=λ{σ7 l} p O=>by let{m',hm,w7}:=hN σ7 l O;show{m',hm,i+1,σ7,l,p.Bd,Ñe _ _ _ z λb c o e=>Ęj.1,λb c=>?_,w7};let{o,e,d}:=èe _ _ z b c;show Ęj.2.1
  cases f with
  |next=>let{σ7,l,p,O}:=y;show q p O
  |Ĭb=>let{σ7,l,p,O}:=y;show q p O
  |brk=>let{σ7,l,p,y}:=y;show{σ7,l,p.Bd,y}
  |ret v=>let{x7,σ7,l,p,r7,y}:=y;show{x7,σ7,l,p.Bd,r7,y}
#print a
abbrev R2:=V->V->Hp->VK->Ç
def yP(X:Cx)(f:Value->Value->Sem Value)(r:R2):Ç:=
 ∀(z6:Á ð) (s:Ï) (σ:St) (H:Hp) (x y:V) (v u:Value) (Q:VK),zE X z6 σ H s->zw x v->zw y u->r x y H Q->
  Û ÿ X.A Ĺi Ăb ġ s
def TK(X:Cx)(f:Value->Sem Value)(r:V->Hp->VK->Ç):Ç:=
 ∀(z6:Á ð) (s:Ï) (σ:St) (H:Hp) (x:V) (v:Value) (Q:VK),zE X z6 σ H s->zw x v->r x H Q->
  Û ÿ X.A (f v) Ăb ġ s
def wM(X:Cx)(f:Value)(r:Á V->Hp->VK->Ç):Ç:=
 ∀(z6:Á ð) (s:Ï) (σ:St) (H:Hp) (xs:Á V) (us:Á Value) (Q:VK),zE X z6 σ H s->zm xs us->r xs H Q->
  Û ÿ X.A (źa f us) Ăb ġ s
nonrec def JJ(r:R2)(c tb:TE):TE:=λσ H Q=>c σ H λx a=>tb σ a λy b=>r x y b Q
nonrec def x05(r:V->Hp->VK->Ç)(b:TE):TE:=λσ H Q=>b σ H λx a=>r x a Q
nonrec def rI(C:Å->Å->Ç)(g:Å->Å->V):R2:=λx y H Q=>∃i j,x=.int i/\y=.int j/\C i j/\Q Ŧa H
nonrec def qD(g:Å->Å->V):R2:=λx y H Q=>∃i j,x=.int i/\y=.int j/\Q Ŧa H
def rU(g:Å->V):V->Hp->VK->Ç:=λx H Q=>∃i,x=.int i/\Q (g i) H
section
variable{X:Cx}{a b c:Õ}{ta tb:TE}{pos:Pos}
def Fi(m:PE X a ta)(i:PE X b tb){d:Á ð}{s:Ï}{σ:St}{H:Hp}{R:V->V->Hp->Ç}(I:zE X d σ H s)(h:ta σ H λx H1=>tb σ H1 λy H2=>R x y H2){Q:Value->Ï->Ç}{f:Value->Value->Sem Value}(p:∀v u s2 x y H2,zE X d σ H2 s2->zw x v->zw y u->R x y H2->Û ÿ X.A Ĺi Q ġ s2) :Û ÿ X.A Ϩm (λv s₁=>Û ÿ X.A (ý b Ö) (λu s₂=>Û ÿ X.A Ĺi Q ġ s₂) ġ s₁) ġ s:=by
 show zi (m d s σ H _ I h) λv l c=>?_
 let{x,H1,e,j,n}:=c;show zi (i d l σ H1 _ e n) λu s2 c=>?_
 let{y,H2,g,k,o}:=c;show p v u s2 x y H2 g j k o
def eN{c:Ïd}{r:R2}(l:yP X (ŀa c) r)(j:PE X a ta)(f:PE X b tb):PE X (.BinOp a c b pos) Ϩe:=by intro k s σ H Q I h;show wpAny_BinOp (Fi j f I h λv u g x y m e d i q=>l k g σ m x y v u Q e d i q)
def y3b{c:UnaryOp}{r:V->Hp->VK->Ç}(j:TK X (Ĳf c) r)(g:PE X a ta):PE X (.UnaryOp c a pos) (x05 r ta):=by rw[Ūo];show UnaryOp_ (zi (g d s σ H _ I h) λv l b=>?_);let{x,i,e,k,f}:=b;show j d l σ i x v Q e k f
def Xa{f:Value->Value->Sem Value}{C:Å->Å->Ç}{g:Å->Å->Å}(a:∀(i j:Å)(t u:Tok)(s:Ï)(Q:Value->Ï->Ç)(E:Value->Ï->Ç),C i j->Q Ãm { s with Ċ:=Ć+1 }->Û ÿ X.A èg Q E s) :yP X f úk:=by intro k s σ H x y v u Q I b c h;let{i,j,rfl,rfl,d,q}:=h;let{t,rfl}:=b;let{e,rfl}:=c;show a i j t e s _ _ d {.int Ŧa,H,Ų _,{_,rfl},q}
def Qe{f:Value->Value->Sem Value}{g:Å->Å->Å}(a:∀(i j:Å)(t u:Tok)(s:Ï)(Q:Value->Ï->Ç)(E:Value->Ï->Ç),Q Ãm { s with Ċ:=Ć+1 }->Û ÿ X.A èg Q E s) :yP X f ϖn:=by rw[ęo];show a i j t d s _ _ {.int Ŧa,H,Ų _,{_,rfl},q}
def LC{f:Value->Value->Sem Value}{g:Å->Å->Ð}(a:∀(i j:Å)(t u:Tok)(s:Ï)(Q:Value->Ï->Ç)(E:Value->Ï->Ç),Q (.bool Ŧa) s->Û ÿ X.A èg Q E s) :yP X f Ťk:=by rw[ęo];show a i j t d s _ _ {.bl Ŧa,H,I,rfl,q}
def Uf(i j:Å):Ç:=0<=j/\j<=1000000/\Ëd<2 ^ 64
def Ue(i j:Å):Ç:=(-ĥf<i/\i<2 ^ 64)\/(-ĥf<j/\j<2 ^ 64)
def Ue.ok{i j:Å}(h:Ue i j):IntMulOk i j:=by rcases h with⟨a,b⟩|⟨a,b⟩;show .of_left ťk;show .of_right ťk
def x4w(k:Ã):(0:Å)<=2 ^ k:=by rw[two_pow_cast];show ĵb _
def y1t:yP X ϱc (Ηa (i+j)):=Qe λ_ _ _ _ _ _ _ q=>ŋa q
def kZ:yP X (ŀa .Sub) ϥm:=Qe λ_ _ _ _ _ _ _ q=>sub_int q
def tN:yP X ęh çg:=Xa λ_ _ _ _ _ _ _ a q=>mul_int q a.ok
def pE:yP X (ŀa .Mod) Ϲj:=Xa λi j _ _ _ _ _ a q=>by let b:(0:Å)<j:=a;show mod_int' Ê (by rw[Int.fmod_eq_emod_of_nonneg i Ê];show q)
def y2b:yP X (ŀa .Pow) ŉl:=Xa λ_ _ _ _ _ _ _ a q=>pow_int_small a.1 a.2.1 a.2.2 q
def kY:yP X (ŀa .LShift) Ýl:=Xa λ_ _ _ _ _ _ _ a q=>lshift_int_small a.1 a.2.1 a.2.2 q
def e9:yP X (ŀa .RShift) ōj:=Xa λi j _ _ _ _ _ a q=>
 rshift_int a (by rw[ϕj i (x4w _)];show q)
def GU:yP X (ŀa .BitAnd) (Ηa (Builtin.bitAnd i j)):=Qe λ_ _ _ _ _ _ _ q=>and_int q
def e8:yP X (ŀa .BitOr) (Ηa (ſe i j)):=Qe λ_ _ _ _ _ _ _ q=>or_int q
def y2d:yP X (ŀa .BitXor) (Ηa (Ϗl i j)):=Qe λ_ _ _ _ _ _ _ q=>xor_int q
def lj{f:Value->Sem Value}{g:Å->Å}(a:∀(i:Å)(t:Tok)(s:Ï)(Q:Value->Ï->Ç)(E:Value->Ï->Ç),Q (.int (g i) Ć) { s with Ċ:=Ć+1 }->Û ÿ X.A (f Øf) Q E s) :TK X f (χb (g i)):=by intro c s σ H x v Q I b h;let{i,rfl,q}:=h;let{t,rfl}:=b;show a i t s _ _ {.int (g i),H,Ų _,{_,rfl},q}
def JR:TK X (Ĳf .USub) (χb (-i)):=lj λ_ _ _ _ _ q=>neg_int q
def x59:TK X (Ĳf .Invert) (χb ėi):=lj λ_ _ _ _ _ q=>invert_int q
def y1u:yP X ϱc (λx y H Q=>∃i k,x=.int i/\y=.bl k/\Q ōl H):=by rw[Āo];let{i,k,rfl,rfl,q}:=h;let{t,rfl}:=a;cases b;show add_int_bool {.int (i+b2i k),H,Ų _,{_,rfl},q}
#print a
nonrec def NR:V->V->Ð
 |.zG,.zG=>Æ|.zG,.int _=>Æ|.int _,.zG=>Æ|.zG,.bl _=>Æ|.bl _,.zG=>Æ|.zG,.str _=>Æ|.str _,.zG=>Æ|.int _,.int _=>Æ|.bl _,.bl _=>Æ|.str _,.str _=>Æ|.byt _,.byt _=>Æ|.int _,.str _=>Æ|.str _,.int _=>Æ|.bl _,.str _=>Æ|.str _,.bl _=>Æ|_,_=>Â
def y52:R2:=λx y H Q=>NR x y=Æ/\Q (Ιa (x=y)) H
def y57:R2:=λx y H Q=>NR x y=Æ/\Q (.bl (!decide (x=y))) H
def C3{i j:Å}:decide (ûd i=ûd j)=Ýe:=by rw[øc];simp
def C2{i j:Ð}:decide (V.bl i=V.bl j)=Ýe:=by rw[øc];simp
def C4{i j:È}:decide (Ác i=Ác j)=Ýe:=by rw[øc];simp
def bM{i j:Ú UInt8}:decide (V.byt i=V.byt j)=(i.toList==j.toList):=by rw[øc];cases i;cases j;simp
section
variable{X:Cx}{a b c:Õ}{ta tb tc:TE}{pos:Pos}
def xw{b:Á ð}{σ:St}{H:Hp}{s:Ï}{Q:VK}{k a:Ð}(I:zE X b σ H s)(q:Q Äe H)(e:k=a):EP X b σ Q (.bool a) s:=by subst e;show{.bl k,H,I,rfl,q}
def y1y:yP X Ϡn y52:=by
 rw[ųo];cases x with
 |zG=>
  cases d;cases y with
  |zG=>cases a;show PySem.EqNone.eq_none_none ϩ|bl j=>cases a;show PySem.EqNone.eq_none_bool ϩ|int j=>let{b,rfl}:=a;show PySem.EqNone.eq_none_int ϩ
  |str j=>let{b,rfl}:=a;show PySem.EqNone.eq_none_str ϩ
  |_=>show Þ (show Â=Æ from c) ņ
 |bl i=>
  cases d;cases y with
  |zG=>cases a;show PySem.EqNone.eq_bool_none ϩ|bl j=>cases a;show eq_bool (xw I q C2)|str j=>let{b,rfl}:=a;show PySem.EqMixed.eq_bool_str ϩ
  |_=>show Þ (show Â=Æ from c) ņ
 |int i=>
  rw[ϗo];cases y with
  |zG=>cases a;show PySem.EqNone.eq_int_none ϩ|int j=>let{b,rfl}:=a;show Íe (xw I q C3)
  |str j=>let{b,rfl}:=a;show PySem.EqMixed.eq_int_str ϩ
  |_=>show Þ (show Â=Æ from c) ņ
 |str i=>
  rw[ϗo];cases y with
  |zG=>cases a;show PySem.EqNone.eq_str_none ϩ|bl j=>cases a;show PySem.EqMixed.eq_str_bool ϩ|int j=>let{b,rfl}:=a;show PySem.EqMixed.eq_str_int ϩ
  |str j=>let{b,rfl}:=a;show eq_str (xw I q C4)
  |_=>show Þ (show Â=Æ from c) ņ
 |byt i=>
  rw[ϗo];cases y with
  |byt j=>let{b,rfl}:=a;show W.eq_bytes (xw I q bM)
  |_=>show Þ (show Â=Æ from c) ņ
 |_=>cases y<;>show Þ (show Â=Æ from c) ņ
def y26:yP X Ĳm y57:=by
 rw[ųo];cases x with
 |zG=>
  cases d;cases y with
  |zG=>cases a;show PySem.EqNone.ne_none_none ϩ|bl j=>cases a;show PySem.EqNone.ne_none_bool ϩ|int j=>let{b,rfl}:=a;show PySem.EqNone.ne_none_int ϩ
  |str j=>let{b,rfl}:=a;show PySem.EqNone.ne_none_str ϩ
  |_=>show Þ (show Â=Æ from c) ņ
 |bl i=>
  cases d;cases y with
  |zG=>cases a;show PySem.EqNone.ne_bool_none ϩ|bl j=>cases a;show ne_bool (xw I q (ŕ not C2))|str j=>let{b,rfl}:=a;show PySem.EqMixed.ne_bool_str ϩ
  |_=>show Þ (show Â=Æ from c) ņ
 |int i=>
  rw[ϗo];cases y with
  |zG=>cases a;show PySem.EqNone.ne_int_none ϩ|int j=>let{b,rfl}:=a;show ne_int (xw I q (ŕ not C3))
  |str j=>let{b,rfl}:=a;show PySem.EqMixed.ne_int_str ϩ
  |_=>show Þ (show Â=Æ from c) ņ
 |str i=>
  rw[ϗo];cases y with
  |zG=>cases a;show PySem.EqNone.ne_str_none ϩ|bl j=>cases a;show PySem.EqMixed.ne_str_bool ϩ|int j=>let{b,rfl}:=a;show PySem.EqMixed.ne_str_int ϩ
  |str j=>let{b,rfl}:=a;show ne_str (xw I q (ŕ not C4))
  |_=>show Þ (show Â=Æ from c) ņ
 |byt i=>
  rw[ϗo];cases y with
  |byt j=>let{b,rfl}:=a;show W.ne_bytes (xw I q (ŕ not bM))
  |_=>show Þ (show Â=Æ from c) ņ
 |_=>cases y<;>show Þ (show Â=Æ from c) ņ
def gb:yP X (àa .Lt) (Αb (i<j)):=LC λ_ _ _ _ _ _ _ q=>lt_int q
def LF:yP X (àa .LtE) (Αb (i<=j)):=LC λ_ _ _ _ _ _ _ q=>le_int q
def Qg:yP X (àa .Gt) (Αb (j<i)):=LC λ_ _ _ _ _ _ _ q=>gt_int q
def Qf:yP X (àa .GtE) (Αb (j<=i)):=LC λ_ _ _ _ _ _ _ q=>ge_int q
def y24:yP X Ėc (γc Źj):=by rw[Ło];show in_str (xw I q rfl)
def YC:yP X (àa .Is) Ŝk:=by
 rw[Āo];let{rfl,q}:=h;cases b;show is_none_gen Ân
 cases x<;>first
  |(cases a;rfl)
  |(let{t,rfl}:=a;rfl)
def Vc:yP X ĳm Ŧj:=by
 rw[Āo];let{rfl,q}:=h;cases b;show isnot_none_gen Ân
 cases x<;>first
  |(cases a;rfl)
  |(let{t,rfl}:=a;rfl)
def yP.or{f:Value->Value->Sem Value}{r c:R2}(h:yP X f r)(h':yP X f c):yP X f (λx y H Q=>r x y H Q\/c x y H Q):=by intro d s σ H x y v u Q I a b q;rcases q with q|q;show h d s σ H x y v u Q I a b q;show h' d s σ H x y v u Q I a b q
def zn(b:Õ){a:ϗf}(h:Î (a≠.In) q7)(c:Î (a≠.NotIn) q7):żb a b=Â:=by
 let e1:(a==CmpOp.In)=Â:=by cases a<;>first|rfl|show Þ rfl h
 let e2:(a==CmpOp.NotIn)=Â:=by cases a<;>first|rfl|show Þ rfl c
 cases b<;>simp[żb,e1,e2]
theorem y2u{c:ϗf}{r:R2}(m:yP X (àa c) r)(j:PE X a ta)(f:PE X b tb)(k:żb c b=Â):PE X (.Compare a [c] [b] pos) Ϩe:=by rw[ũo];show wpAny_Compare1 (Fi j f I h λv u g x y n e d i q=>m l g σ n x y v u Q e d i q) k
nonrec def x03(t:TE):TT:=λσ H Q=>t σ H λx a=>∃k,x=.bl k/\Q k a
def Gf{j:ϗf}{r:R2}(L:yP X (àa j) r)(G:PE X a ta)(C:PE X b tb)(t:żb j b=Â):PT X (.Compare a [j] [b] pos) (x03 Ϩe):=by
 intro f s σ H Q I h;show wpAny_isTrue_Compare1 (zi (G f s σ H _ I h) λv F i=>?_) t;let{x,w,A,m,J}:=i;show zi (C f F σ w _ A J) λu E g=>?_
 let{y,N,l,o,K}:=g;show zi (L f E σ N x y v u _ l m o K) λc O d=>?_
 let{z,B,p,n,k,e,q}:=d;subst e;cases n;show Ýc {B,p,q}
nonrec def y9e(r c:R2)(ta tb tc:TE):TE:=λσ H Q=>ta σ H λx d=>tb σ d λy f=>r x y f λz a=>∃k,z=.bl k/\
 (if k=Æ then tc σ a λe b=>c y e b Q else Q ò a)
def y2s{m f:ϗf}{r o:R2}(ho:yP X (àa m) r)(n:yP X (àa f) o)(ha:PE X a ta)(T:PE X b tb)(N:PE X c tc)(J:Î (Şn [m,f] [b,c]=Â) q12):PE X (.Compare a [m,f] [b,c] pos) (y9e r o ta tb tc):=by
 intro g s σ H Q I h;show Compare_chain (zi (ha g s σ H _ I h) λv Y l=>?_) J;let{x,L,R,C,q1}:=l;show chain_link (zi (T g Y σ L _ R q1) λu U j=>?_);let{y,H2,B,p,q2}:=j;show zi (ho g U σ H2 x y v u _ B C p q2) λd O i=>?_
 let{z,w,q,E,k,e,t}:=i;subst e;cases E;show Ýc ?_;cases k with
 |Â=>show ite_ff {.bl Â,w,q,rfl,t}|Æ=>show ite_tt (chain_last (zi (N g O σ w _ q t) λF G ⟨Z,K,S,A,P⟩=>n g G σ K y Z u F Q S p A P))
def XV:(â:Ã)<2 ^ 63:=by rw[ŧ];decide
def y1v:yP X ϱc (λx y H Q=>∃i j,x=.str i/\y=.str j/\Ęb+Ča<=â/\Q ēm H):=by intro e s σ H x y v u Q I a c h;let{i,j,rfl,rfl,b,q}:=h;let{t,rfl}:=a;let{d,rfl}:=c;show Ĵc (λd tk=>{.str (i++j),H,Ų _,{_,rfl},q}) b
def wv{x:V}{us:Á Value}(r:zm [x] us):∃u,us=[u]/\zw x u:=by
 cases r with
 |ā r1 r2=>cases r2;show{_,rfl,r1}
def PH{x y:V}{us:Á Value}(r:zm Ťb us):∃u w',us=[u,w']/\zw x u/\zw y w':=by
 cases r with
 |ā r1 r2=>
  cases r2 with
  |ā r3 r4=>cases r4;show{_,_,rfl,r1,r3}
def rq:wM X Ĝa ϛi:=by intro c s σ H xs b Q I r h;rcases h with⟨i,rfl,q⟩|⟨k,rfl,q⟩;rw[īo];show call_int_int {.int i,H,I,{_,rfl},q};let{u,rfl,a}:=wv r;cases a;show call_int_bool {.int ĺk,H,Ų _,{_,rfl},q}
def sL:wM X ěa (λxs H Q=>∃i,xs=[.int i]/\ώc<1920/\Q Âm H):=by intro b s σ H xs c Q I r h;let{i,rfl,a,q}:=h;rw[īo];show PySem.P.str_of_int a {.str _,H,Ų _,{_,rfl},q}
#print a
structure Yw(h:Heap)(x dx C:Ì)(mA:È->É Value):Ç where
 obj:Ě x=À ùn
 ns:Žf dx mA
 ne:dx≠x
def z5c{h:Heap}{c:Ì}{f:È->É Value}(n:Žf c f):∃od,Ě c=À od/\∀ĵ,ėf ĵ od=À (f ĵ):=by
 let{o,d,p,k,g,m,_,i}:=n;show{o,k,λname=>?_};let e:=i ĵ;unfold nsFind findBy at e;rw[<-Array.find?_toList]at e;unfold ėf;rw[g];dsimp only
 split;rename_i y q;rw[q]at e;show ŕ À e;rename_i q;rw[q]at e
 let a:Ģm (·.refKey)=Â:=by rw[List.any_eq_false];intro y l;let{z,t,b}:=m y (Array.mem_toList_iff.mp l);simp[DictEntry.refKey,b]
 let j:¬ Ģm (·.refKey)=Æ:=by rw[a];show ņ
 rw[Ó j];show ŕ À e
def Yw.look{h:Heap}{x b C:Ì}{a:È->É Value}(I:Yw h x b C a):∃od,W.InstAt h x (Ōe C b) C (À od)/\∀ĵ,ėf ĵ od=À (a ĵ):=
 let ⟨od,ho,hl⟩:=z5c I.ns
 {od,{I.obj,rfl,rfl,ho},hl}
section
variable{Ē:ë}{w:å}{A:û}{E:Value->Ï->Ç}{s:Ï}{K:Ñ}{x dx C f:Ì}{mA:È->É Value}{ĵ:È}{v:Value}
def z1h{a:Ð}{Q:Value->Ï->Ç}(X:Ő ß)(I:Yw ß x dx C mA)(e:ťd K C ĵ=Æ)(d:Ϭe K C=Æ)(c:ħa K Ō ĵ=À Ä)(hv:mA ĵ=À v)(b:ïn v=Æ)(h:Q v { s with Ċ:=Ć+1 }) :Û è A (Ći Ûd ĵ a) Q E s:=by let{g,J,f}:=ũi;show W.get_value X J (Àh e).1 (W.findObj_own d c rfl (by rw[f,hv])) b h
def z1i{pl:Sem Ð}{Q:Value×Á Value->Ï->Ç}(X:Ő ß)(I:Yw ß x dx C mA)(a:ťd K C ĵ=Æ)(e:ħa K Ō ĵ=À Ņa)(c:Ðe K İ=Æ)(hv:mA ĵ=Ä)(h:Q (.ref f,[.ref x]) s) :Û è A (ŧn Ûd ĵ pl) Q E s:=by let{d,J,b}:=ũi;show W.method_fn X J (Àh a).1 (Àh a).2 e (że c) (by exact(ėf ĵ d).map (·.isSome)=À Â;rw[b,hv];rfl) h
def y7z{ns:Á È}{Q:þa->Ï->Ç}(X:Ő ß)(I:Yw ß x dx C mA)(n:ħa K Ō ϳg=À ϴf)(t:Đh K C=Æ)(k:ϊh K C ĵ=À Ä)(l:Ϭe K C=Æ)(o:ìh mA ns)(hsz:ś<=â)(h:∀h',Yw h' x dx C (λy=>if y=ĵ then À v else mA y)->Éb dx ß h'->Q () { s with é:=h',Ċ:=Ć+2 }) :Û è A (setAttr Ûd ĵ v) Q E s:=by
 let{B,J,F}:=ũi;show W.set_plain X J n (W.osa_open (s:={ s with Ċ:=Ć+1 }) (r:=Ä) X J t k λb=>?_);let{z,p,e}:=W.any_some l;let q:Ă x=À {.ref C,À dx,.plain,#[]}:=I.obj;show Ô (Κa (Ô (wpAny_loadPart q (Ô (W.Looks.here (s:={ s with Ċ:=Ć+1 }) (W.looks_clsIn X p) ?_)))));rw[e];show č (a:=À dx) (Ô ϝg);show wpAny_nsSet1 (s:={ s with Ċ:=Ć+1 }) I.ns λh' c d=>?_
 let{u,m,j,g,f,i}:=c.count (PySem.Within.cons ĵ v o);refine Ô (wpAny_lookBehind g (by rw[f];show pastItsLine_dict (ģ i (by rw[Ď];omega))) ?_);show č (h _ {(d.2 _ (Ùb I.ne)).trans I.obj,c,I.ne} d)
def z5m{R:ľc->Ï->Ç}{vs:Á Value}{b:Á ćb}(X:Ő ß)(c:ìf K C=Æ)(hi:ħa K Ō Ϡa=À Ņa)(e:W.typeIn K İ=À (.type "function"))(h:ϫa è (A.under (.builtin Įl {.ref C::vs,b})) (.call İ {.ref ãa::vs,b}) (W.InitBack ãa R)
   { s with é:=(żc).push ϲe }) :
  ϫa è A (.call Ō {vs,b}) R s:=by
 let{j,g,d,t,i}:=s;show W.make_core (W.makes_of X c) (W.looks_findIn X hi) (λa=>W.bind_fn X a e) ą h
#print a
nonrec def èb(f:È)(v:V):Á Ĝb->Á Ĝb
 | []=>[(f,v)]|(g,x)::r=>if g=f then(g,v)::r else(g,x)::èb f v r
theorem dL(f g:È)(v:V):∀fs:Á Ĝb,(ώe).lookup g=if g=f then À v else ϐb g
 | []=>by exact Čc g [(f,v)]=_;by_cases h:g=f;let a:(g==f)=Æ:=ϓc h;simp only[Čc,a,Ò h];let a:(g==f)=Â:=Üc h;simp only[Čc,a,Ó h]|(k,x)::r=>by let b:=dL f g v r;rw[show èb f v šh=ϫf from rfl];by_cases hk:k=f;rw[Ò hk];by_cases h:g=k;let a:űf=Æ:=ϓc h;simp only[Čc,a,Ò (Ĺf hk)];let a:űf=Â:=Üc h;simp only[Čc,a,Ó (λe:g=f=>h (ϰb hk.symm))];rw[Ó hk];by_cases h:g=k;let a:űf=Æ:=ϓc h;simp only[Čc,a,Ó (λe:g=f=>hk (h.symm.trans e))];let a:űf=Â:=Üc h;simp only[Čc,a];show b
theorem Et(f:È)(v:V):∀fs:Á Ĝb,f∈(ώe).map (·.1)/\∀g,g∈Įc (·.1)->g∈(ώe).map (·.1)
 | []=>{by simp[èb],λg h=>by simp at h}|(k,x)::r=>by let{a,b}:=Et f v r;rw[show èb f v šh=ϫf from rfl];by_cases hk:k=f;rw[Ò hk];subst hk;show{by simp,λg h=>by rw[ϑo]};rw[Ó hk];show{?_,λg h=>?_};rw[Ň];show Ça _ a;rw[Ň]at h ⊢;rcases Ī h with e|e;show List.mem_cons.mpr øi;show Ça _ (b g e)
theorem dH(f:È)(v:V):∀fs:Á Ĝb,(ώe).length<=Ġa+1
 | []=>by simp[èb]|(k,x)::r=>by let a:=dH f v r;rw[show èb f v šh=ϫf from rfl];by_cases hk:k=f;rw[Ò hk,Ď,Ď];omega;rw[Ó hk,Ď,Ď];omega
def ţd{v:V}{o:É Value}(r:uA Ϥ o):∃u,o=À u/\zw v u:=by
 cases o with
 |Ä=>show(show õ from r).elim|À u=>show{u,rfl,r}
def án{o:É Value}(r:uA Ä o):o=Ä:=by
 cases o with
 |Ä=>rfl|À u=>show(show õ from r).elim
def z3g{v:V}{u:Value}(r:zw v u):ïn u=Æ:=by
 cases v with
 |zG=>cases(show u=ϑc from r);rfl|bl b=>cases(show u=Æf b from r);rfl|int i=>let{t,e}:=(show ∃t,u=Ēc i t from r);cases e;rfl
 |str x=>let{t,e}:=(show ∃t,u=ĥa x t from r);cases e;rfl
 |byt b=>let{t,e}:=(show ∃t,u=ϊm b t from r);cases e;rfl
 |Yh b=>let{t,e}:=(show ∃t,u=ēh b t from r);cases e;rfl
 |ref a=>cases(show u=Ĉ a from r);rfl|ty n=>cases(show u=ĺh n from r);rfl
section
variable{P:ë}{w:å}{H:Hp}{h:Heap}{a C dx:Ì}{fs:Á Ĝb}
def Ob(c:xg P w H h)(e:H a=À Åb):∃mA,Yw h a dx C mA/\(∀f,uA ęi źi)/\ìh mA (Įc (·.1))/\Ġa<=1000/\H dx=À ϥd:=by let{d,z,g,b,mA,n,r,q}:=(show yz P w H h a Åb from c a _ e);show{mA,{b,n,g},r,q,z,d}
#print a
structure ud(K:Ñ)(C:Ì):Ç where
 pg:ťd K C ώh=Æ
 hd:Ϭe K C=Æ
 po:Đh K C=Æ
 sa:ħa K Ō ϳg=À ϴf
def ud.get{K:Ñ}{C:Ì}(c:ud K C)(f:È):ťd K C f=Æ:=c.pg
def Zk(K:Ñ)(C:Ì)(f:È):Ç:=ħa K Ō f=À Ä
def Zk.nu{K:Ñ}{C:Ì}{f:È}(n:Zk K C f):ϊh K C f=À Ä:=by unfold ϊh;rw[show ħa K Ō f=À Ä from n];rfl
structure IM(K:Ñ)(C:Ì)(m:È)(f:Ì):Ç where
 at_:ħa K Ō m=À Ņa
 fn:Ðe K İ=Æ
 kp:âa K İ=Æ
section
variable{X:Cx}{z6:Á ð}{σ:St}{H:Hp}{s:Ï}{a C dx:Ì}{fs:Á Ĝb}{f:È}{v:V}{A:û}{E:Value->Ï->Ç}
def cJ{b:Ð}{Q:Value->Ï->Ç}(I:zE X z6 σ H s)(e:H a=À Åb)(c:ud X.K C)(n:Zk X.K C f)(l:ϐb f=À v)(h:∀u s',zE X z6 σ H s'->zw v u->Q u s'):Û ÿ A (Ći ŝ f b) Q E s:=by let{g,O,r,_,_,_}:=Ob đ e;let{u,i,d}:=ţd (v:=v) (o:=g f) (by rw[<-l];show r f);show z1h ŗ O (c.get f) c.hd n i (z3g d) (h u _ ϳb d)
def cK{m:È}{g:Ì}{pl:Sem Ð}{Q:Value×Á Value->Ï->Ç}(I:zE X z6 σ H s)(e:H a=À Åb)(c:ud X.K C)(k:IM X.K C m g)(l:ϐb m=Ä)(h:Q (.ref g,Òa) s):Û ÿ A (ŧn ŝ m pl) Q E s:=by let{d,O,r,_,_,_}:=Ob đ e;have b:d m=Ä:=án (by rw[<-l];show r m);show z1i ŗ O (c.get m) k.at_ k.fn b h
def ig{y:V}{u:Value}{Q:þa->Ï->Ç}(I:zE X z6 σ H s)(e:H a=À Åb)(c:ud X.K C)(n:Zk X.K C f)(G:Ġa<1000)(v:zw y u)(h:∀s',zE X z6 σ (zT H a ϯj) s'->Q () s'):Û ÿ A (setAttr ŝ f u) Q E s:=by
 let{k,O,r,i,_,j}:=Ob đ e;let p:(Įc (·.1)).length<=â:=by rw[ì,ŧ];omega
 show y7z ŗ O c.sa c.po n.nu c.hd i p λF d m=>h _ ?_
 let l:∃o,F.get? dx=À o:=let ⟨o,_,_,e',_⟩:=d.ns;{o,e'};refine ϱd (x:=a) (e:=dx) İg (.inr j) (λb q t z=>(m.2 b t).trans z) l ?_;refine{by rw[zy O.ne];show j,?_,O.ne,d.obj,_,d.ns,λg=>?_,λg B=>?_};let:=dH f y fs;omega;exact uA ((èb f y fs).lookup g) Ÿj;rw[dL];by_cases q:g=f;rw[Ò q,Ò q];show v;rw[Ó q,Ó q];show r g;by_cases q:g=f;rw[q];show Ón.1;show Ón.2 g (i g λz=>B ?_);exact Ÿj=Ä;rw[Ó q];show z
def zE.made(I:zE X z6 σ H s):zE X z6 σ (zT (zT H Ý (.own ãa)) ãa (.ins C Ý [])) { s with é:=(żc).push ϲe }:=by
 let e1:(żc).get? Ý=À Ēh:=Ř ß rfl
 let e2:((żc).push ϲe).get? (Ý+1)=À ϲe:=by
  let:=Ř żc (o:=Ōe C Ý) rfl
  rwa [āb]at this
 let g:(żc).Ns Ý Ţa:={Ēh,#[],_,e1,rfl,(λe f=>Þ f ï),λ_=>rfl};let d:=īa (a:=Ý) (o:=.own ãa) (h':=Þa Ēh) (t':=Ć) ϙk ċ {_,e1};show Śi (a:=Ý+1) (o:=.ins C Ý []) (t':=Ć) ϙk (ŀb (āb _ _)) ?_;let c:Ý≠Ý+1:=ϓ Ϻd;refine{by rw[zy c,yS],Ĉa _,c,e2,λ_=>Ä,(Heap.Ns1.of_empty g).at λo q=>ĝ _ q,λ_=>ľa,λy h=>Þ rfl h}
def oY{Ē:ë}{w:å}{env:Env}{e:Õ}{f:È}{pos:Pos}{s:Ï}{Q:Value->Ï->Ç}(a:Ëa e f env ϧm=ý e env)(h:Û è A ϧm (λo s₁=>Û è A (Ći o f Æ) Q E s₁) E s):Û è A (ý Ĺe env) Q E s:=
 Attribute_any_ h (by rw[arm_eval_Attribute,a])
#print a
nonrec def y9h(K:Ñ)(c:TE)(f:È):TE:=λσ H Q=>c σ H λx b=>∃a C dx fs v,x=.ref a/\b a=À Åb/\ud K C/\Zk K C f/\ϐb f=À v/\Q v b
def y5z(K:Ñ)(d c:TE)(f:È):TS:=λD σ H=>c σ H λy e=>d σ e λx b=>∃a C dx fs,x=.ref a/\b a=À Åb/\ud K C/\Zk K C f/\Ġa<1000/\
 œa σ (zT b a ϯj)
def Aw(X:Cx)(b:Ïd)(a:V->V->Hp->VK->Ç):Ç:=
 ∀(z6:Á ð) (s:Ï) (σ:St) (H:Hp) (x y:V) (u v:Value) (Q:VK),zE X z6 σ H s->zw x u->zw y v->a x y H Q->Û ÿ X.A (Ŵh b u v) Ăb ġ s
def y60(K:Ñ)(e d:TE)(g:V->V->Hp->VK->Ç)(f:È):TS:=λD σ H=>e σ H λx c=>∃a C dx fs v,x=.ref a/\c a=À Åb/\ud K C/\Zk K C f/\ϐb f=À v/\
 d σ c λy h=>g v y h λz b=>∃dx' fs',b a=À (.ins C dx' fs')/\fs'.length<1000/\œa σ (zT b a (.ins C dx' (èb f z fs')))
section
variable{X:Cx}{o e ϳa:Õ}{f:È}{pos èa tpos:Pos}{ta tv:TE}
def eK(g:PE X e ta)(k:Ëa e f Ö Ϟc=ý e Ö):PE X Ĺe (y9h X.K ta f):=by intro r s σ H Q I h;show oY k (zi (g r s σ H _ I h) λu z b=>?_);let{x,p,d,i,a,C,w,B,v,o,t,c,n,l,q}:=b;subst o;obtain rfl:u=Ĉ a:=i;show cJ d t c n l λA y j m=>{v,p,j,m,q}
def y46(z:PE X o ta)(hv:PE X ϳa tv)(i:ϊb ϳa (À ňk) ϻc Ö=pure Â):PS X (.Assign Įk ϳa pos) (y5z X.K ta tv f):=by
 intro e s σ H D I h;show plainObj_wpAny_Assign_Attribute (zi (hv e s σ H _ I h) λu v d=>?_) i;let{y,m,p,t,q}:=d;show zi (z e v σ m _ p q) λA G b=>?_
 let{x,L,g,r,a,C,E,J,k,B,c,n,l,w}:=b;subst k;obtain rfl:A=Ĉ a:=r;show ig g B c n l t λF j=>{σ,_,j,w}
def y47{j:Ïd}{k:V->V->Hp->VK->Ç}(T:PE X o ta)(hv:PE X ϳa tv)(i:Aw X j k):PS X (.AugAssign ğk j ϳa pos) (y60 X.K ta tv k f):=by
 intro d s σ H D I h;show wpAny_AugAssign_AttributeAny (zi (T d s σ H _ I h) λU s1 b=>?_);let{x,E,N,O,a,C,dx,fs,v,B,Y,c,n,l,q}:=b;subst B;obtain rfl:U=Ĉ a:=O;show cJ N Y c n l λu Q p t=>zi (hv d Q σ E _ p q) λG J b=>?_
 let{y,Z,w,R,A}:=b;show zi (i d J σ Z v y u G _ w t R A) λw4 s4 g=>?_
 let{z,H3,P,r,S,fs',e,F,L}:=g;show ig P e c n F r λs5 m=>{σ,_,m,L}
def y4z:V->V->Hp->VK->Ç:=λx y H Q=>∃i j,x=.int i/\y=.int j/\Q Řd H
def z3s:Aw X .Add y4z:=by rintro d s σ H x y u v Q I b c ⟨i,j,rfl,rfl,q⟩;let{t,rfl}:=(show ∃t,u=Ēc i t from b);let{a,rfl}:=(show ∃a,v=Ēc j a from c);show PyProof.Rows.iadd_int {.int (i+j),H,Ų _,{_,rfl},q}
#print a
section
variable{X:Cx}{z6:Á ð}{σ:St}{H:Hp}{s:Ï}{A:û}{E:Value->Ï->Ç}{Q:Value->Ï->Ç}{c:Value}{b:Ð}
inductive pZ(K:íh)(H:Hp):V->Value->Ç where
 |zG:pZ K H .zG Ŷc
 |bl (x:Ð):pZ K H (.bl x) śa
 |int (i:Å):pZ K H Ϡ Ĝa
 |str (x:È):pZ K H œb ěa
 |Yh (x:UInt64):pZ K H (.Yh x) (.type "float")
 |lst {a:Ì} {xs:Á V} (e:H a=À Ċa):pZ K H ŝ ña
 |yH {a:Ì} {o:Obj} {xs:Á V} (e:H a=À Ön):pZ K H ŝ ña
 |tup {a:Ì} {xs:Á V} (e:H a=À Ħa):pZ K H ŝ ła
 |dK {a:Ì} {kvs:Á Ϗ} (e:H a=À ň):pZ K H ŝ ϖb
 |dT {a:Ì} {kvs:Á ďb} (e:H a=À Őb):pZ K H ŝ ϖb
 |ins {a C dx:Ì} {fs:Á Ĝb} (e:H a=À Åb) (cl:ud K C) (ha:PySem.W.findIn K Ō "__class__"=À (À Óg))
   (hn:PySem.W.specialIn K Óg "__get__"=À (À (.builtin "getset_descriptor.__get__"))) (htk:PySem.W.takesIn K Óg=À Æ)
   (hm:PySem.W.mroIn K C (.type "object")=À Æ):pZ K H ŝ Ō
def Od{x:V}{u t:Value}(I:zE X z6 σ H s)(d:zw x u)(m:pZ X.K H x t)(e:œ X.K t c=À b)(h:∀tk,Q ϯh { s with Ċ:=tk }) :Û ÿ A (źa Ϧg [u,c]) Q E s:=by
 cases m with
 |zG=>cases(show u=ϑc from d);show ţa W.kitx_none ŗ ľa e Ća h|bl y=>cases(show u=Æf y from d);show ţa W.kitx_bool ŗ ľa e Ća h|int i=>let{t,q}:=(show ∃t,u=Ēc i t from d);cases q;show ţa W.kitx_int ŗ ľa e Ća h
 |str y=>let{t,q}:=(show ∃t,u=ĥa y t from d);cases q;show ţa W.kitx_str ŗ ľa e Ća h
 |Yh y=>let{t,q}:=(show ∃t,u=ēh y t from d);cases q;show ţa W.kitx_float ŗ ľa e Ća h
 |@lst a g ea=>cases(show u=Ĉ a from d);let{_,_,n,_,f}:=(show yz ô X.w H ß a òi from đ a _ ea);show ţa đh ŗ {_,f,rfl} e Ća h
 |@yH a ob g ea=>cases(show u=Ĉ a from d);let{_,_,_,n,_,f}:=(show yz ô X.w H ß a (.yH ob òi)from đ a _ ea);show ţa đh ŗ {_,f,rfl} e Ća h
 |@tup a g ea=>cases(show u=Ĉ a from d);let{_,_,_,p}:=(show yz ô X.w H ß a (.tup g)from đ a _ ea);let{o,f,j,_}:=p;show ţa Ĥm ŗ {o,f,j} e Ća h
 |@dK a kvs ea=>cases(show u=Ĉ a from d);let{_,_,r,_,p}:=(show yz ô X.w H ß a ň from đ a _ ea);let{o,l,k,f,j,_}:=p;show ţa žm ŗ {o,f,j.1} e Ća h
 |@dT a kvs ea=>cases(show u=Ĉ a from d);let{_,_,g,_,o,l,k,f,j,_}:=(show yz ô X.w H ß a Őb from đ a _ ea);show ţa žm ŗ {o,f,j.1} e Ća h
 |@ins a C dx fs ea cl ha hn htk hm=>cases(show u=Ĉ a from d);let{B,O,_}:=Ob đ ea;let{v,J,_}:=O.look;show ţa (W.kitx_own (cl.get _) cl.hd ha hn htk hm) ŗ J e Ća h
#print a
structure yj(k:Ã)(A:û):Ç where
 hd:ēb=Ä
 dp:Łf+3*k+5<źl
 un:ďa+16*k+200<ų
 gd:A.guards=À []
theorem yj.mono{j k:Ã}{A:û}(r:yj k A)(h:j<=k):yj j A:={r.hd,by let:=r.dp;omega,by let:=r.un;omega,r.gd}
theorem yj.deeper{k:Ã}{A:û}(r:yj Ĝ A)(env:Env):yj k (Ëb env):=
 {r.hd,by let:=r.dp;exact Łf+1+3*k+5<_;omega,by let:=r.un;exact ďa+3+16*k+200<_;omega,by first|show r.gd|simp[Ŋd,Ϛm,än,r.gd]}
def z5l{A:û}{C:Ì}{us:Á Value}{a:Á ćb}:(Ϥf).depth=Łf+1:=by first|rfl|simp[Ŋd,Code.weight,Code.isCreation,Code.isGuard,Code.isCaller,ϛm,òh,guardIds]
theorem z5n{A:û}{C:Ì}{us:Á Value}{a:Á ćb}:(Ϥf).units=ďa+1:=by first|rfl|simp[Ŋd,Code.cUnits,ϛm,òh]
theorem yj.make{k:Ã}{A:û}(r:yj Ĝ A)(C:Ì)(us:Á Value)(a:Á ćb):yj k Ϥf:=
 {r.hd,by let:=r.dp;rw[z5l];omega,by let:=r.un;rw[z5n];omega,by first|show r.gd|simp[Ŋd,Ϛm,än,r.gd]}
theorem yj.depth{k:Ã}{A:û}(r:yj k A):Łf<źl:=by let:=r.dp;omega
theorem yj.units{k:Ã}{A:û}(r:yj k A):ďa+64<ų:=by let:=r.un;omega
nonrec def Z5:TA:=λ_ H Q=>Q [] H
nonrec def Vv(e:TE)(b:TA):TA:=λσ H Q=>e σ H λx c=>b σ c λa d=>Q (x::a) d
section
variable{X:Cx}{e:Õ}{es:Á Õ}{te:TE}{t:TA}{pos:Pos}
def Xb:PA X [] Z5:=λ_ _ _ _ H Q I h=>óg {[],H,I,.nil,h}
def eE(o:PE X e te)(d:PA X es t)(g:Î Òc q11):PA X ē Ϭh:=by
 intro pos b s σ H Q I h;rw[g];exact Û _ _ (spliced ((Â,ý e Ö)::ϻb pos óh)) _ _ s;show ċd (zi (o b s σ H _ I h) λu l a=>?_);let{x,p,c,i,m}:=a;show zi (d pos b l σ p _ c m) λv r a=>?_
 let{k,q,f,j,n}:=a;show⟨x::k,q,f,.cons i j,n⟩
def x04(t:TA):TE:=λσ H Q=>t σ H λb a=>ϣ<=â/\∀p,a p=Ä->Q Ů (zT a p (.tup b))
def y9m(t:TA):TE:=λσ H Q=>t σ H λb a=>ϣ<=â/\∀p,a p=Ä->Q Ů (zT a p (.lst b))
def eP{x1}(h:PA X es t):PE X Ál (x04 t):=by intro j s σ H Q I k;show wpAny_Tuple_spliced ĉj;rw[ģo];show{.ref Ąa,zT f Ąa (.tup g),Śi (t':=îd) ņe ċ ?_,rfl,q _ l};show{z,i,r,{_,Ř _ rfl,rfl,_,rfl}}
def y30(h:PA X es t):PE X Ém (y9m t):=by intro j s σ H Q I k;show wpAny_List_spliced ĉj;rw[ģo];show{.ref Ąa,zT f Ąa òi,Śi (t':=îd) ņe ċ ?_,rfl,q _ l};show{z,i,0,r,Ř _ rfl}
#print a
abbrev Sp:=Á V->Hp->VK->XK->Ç
abbrev jc:=Á Env->Hp->Ï->XK->Value->Ï->Ç
structure Yn(P:ë)(w:å)(K:Ñ)(mg:È->É Value)(Ë:Heap)(A:û)(Ā:Á Env)(s:Ï)(H:Hp):Ç where
 Ři:A.frames=À Ā
 mod:Mod K mg Ë
 bs:∀b o,base.get? b=À o->Ă b=À o/\H b=Ä
 gB:base.objs.size<=Ý
 qm:ŗe Ë Ā
 ZL:∀b∈p7 Ā,H b=Ä
 zb:xg P w H ß
 bare:åd Şf
def CE(Ā:Á Env)(P:ë)(w:å)(H:Hp)(s:Ï)(Q:VK)(u:Value)(s':Ï):Ç:=
 ∃v H',s'.os=s.os/\åd s'.gens/\Un (p7 Ā) [] H H' ß ıc/\xg P w H' ıc/\zw v u/\Q v H'
def CR(a:jc)(Ā:Á Env)(P:ë)(w:å)(H:Hp)(s:Ï)(Q:VK)(E:XK)(r:ľc)(s':Ï):Ç:=
 match r with
 |.ok (.ret u)=>CE Ā P w H s Q u s'|.ok _=>õ|.error e=>a Ā H s E e s'
structure y_(P:ë)(w:å)(K:Ñ)(mg:È->É Value)(Ë:Heap)(CX:jc)(k:Ã)(f:Ì)(fd:Ļ)(ps:Á È)(sp:Sp):Ç where
 len:∀vs H Q E,sp vs H Q E->ü=ĥ
 run:∀(A:û)(Ā:Á Env)(s:Ï)(H:Hp)(ϛ:Args)(us:Á Value)(vs:Á V)(Q:VK)(E:XK),yj k A->Yn P w K mg Ë A Ā s H->Ýb s fd ϛ ϔb->zm vs us->sp vs H Q E->
  ϫa Đb A (.call İ ϛ) (CR CX Ā P w H s Q E) s
def y_.imp{P:ë}{w:å}{K:Ñ}{i:È->É Value}{a:Heap}{g:jc}{k:Ã}{f:Ì}{e:Ļ}{ps:Á È}{sp c:Sp}(F:y_ P w K i a g k f e ps sp)(h:∀vs H Q E,c vs H Q E->sp vs H Q E):y_ P w K i a g k f e ps c:=
 {λvs H Q E q=>F.len vs H Q E (h _ _ _ _ q),λA b s H d p vs Q E l j n o m=>F.run A b s H d p vs Q E l j n o (h _ _ _ _ m)}
def Yn.make{P:ë}{w:å}{K:Ñ}{b:È->É Value}{a:Heap}{A:û}{Ā:Á Env}{s:Ï}{H:Hp}(e:Yn P w K b a A Ā s H)(C:Ì)(us:Á Value)(c:Á ćb) :Yn P w K b a (A.under (.builtin Įl {.ref C::us,c})) Ā s H:={by first|show e.frames|(simpa [Ŋd,Code.envs,òh,pushEnvs]using e.frames),e.mod,e.bs,e.gB,e.qm,e.ZL,e.zb,e.bare}
section
variable{X:Cx}{z6:Á ð}{σ:St}{H:Hp}{s s':Ï}
def zE.Rv(I:zE X z6 σ H s):Yn ô X.w X.K ñ ŏ X.A Ĩa s H:=
 {ϖm,Ìi,I.bs,ģ Ŀf I.sz,I.stack,I.SH,đ,ůa}
def zE.after{Q:VK}{u:Value}(I:zE X z6 σ H s)(h:CE Ĩa ô X.w H s Q u s'):EP X z6 σ Q u s':=by let{v,i,e,a,j,k,r,q}:=h;let{f,g,d,t,c}:=s';obtain rfl:c=s.os:=e;show{v,i,I.call (h':=f) (g':=g) (d':=d) (t':=t) (ch:=[]) j k a (λb z=>Þ z ï),r,q}
#print a
nonrec def Nt(sp:Sp)(a:Á V)(E:XK)(t:TA):TE:=λσ H Q=>t σ H λc b=>sp (c++a) b Q E
nonrec def M5(C:Ì)(m:È)(sp:Sp)(b:Á V)(E:XK)(d:TE)(t:TA):TE:=λσ H Q=>d σ H λx c=>∃a dx fs,x=.ref a/\c a=À Åb/\ϐb m=Ä/\
 t σ c λf e=>sp (x::(f++b)) e Q E
def y9n(C:Ì)(sp:Sp)(a:Á V)(E:XK)(t:TA):TE:=λσ H Q=>t σ H λd b=>∀x dx,b x=Ä->b dx=Ä->dx≠x->
 sp (.ref x::(d++a)) (zT (zT b dx Üd) x Æm) (λv c=>v=.zG/\Q Ûd c) E
def vq(K:Ñ)(a:Ļ)(ps:Á È)(ds:Á Value):Ç:=
 ∀(s:Ï)(us:Á Value),Ő ß->(Çd).length=ĥ->Ýb s a {us,[]} (ps.zip Çd)
def vq.all{K:Ñ}{b:Ļ}{ps:Á È}(h:∀us:Á Value,Ũ=ĥ->Ĕf b {us,[]}=pure ϔb):vq K b ps []:=λs us _ a=>by rw[ŷ]at a ⊢;show .of_eq (h us a)
def Yz(a:jc)(X:Cx)(E:XK):Ç:=∀(z6:Á ð) (σ:St) (H:Hp) (s:Ï) (e:Value) (s':Ï),zE X z6 σ H s->a Ĩa H s E e s'->ġ e s'
section
variable{X:Cx}{CX:jc}{k:Ã}{f C:Ì}{fd:Ļ}{ps:Á È}{sp:Sp}{dvs:Á V}{ds:Á Value}{E:XK}{x m:È}{p pos š:Pos}{e o:Õ}{es:Á Õ}{ta:TE}{t:TA}
def Qw{b:Á ð}{σ:St}{H:Hp}{s:Ï}{Q:VK}{us:Á Value}{vs:Á V}(F:y_ ô X.w X.K ñ ŏ CX k f fd ps sp)(d:yj k X.A)(m:vq X.K fd ps ds)(i:zm dvs ds)(j:Yz CX X E)(I:zE X b σ H s)(r:zm vs us)(h:sp Żd H Q E):Û ÿ X.A (źa İ us) (EP X b σ Q) ġ s:=by
 let c:zm Żd Çd:=Êd i;have l:(Çd).length=ĥ:=by rw[<-ŉa];show F.len _ _ _ _ h
 show Ře (Ńe (F.run X.A Ĩa s H {us,[]} Çd Żd Q E d I.Rv (m s us ŗ l) c h) λr g a=>?_);cases r with
 |error e=>show j b σ H s e g I a|ok fl=>
  cases fl with
  |ret u=>show I.after a|next=>show óa a|brk=>show óa a|Ĭb=>show óa a
def y2o(F:y_ ô X.w X.K ñ ŏ CX k f fd ps sp)(i:yj k X.A)(v:Gl X x)(n:ñ x=À İ)(hk:âa X.K İ=Æ)(l:vq X.K fd ps ds)(j:zm dvs ds)(u:Yz CX X E)(m:PA X ē t)(c:Î Ĭ q7)(g:Î Òc q11)(b:Î ((ŵc).any (·.1)=Â) q11) :PE X ŕa (Nt sp dvs E t):=by rw[ϰo];show ňd (h₀:=ŏ) Ŗd hk ćj g b;let{z,C,d,r,q}:=a;show{d.xD,?_};show Qw F i l j u d r q
def y33{pl:Sem Ð}(J:PE X o ta)(c:ud X.K C)(j:IM X.K C m f)(F:y_ ô X.w X.K ñ ŏ CX k f fd ps sp)(v:yj k X.A)(O:vq X.K fd ps ds)(N:zm dvs ds)(G:Yz CX X E)(S:PA X ē t)(g:Î Òc q11)(d:Î ((ŵc).any (·.1)=Â) q11)(y:ý õe Ö=(do
   let ov <-ý o Ö
   standAt ώb
   let (f,first) <-holding [ov] ŵb
   ęb pos f first Űc ëb):=by rfl) :
  PE X õe (M5 C m sp dvs E ta t):=by
 intro n s σ H Q I h;show ŭg (pl:=pl) (zi (J n s σ H _ I h) λu P b=>?_) y;let{x,B,p,L,a,U,Z,z,T,l,q}:=b;subst z;obtain rfl:u=Ĉ a:=L;show cK p T c j l ?_;show ňd (first:=Òa) (h₀:=ŏ) Ŗd j.kp (zi (S pos n P σ B _ p q) λus Y b=>?_) g d;let{vs,H2,i,r,R}:=b;show{i.xD,?_};show Qw (us:=.ref a::us) (vs:=.ref a::vs) F v O N G i (.cons rfl r) R
def GY{pl:Sem Ð}(g:PE X o ta)(c:ud X.K C)(e:IM X.K C m f)(F:y_ ô X.w X.K ñ ŏ CX k f fd ps sp)(j:yj k X.A)(r:vq X.K fd ps ds)(p:zm dvs ds)(y:Yz CX X E)(n:ý ūb Ö=(do
   let ov <-ý o Ö
   standAt ώb
   let (f,first) <-holding [ov] ŵb
   ęb pos f first Ņe ëb):=by rfl) :
  PE X ūb (M5 C m sp dvs E ta Z5):=by
 intro v s σ H Q I h;show ŭg (pl:=pl) (zi (g v s σ H _ I h) λu G d=>?_) n;let{x,L,b,i,a,B,J,t,z,l,q}:=d;subst t;obtain rfl:u=Ĉ a:=i;show cK b z c e l ?_;show W.callWith_K0 (first:=Òa) b.xD e.kp (Qw (us:=Òa) (vs:=Òa) F j r p y b ĩl q)
structure Mk(K:Ñ)(C f:Ì):Ç where
 makes:ìf K C=Æ
 init:ħa K Ō Ϡa=À Ņa
 fn:Ðe K İ=Æ
 kp:âa K Ō=Æ
def y5v{c:Á ð}{σ:St}{H:Hp}{s:Ï}{Q:VK}{us:Á Value}{vs:Á V}(M:Mk X.K C f)(F:y_ ô X.w X.K ñ ŏ CX k f fd ps sp)(l:yj Ĝ X.A)(n:vq X.K fd ps ds)(m:zm dvs ds)(t:Yz CX X E)(I:zE X c σ H s)(r:zm vs us)(h:∀x dx,H x=Ä->H dx=Ä->dx≠x->sp (.ref x::Żd) (zT (zT H dx Üd) x Æm) (λv H2=>v=.zG/\Q Ûd H2) E) :Û ÿ X.A (źa Ō us) đm ġ s:=by
 let g:=h ãa Ý Èh Ád (ϓ Ϻd);let b:=zE.made (C:=C) I;let d:zm (Ţb ãa::Żd) ϙl:=.cons rfl (Êd m)
 let y:(Ĉ ãa::us++ds).length=ĥ:=by let e:=Óa;rw[F.len _ _ _ _ g]at e;show Ťf
 refine Ře (z5m (f:=f) ŗ M.makes M.init (że M.fn) (Ńe (F.run _ Ĩa _ _ {Ĉ ãa::us,[]} ϙl _ _ E (l.make C us [])
  (b.Rv.make C us []) (n _ (Ĉ ãa::us) b.xD y) d g) λr j a=>?_))
 cases r with
 |error e=>show t c σ _ _ e j b a|ok fl=>
  cases fl with
  |ret u=>let{v,o,p,i,z,q}:=b.after a;subst z;show{i,{Ţb ãa,o,p,rfl,q}}
  |next=>show óa a|brk=>show óa a|Ĭb=>show óa a
def y31(M:Mk X.K C f)(F:y_ ô X.w X.K ñ ŏ CX k f fd ps sp)(i:yj Ĝ X.A)(v:Gl X x)(n:ñ x=À Ō)(l:vq X.K fd ps ds)(j:zm dvs ds)(u:Yz CX X E)(m:PA X ē t)(c:Î Ĭ q7)(g:Î Òc q11)(b:Î ((ŵc).any (·.1)=Â) q11) :PE X ŕa (y9n C sp dvs E t):=by rw[ϰo];show ňd (h₀:=ŏ) Ŗd M.kp ćj g b;let{z,G,d,r,q}:=a;show{d.xD,?_};show y5v M F i l j u d r q
#print a
def PK(X:Cx)(a:Á ľf)(t:TA):Ç:=
 ∀(pos:Pos)(z6:Á ð) (s:Ï) (σ:St) (H:Hp) (Q:Á V->Hp->Ç),zE X z6 σ H s->t σ H Q->Û ÿ X.A (evalAll ((backToKw pos (Źm a Ö)).map (·.2))) ϸl ġ s
section
variable{X:Cx}{k:Ã}{f:Ì}{x m:È}{p pos kpos:Pos}{e o:Õ}{kws:Á ľf}{te:TE}{t:TA}{nm:É È}
def y3w:PK X [] Z5:=λ_ _ _ _ H Q I h=>wpAny_evalAll_nil {[],H,I,.nil,h}
def y3u(n:PE X e te)(d:PK X kws t):PK X ({nm,e,kpos}::kws) Ϭh:=by
 intro pos b s σ H Q I h;exact Û _ _ (evalAll ((do let v <-ý e Ö;standAt pos;pure v)::(backToKw pos (Źm kws Ö)).map (·.2))) _ _ s;show wpAny_evalAll_cons (Ô (zi (n b s σ H _ I h) λu k a=>?_));let{x,o,c,g,l}:=a;show Ô (Ļe Ģa);show zi (d pos b k σ o _ c l) λr q a=>?_
 let{j,p,f,i,m}:=a;show⟨x::j,p,f,.cons g i,m⟩
#print a
structure zc(N P:Á È)(sc:Ùa):Ç where
 kind:sc.kind=.function
 co:sc.isCoroutine=Â
 gen:sc.isGenerator=Â
 nd:N.Nodup
 pre:N.take Áa=P
 par:∀x∈P,ĵl x=À .local\/ĵl x=À .cell
 ni:∀y∈sc.names,y.2≠.free
theorem ac{a:È->É ϥb}{x:È}:∀{úd:Á ćb} {m:È->É Value},(∀v,(x,v) ∉ úd)->Çc a úd m x=m x
 | [],_,_=>rfl|(n,v)::r,m,h=>by
  unfold Çc;rw[ac λw b=>h w Źd]
  split;rw[Ϡo]
  simp[this];rfl
theorem aY{a:È->É ϥb}{x:È}:∀{úd:Á ćb} {m:È->É Value},(∀v,(x,v) ∉ úd)->Èc a úd m x=m x
 | [],_,_=>rfl|(n,v)::r,m,h=>by
  unfold Èc;rw[aY λw b=>h w Źd]
  split;rfl;rw[Ϡo]
  simp[this]
theorem aZ{a:È->É ϥb}{x:È}{v:Value}:∀{P:Á È}{vs:Á Value}{i:Ã}{m:È->É Value},P.Nodup->P[i]?=À x->vs[i]?=À v->a x=À .local->
  Çc a Ĩn m x=À v
 | [],_,_,_,_,h,_,_=>by simp at h|_::_,[],_,_,_,_,h,_=>by simp at h|p::P,w::vs,0,m,nd,h1,h2,hk=>by rw[Ϻo];exact Çc a Ŕe m p=_;unfold Çc;rw[ac λv b=>Ĝe.1 (Űg b).1,Ò hk];simp|p::P,w::vs,i+1,m,nd,h1,h2,hk=>by exact Çc a Ŕe m x=_;unfold Çc;show aZ (i:=i) Ĝe.2 ŀe Ũk hk
theorem aX{a:È->É ϥb}{x:È}{v:Value}:∀{P:Á È}{vs:Á Value}{i:Ã}{m:È->É Value},P.Nodup->P[i]?=À x->vs[i]?=À v->a x≠À .local->
  Èc a Ĩn m x=À v
 | [],_,_,_,_,h,_,_=>by simp at h|_::_,[],_,_,_,_,h,_=>by simp at h|p::P,w::vs,0,m,nd,h1,h2,hk=>by rw[Ϻo];exact Èc a Ŕe m p=_;unfold Èc;rw[aY λv b=>Ĝe.1 (Űg b).1,Ó hk];simp|p::P,w::vs,i+1,m,nd,h1,h2,hk=>by exact Èc a Ŕe m x=_;unfold Èc;show aX (i:=i) Ĝe.2 ŀe Ũk hk
nonrec def Źf(N:Á È)(vs:Á V):St:=śf À++Ŷ (ϗ-ü) Ä
nonrec def ui(g:jc)(P:ë)(w:å)(K:Ñ)(mg:È->É Value)(Ë:Heap)(N:Á È)(b:È)(a:Ùa)(f:Ì)(d:Value)(A:û)(Ā:Á Env)(s:Ï)(H:Hp)(E:XK):Cx where
 Ē:=P
 w:=w
 K:=K
 mg:=mg
 Ë:=Ë
 A:=Ëb Ōg
 N:=N
 s₀:=s
 H₀:=H
 env:=ϥa b a Ý f d
 Ā:=Ā
 stack:=ϥa b a Ý f d::Ā
 ex:=[]
 calm:=Æ
 fn:=λ_=>Æ
 pn:=[]
 xe:=λe h=>Û Đb (Ëb Ōg) (leaving Ōg e) (λ_ c=>g Ā H s E e c) (λi c=>g Ā H s E i c) h
def b9{a:Ùa}{n:Ã}{x:È}(h:Ŀb x=À .cell):∃c,(Ÿh n ĉi []).lookup x=À c:=by let q:=ąl ĉi n [] öi;show źj q
def z3z{L:jc}{P:ë}{w:å}{K:Ñ}{J:È->É Value}{l:Heap}{N ps:Á È}{g:È}{d:Ùa}{f:Ì}{F:Value}{A:û}{Ā:Á Env}{s R:Ï}{H:Hp}{E:XK}{us:Á Value}{vs:Á V}(S:zc N ps d)(U:ēb=Ä)(m:Yn P w K J l A Ā s H)(Z:ü=ĥ)(r:zm vs us)(x:InCallC s Ý (Çc (Þl).kindOf ϔb λ_=>Ä) (Ÿh ãa d.names []) (Èc (Þl).kindOf ϔb λ_=>Ä) R) :zE ėj [] Ĉc H R:=by
 let Y:ĥ<=ϗ:=by let:=ŕ Ϗb S.pre;rw[ąa]at this;omega
 let{I,tk,rfl,Q}:=x.done;let o:∀b:Ì,b ∉ (ėj).ex:=λb z=>Þ (show b∈([]:Á Ì)from z) ï
 show⟨{m.mod,S.kind,rfl,rfl,ïa _,λy z c I j=>?_,λy t=>?_,λy c _ h=>?_,λ_=>U,Around.frames_deeper m.frames,.inr {rfl,rfl},λb z=>Þ z (o b),m.bs,m.gB,λb _ _=>o b,λb z=>Þ z (o b),m.qm,m.ZL},
  rfl,m.bare,ϰd Q,{_,x.toInCall.ns,λi y v I j h3=>?_},λy c h=>{_,x.cell y c h},æn ċ,λy c h=>?_,λp B=>Þ (show p∈([]:Á ð)from B) ï,m.zb.kept Q,?_⟩
 show name_of_addr x.apart (Ĕe I) (Ĕe j);let t:ϕg y=À .cell\/ϕg y=À .free:=t;rcases t with t|t;show b9 t;show Þ rfl (S.ni _ (Ĕe t));show ϯ đk;let G:i<ü:=by
  unfold Źf at j;by_cases G:i<ü;show G;rw[Ķb ļg]at j;rw[ög]at j
  split at j<;>cases j
 let X:vs[i]?=À v:=by
  unfold Źf at j;rw[ϊa ļg,ſ]at j;cases e:vs[i]? with
  |Ä=>rw[e]at j;cases j|À a=>rw[e]at j;cases j<;>rfl
 let{u,O,T}:=ŵa X
 have B:ps[i]?=À y:=by rw[<-S.pre,List.getElem?_take_of_lt Ê];show I
 have C:ps.Nodup:=by rw[<-S.pre];show S.nd.sublist ßk
 show{u,T,?_};rcases S.par y (Ϗa B)with k|k;show .inl {k,aZ C B O k};let{c,e}:=b9 (n:=Ý+1) k;show .inr {.inl k,c,e,?_};let q:=x.cell y c e;rw[aX C B O (by exact ϕg y≠_;rw[k];decide)]at q;show q;show æn (ϯ đk);unfold Źf;exact _=ϗ;rw[ńo]
def bw{G:jc}{P:ë}{w:å}{K:Ñ}{L:È->É Value}{h:Heap}{k:Ã}{f:Ì}{ĵ c:È}{g:űn}{i:Á Ø}{a:Ùa}{dV kV F pm d ct oc:Value}{Z od:É Ì}{Y:Ú ϟa}{N ps:Á È}{sp:Sp}(lk:ϋ f=À {oc,od,.func ěj,Y})(X:Ěb K d c=Æ)(S:zc N ps a)(C:∀vs H Q E,sp vs H Q E->ü=ĥ)(j:∀(A:û)(Ā:Á Env)(s:Ï)(H:Hp)(vs:Á V)(Q:VK)(E:XK),yj k (Ëb (ϥa c a Ý f d))->sp vs H Q E->
   ∃t,uR ϲf i t/\t { nx:=λ_ H'=>Q .zG H',rt:=Q } Ĉc H) :
  y_ P w K L h G Ĝ f ěj ps sp:=by
 show{C,λA Ā s H ϛ us vs Q E O z hb r p=>?_};let hl:=C _ _ _ _ p;let KX:Ő ß:=z.mod.Yj.keeps λb o e=>ńm.1
 let T:s.heap.NoLimit:=z.mod.nolimit.keeps λb o e=>ńm.1
 let l:∀y∈ps.zip us,Ŀb y.1=À .local\/(Ŀb y.1=À .cell/\((Ÿh ãa ĉi []).lookup y.1).isSome=Æ):=λ⟨n,v⟩ hy=>by rcases S.par n (Űg hy).1 with q|q;show .inl q;show .inr {q,ąl _ _ _ (.inl q)}
 show codeAny_call_function O.depth (KX _ _ lk) rfl S.co S.gen rfl (W.codeRec_of KX X) (hb _ _ _ _ ?_);show wpAny_newFunctionEnv_cells S.kind l λenv he s1 x=>?_
 subst he;show{T.keeps x.toInCall.keep,codeAny_func ?_};let{t,ht,hq}:=j A Ā s H vs Q E (O.deeper _) p;let I:zE ϲf [] Ĉc H s1:=z3z S O.hd z hl r x;show êa (ht [] s1 Ĉc H _ I hq) (λfl U m=>?_) λe U m=>m
 let B:∀{σ':St}{H':Hp}{v:V}{u:Value},zE ϲf [] σ' H' U->zw v u->Q v H'->CE Ā P w H s Q u U:=
  λ{σ' H' v u} J R q=>{v,H',J.os,J.bare,J.base,J.zb,R,q}
 cases fl with
 |ret u=>
  let{v,σ',H',J,R,q}:=m;show B J R q
 |next=>
  let{σ',H',J,q}:=m;show B (v:=V.zG) (u:=ϑc) J rfl q
 |brk=>
  let{_,_,_,q}:=m;show óa q
 |Ĭb=>
  let{_,_,_,q}:=m;show óa q
section
variable{X:Cx}{x:È}{p pos:Pos}{e:Õ}{es:Á Õ}{t:TA}{id T:Åa}{r:Á V->Hp->VK->Ç}
nonrec def M4(r:Á V->Hp->VK->Ç)(t:TA):TE:=λσ H Q=>t σ H λb a=>r b a Q
def y2p(v:wM X Ćb r)(w:Gl X x)(o:ñ x=Ä)(hv:Ţ x=À Ćb)(m:PA X ē t)(q:Î ϑa q7)(c:Î Ĭ q7)(g:Î Òc q11)(b:Î ((ŵc).any (·.1)=Â) q11):PE X ŕa Ĥf:=by rw[Ūo];show Ċd ŀk;show PyProof.Rows.callWith_builtin1 Ĉj g b;rw[Ůo]
def y2r(v:wM X Ób r)(w:Gl X x)(o:ñ x=Ä)(hv:Ţ x=À Ób)(m:PA X ē t)(q:Î ϑa q7)(c:Î Ĭ q7)(g:Î Òc q11)(b:Î ((ŵc).any (·.1)=Â) q11):PE X ŕa Ĥf:=by rw[Ūo];show Ċd ŀk;show ċe Ĉj g b;rw[Ůo]
#print a
#print L2
namespace HT
open ě Ģ
section
variable{Ē:ë}{w:å}{A:û}{E:Value->Ï->Ç}{s:Ï}
def cat_tup{t b:Ì}{vs ws:Á Value}{Q:Value->Ï->Ç}(q:ϵa ß t ϝ)(r:ϵa ß b Äf)(hv:vs≠[])(u:ws=[]->Q īc s)(v:ws≠[]->Q Ðb { s with é:=Þa { cls:=.type ō,ă:=.seq (vs++ws).toArray } })(hsz:ü+Ñb<=â):Û è A (ŀa .Add īc (.ref b)) Q E s:=by
 obtain⟨⟨cls,l,ă,p⟩,h,m,n,k⟩:=id q;obtain⟨⟨o,f,i,g⟩,a,c,j,d⟩:=id r;simp only at m k c d;subst m k c d;let e:ϝ++Äf=(vs++ws).toArray:=by simp
 by_cases hw:ws=[];show éh {_,h,rfl} {_,a,rfl} ăl Ñm çk Ïk ţj
  (tuple_addW1 t b ϝ Äf n j l f p g įg (by simp[hw])) {h,a,u hw}
 refine éh {_,h,rfl} {_,a,rfl} ăl Ñm çk Ïk ţj
  (tuple_addW2 t b ϝ Äf n j l f p g įg (by simpa using hw) (by rw[ė,ė];show hsz)) {h,a,?_}
 rw[e];show v hw
nonrec def sIx(n d:Ã):É Å->Ã
 |Ä=>d|À v=>if v<0 then(v+(n:Å)).toNat else min v.toNat n
def sIx_nat(n d k:Ã):sIx n d (À (k:Å))=min k n:=by exact(if(k:Å)<0 then((k:Å)+(n:Å)).toNat else min (k:Å).toNat n)=min k n;rw[Ó Ê,ϧ]
theorem Èe(n d:Ã)(a:d<=n)(o:É Å):sIx n d o<=n:=by
 cases o with
 |Ä=>show a|À v=>exact Øj<=n;by_cases hv:v<0;rw[Ò hv];omega;rw[Ó hv];show ϭf _ _
def bA(v:Å)(n d:Ã):Ój=((sIx n d Ϥ:Ã):Å):=by exact Ój=((Øj:Ã):Å);by_cases hv:v<0;simp only[Ò hv];show(şg _).symm;simp only[Ó hv];let{k,rfl}:=Šc (íc hv);rcases Ϛe k n with h|h;rw[ϧ,řa h,Ĳd (Ϸf h)];rw[ϧ,ře h,Šg (Ϸf h)]
theorem oH(lo hi:É Å)(n:Ã):åg lo hi 1 (n:Å)=(((sIx n 0 lo:Ã):Å),((sIx n n hi:Ã):Å)):=by
 let a:¬ ((1:Å)<0):=by omega
 unfold åg;simp only[a,Ÿ];show Prod.ext ?_ ?_;cases lo with
 |Ä=>rfl|À v=>show bA v n 0
 cases hi with
 |Ä=>rfl|À v=>show bA v n n
def y3z(i j:Ã):đe (i:Å) (j:Å) 1=j-i:=by
 unfold đe;let a:(1:Å)>0:=by omega
 simp only[a,Ŗ,Ϣc]
 rw[ϐo]
def iq{v:Value}{o:É Å}{Q:É Å->Ï->Ç}(p:ßb v o)(h:Q o s):Û è A (Builtin.Slice.slicePartIndex v) Q E s:=by
 cases p with
 |Ä=>show Źl h|int i t=>show slicePart_int h
def ip{e:Ì}{d c:Value}{lo hi:É Å}{n:Ã}{Q:Å×Å×Ã->Ï->Ç}(g:Ŗe e d c .none)(pl:ßb d lo)(i:ßb c hi)(h:Q (((sIx n 0 lo:Ã):Å),1,sIx n n hi-sIx n 0 lo) s):Û è A (ϖj Ħf (pure (n:Å))) Q E s:=by let{j,b,f,a}:=id g;unfold ϖj Builtin.Slice.sliceFields;show Ô (Ô (ĕa b a (x:=d) rfl (Ô (ĕa b a (x:=c) rfl (Ô (ĕa b a (x:=.none) rfl Ģa))))));show Ô (Źl ?_);exact Û _ _ (Τb ((1:Å)==0)) _ _ s;rw[Ó Í];show Ô (iq pl (Ô (iq i (Ô Ģa))));exact Û _ _ (match åg lo hi 1 (n:Å)with|(lo,hi)=>pure (lo,(1:Å),đe lo hi 1)) _ _ s;rw[oH lo hi n];exact Û _ _ (pure (((sIx n 0 lo:Ã):Å),(1:Å),đe ((sIx n 0 lo:Ã):Å) ((sIx n n hi:Ã):Å) 1)) _ _ s;rw[y3z];show č h
def y3s(xs:Ú Value)(i k:Ã):((Āa k).filterMap λ(m:Ã)=>xs[(ĳg).toNat]?).toArray=((xs.toList.drop i).take k).toArray:=by
 let e:(λ(m:Ã)=>xs[(ĳg).toNat]?)=λm=>xs[i+m]?:=by
  funext m
  let:(ĳg).toNat=i+m:=by omega
  rw[this]
 rw[e];let:=Ϲh xs i k;rw[List.filterMap_map]at this;let e2:((λx=>xs[x]?)∘λx=>i+x)=λm=>xs[i+m]?:=rfl
 rw[e2]at this;rw[this]
theorem getItem_tuple_cut{t g:Ì}{a:Ú Value}{k l:Value}{lo hi:É Å}{Q:Value->Ï->Ç}(c:ϵa ß t a)(j:Ŗe g k l .none)(pl:ßb k lo)(x:ßb l hi)(r:¬ (sIx ó 0 lo=0/\sIx ó ó hi=ó))(h:Q Ðb { s with é:=Þa { cls:=.type ō,ă:=.seq (Ϣf).toArray } })(hsz:ó<=â):Û è A (Ĳc īc ði) Q E s:=by
 let b:sizeOk (.seq (Ϣf).toArray):=by exact(Ϣf).toArray.size<=â;rw[ė,ąa,ϔa,ť];show ģ Ŷd (ģ Ļb hsz)
 let n:sIx ó ó hi<=ó:=Èe _ _ ċ hi;let{p,i,e,o}:=id j;let f:ĕb ði ϩd:={p,i,e};unfold Ĳc
 try with_reducible show ύa ?_
 first|show Ô Ģa|skip
 refine Ô (Ãl ϕd Í ?_)
 show Ô (Řc (ĵ:=ńb ϴg) ϕd āe
  (Ůb āe ϕd ŏk ?_ Èk))
 exact Û _ _ ôj _ _ s;show Ô (Ím c ?_);show Ô (ųc f ?_);rw[Ò Í];show Ô (ip j pl x ?_)
 let d:¬ (ϛf=Æ):=by intro q;rw[Ğ,Ğ]at q;let u:((sIx ó 0 lo:Ã):Å)=0:=çf q.1.1;let v:sIx ó ó hi-sIx ó 0 lo=ó:=çf q.2;show r {Int.ofNat_eq_zero.mp u,öc n (ģ (ŀb v.symm) Ļb)}
 exact Û _ _ ϝj _ _ s;rw[Ó d,y3s]
 first
  |show Ô (m:=ėe _) ϩm
  |show Ô (m:=ėe _) (Öc (Ô ϩn) b)
  |show Ô (Ô (m:=ėe _) (Öc ϩn b))
  |show Ô (Ô (m:=ėe _) ϩm)
#print a
#print HT
namespace L2
open ě ħ Ģ
abbrev TO:=St->Hp->(É Å->Hp->Ç)->Ç
def PO(X:Cx)(e:É Õ)(t:TO):Ç:=
 ∀(z6:Á ð) (s:Ï) (σ:St) (H:Hp) (Q:É Å->Hp->Ç),zE X z6 σ H s->t σ H Q->
  Û ÿ X.A (evalPart e Ö) (λu a=>∃o H',zE X z6 σ H' a/\ßb u o/\Q o H') ġ s
nonrec def y9r:TO:=λ_ H Q=>Q Ä H
nonrec def y9w(t:TE):TO:=λσ H Q=>t σ H λx a=>∃i,x=.int i/\Q (À i) a
section
variable{X:Cx}{e:Õ}{te:TE}{lo hi:É Õ}{tl th:TO}{pos p2:Pos}
def y42:PO X Ä y9r:=by intro a s σ H Q I h;rw[Öm];show č {Ä,H,I,.none,h}
def y43(h:PE X e te):PO X (À e) (y9w te):=by
 intro j s σ H Q I d;rw[evalPart_some];show zi (h j s σ H _ I d) λu k a=>?_
 let{x,g,b,c,f}:=a;let{i,rfl,q}:=f;let{t,rfl}:=c;show{À i,g,b,.int i t,q}
def gJ(X:Cx)(r:V->É Å->É Å->Hp->VK->Ç):Ç:=
 ∀(z6:Á ð) (s:Ï) (σ:St) (H:Hp) (x:V) (v vl vu:Value) (lo hi:É Å) (sl:Ì) (Q:VK),zE X z6 σ H s->zw x v->Ŗe sl vl vu .none->ßb vl lo->ßb vu hi->r x lo hi H Q->
  ∃T id,ân Ób ϴg=pure (À Ćb)/\ĕb v T/\Û ÿ X.A (Ĳc v (.ref sl)) Ăb ġ s
def gJ.or{r b:V->É Å->É Å->Hp->VK->Ç}(h:gJ X r)(h':gJ X b):gJ X (λx lo hi H Q=>r x lo hi H Q\/b x lo hi H Q):=by intro g s σ H x v e f lo hi j Q I a c d i q;rcases q with q|q;show h g s σ H x v e f lo hi j Q I a c d i q;show h' g s σ H x v e f lo hi j Q I a c d i q
nonrec def x02(r:V->É Å->É Å->Hp->VK->Ç)(te:TE)(tl th:TO):TE:=λσ H Q=>te σ H λx b=>tl σ b λl c=>th σ c λu a=>r x l u a Q
def eO{r:V->É Å->É Å->Hp->VK->Ç}(k:gJ X r)(G:PE X e te)(E:PO X lo tl)(t:PO X hi th):PE X (.Subscript e Ĝk pos) (x02 r te tl th):=by
 rw[Ūo];show Ļh (zi (G d s σ H _ I h) λv N c=>?_);let{x,B,F,p,O}:=c;show wpAny_Slice (zi (E d N σ B _ F O) λf K c=>?_);let{l,S,m,L,P}:=c;show zi (t d K σ S _ m P) λg a i=>?_
 let{u,j,y,R,z}:=i;rw[Öm];show č ?_;let J:zE X d σ j { a with é:=œd { cls:=.type ϩd,ă:=.fields #[f,g,.none] } }:=y.kept (t':=îd) λb Y q=>ĝ _ q
 let{T,U,o,n,C}:=k d { a with é:=œd { cls:=.type ϩd,ă:=.fields #[f,g,.none] } } σ j x v f g l u Ąa Q J p (Heap.IsSliceOf.new ..) L R z;exact Û ÿ X.A (Ðm e Ĝk v łn) (EP X d σ Q) ġ { a with é:=œd { cls:=.type ϩd,ă:=.fields #[f,g,.none] } };show tail_any (ops:=[.ref Ąa,v]) n o C Ža
def Zr(xs:Á V)(lo hi:É Å):Á V:=(Àk).take Ūj
def bF(xs:Á V)(lo hi:É Å):(čm).length<=ç:=by unfold Zr;rw[ąa,ϔa];show ģ Ŷd Ļb
def fq(K:Ñ):V->É Å->É Å->Hp->VK->Ç:=λx lo hi H Q=>∃a xs,x=.ref a/\ye K H a xs/\
 ¬ (Ħ ç 0 lo=0/\Ħ ç ç hi=ç)/\∀p,H p=Ä->Q Ů (γ (.tup čm))
def y8e:gJ X (fq X.K):=by
 intro w s σ H x v t u lo hi p Q I i j l n h;let{a,d,rfl,m,k,q}:=h;cases i;let{e,r,f,g}:=ώ m;let c:e.toArray.size=Óa:=by rw[ė];show Óm
 show{ō,_,ēj,Íd,?_};refine HT.getItem_tuple_cut f j l n (by rw[c];show k) ?_ (by rw[c];show g);rw[c];show{.ref Ý,_,īa (t':=Ć) (o:=.tup (Zr d lo hi)) (λb y q=>ĝ _ q) ċ ?_,rfl,q _ Ád};show{ģ (bF d lo hi) g,_,(Ŏi (Ħ Óa 0 lo)).take (Ħ Óa Óa hi-Ħ Óa 0 lo),ϐh _ _}
def fW(K:Ñ):R2:=λx y H Q=>∃a b xs ys,x=.ref a/\y=.ref b/\ye K H a xs/\ye K H b ys/\xs≠[]/\ç+ϰ<=â/\
 (ys=[]->Q ŝ H)/\(ys≠[]->∀p,H p=Ä->Q Ů (γ (.tup Õi)))
def zm.BZ{xs:Á V}{us:Á Value}(r:zm xs us):us=[]↔xs=[]:=by
 cases r with
 |nil=>simp|ā _ _=>simp
def y1x:yP X ϱc (fW X.K):=by intro B s σ H x y v u Q I j m h;let{a,b,n,l,rfl,rfl,p,k,i,e,r,t}:=h;cases j;cases m;let{A,d,g,_}:=ώ p;let{f,c,p2,_}:=ώ k;show HT.cat_tup g p2 (λz=>i (d.BZ.mp z)) (λz=>{.ref a,H,I,rfl,r (c.BZ.mp z)}) ϭn (by rw[<-Óa,<-ŉa];show e);show{.ref Ý,_,īa (t':=Ć) (o:=.tup (n++l)) (λb C q=>ĝ _ q) ċ ?_,rfl,t (λw=>z (c.BZ.mpr w)) _ Ád};show{by rw[í];show e,_,d.append c,ϐh _ _}
#print a
nonrec def ixN(n:Ã)(i:Å):É Ã:=if 0<=i then(if i<n then À Ϯd else Ä)else if -(n:Å)<=i then À (i+n).toNat else Ä
def py{α:Type}(xs:Á α)(i:Å):É α:=(ixN ç i).bind λj=>xs[j]?
def cz{n:Ã}{i:Å}{j:Ã}(h:ixN n i=À j):seqIndex? i n=À j/\j<n /\ -(n:Å)<=i/\i<n:=by unfold ixN at h;by_cases h0:0<=i;rw[Ò h0]at h;by_cases h1:i<n;rw[Ò h1]at h;let e:Ϯd=j:=ća h;show{by rw[čh h0 h1,e],by omega,by omega,h1};rw[Ó h1]at h;cases h;rw[Ó h0]at h;by_cases h1 : -(n:Å)<=i;rw[Ò h1]at h;let e:(i+n).toNat=j:=ća h;show{by rw[âh Ê h1,e],by omega,h1,by omega};rw[Ó h1]at h;cases h
def IX{α:Type}{xs:Á α}{i:Å}{v:α}(h:py xs i=À v):∃j,seqIndex? i ç=À j/\xs[j]?=À v/\j<ç /\ -(ç:Å)<=i/\i<ç:=by
 unfold py at h;cases e:ixN ç i with
 |Ä=>rw[e]at h;cases h|À j=>rw[e]at h;let{c,d,b,a}:=cz e;show{j,c,h,d,b,a}
def IR(b:Õ):Ç:=∀o i,ųm b Â o i=operate [o,i] (Ĳc o i)
def qO(X:Cx)(r:R2):Ç:=
 ∀(ϳa slice:Õ)(z6:Á ð) (s:Ï) (σ:St) (H:Hp) (x y:V) (v u:Value) (Q:VK),zE X z6 σ H s->zw x v->zw y u->r x y H Q->
  ųm slice Â v u=operate [v,u] (Ĳc v u)->Û ÿ X.A (Ðm ϳa slice v u) Ăb ġ s
def k5(X:Cx)(a:Åa)(r:V->Á V->Hp->VK->Ç):Ç:=
 ∀(z6:Á ð) (s:Ï) (σ:St) (H:Hp) (x:V) (xs:Á V) (v:Value) (us:Á Value) (Q:VK),zE X z6 σ H s->zw x v->zm xs us->r x xs H Q->
  Û ÿ X.A ύj Ăb ġ s
section
variable{X:Cx}{a b:Õ}{ta tb:TE}{pos:Pos}
def qO.or{r e:R2}(h:qO X r)(h':qO X e):qO X (λx y H Q=>r x y H Q\/e x y H Q):=by intro a b f s σ H x y v u Q I c d q g;rcases q with q|q;show h a b f s σ H x y v u Q I c d q g;show h' a b f s σ H x y v u Q I c d q g
def GX{r:R2}(d:qO X r)(k:PE X a ta)(g:PE X b tb)(f:IR b):PE X Ņk Ϩe:=by rw[ũo];show Ļh (Fi k g I h λv u i x y m e c j q=>d a b l i σ m x y v u Q e c j q (f _ _))
def fZ(K:Ñ):R2:=λx y H Q=>∃p xs i v,x=.ref p/\y=.int i/\yU K H p xs/\py xs i=À v/\Q v H
def LS(K:Ñ):R2:=λx y H Q=>∃p xs i v,x=.ref p/\y=.int i/\ye K H p xs/\py xs i=À v/\Q v H
def ff:R2:=λx y H Q=>∃z i c,x=.str z/\y=.int i/\ĕ<=â/\py Ėa i=À c/\Q ϑe H
def z46:qO X (fZ X.K):=by
 intro d g m s σ H x y v u Q I E G h l;let{p,P,i,z,rfl,rfl,L,C,q}:=h;cases E;let{t,rfl}:=G;let{k,r,f,N}:=ű L;let{j,b,A,O,o,J}:=IX C;let{w,n,c}:=ŵa A;let B:=ũ;let R:=XV;let a:EP X m σ Q w s:={z,H,I,c,q};by_cases h0:0<=i;let e:Ϯd=j:=by rw[čh h0 J]at b;show ća b
 show item_listR Åi h0 Ê Åk a l;let e:(i+(ĺd:Å)).toNat=j:=by rw[âh Ê o]at b;rw[ė,<-B];show ća b
 show ŕc (x:=w) f.isList.typeIs ϴj
  (wpAny_getItem_list_neg (Q:=λr F=>r=w/\EP X m σ Q r F) Åi Ê ļk Ê Åk {rfl,a}) l
def z4a:qO X (LS X.K):=by
 intro b d e s σ H x y v u Q I n B h g;let{p,N,i,z,rfl,rfl,E,m,q}:=h;cases n;let{t,rfl}:=B;let{F,r,f,J}:=ώ E;let{j,C,k,L,G,O}:=IX m;let{w,o,a}:=ŵa k;let l:=ũ;let P:=XV;let c:EP X e σ Q w s:={z,H,I,a,q}
 show ŕc (x:=w) Íd Ϣj
  (Õm (j:=j) (Q:=λr A=>r=w/\EP X e σ Q r A) f Ê Ê (by rw[ė,<-l];show C) (by simpa using o) {rfl,c}) g
def z49:qO X ff:=by
 intro a b p s σ H x y v u Q I m n h e;let{z,i,c,rfl,rfl,w,l,q}:=h;let{t,rfl}:=m;let{r,rfl}:=n;let{j,d,g,A,f,o}:=IX l;let k:Ģg=ĕ:=by simp[Ϙb]
 rw[k]at d f o;let B:=XV
 show tail_any (śc s z t) slot_str_getitem.lookup (getItem_str (c:=c) (by let e1:decide (i < -(2 ^ 63:Å))=Â:=į Ê;let e2:decide (i≥2 ^ 63)=Â:=į Ê;rw[e1,e2,Âh]) (by rw[d];simpa using g) {.str {#[c]},H,Ų _,{_,rfl},q}) e
def HC(K:Ñ):R2:=λx y H Q=>fZ K x y H Q\/LS K x y H Q\/ff x y H Q
def z48:qO X (HC X.K):=z46.or (z4a.or z49)
def z5o(its:Á Value)(n j:Ã)(u:Value):čb (·.setIfInBounds j u) { cls:=.type Ġ,ă:=.seq Ϫ n }={ cls:=.type Ġ,ă:=.seq (its.set j u).toArray n }:=by simp[čb]
theorem zE.lst{a:Á ð}{σ:St}{H:Hp}{s:Ï}{p:Ì}{xs:Á V}(I:zE X a σ H s)(h:H p=À Ċa) :∃(its:Á Value) (n:Ã),zm xs its/\Ă p=À { cls:=.type Ġ,ă:=.seq Ϫ n }/\ç<=â:=by let{z,its,n,r,e}:=đ p _ h;show{its,n,r,e,z}
def zE.ng{d:Á ð}{σ:St}{H:Hp}{s:Ï}{p:Ì}{xs c:Á V}{its ϸa:Á Value}{n a:Ã}{f:Obj->Obj}(I:zE X d σ H s)(h:H p=À Ċa)(j:Ă p=À { cls:=.type Ġ,ă:=.seq Ϫ n })(g:f { cls:=.type Ġ,ă:=.seq Ϫ n }={ cls:=.type Ġ,ă:=.seq çh a })(r:zm c ϸa)(i:ŉa<=â)(t:Ã) :zE X d σ (γ (.lst c)) { s with é:=īd p f,Ċ:=t }:=by
 let e:(īd p f).get? p=À { cls:=.type Ġ,ă:=.seq çh a }:=by rw[Ĥe f j (by rw[g]<;>rfl),g]
 refine ϱd (x:=p) (e:=p) (by rw[h];trivial) ą (λb u k q=>(θa (Ùb k)).trans q) {_,e} ?_;show{i,ϸa,a,r,e}
def y59:V->V->V->Hp->Úo->Ç:=λo i v H Q=>∃p xs k j,o=.ref p/\i=.int k/\H p=À Ċa/\ixN ç k=À j/\Q (ηa (xs.set j v))
def y7y:DR X y59:=by
 intro x s σ H o i v J E u Q I C y w h;let{p,B,k,j,rfl,rfl,g,z,q}:=h;cases C;let{t,rfl}:=y;let{a,n,r,e,A}:=I.lst g;let{b,F,l,f}:=cz z;let c:=ũ;let G:=XV
 let m:zE X x σ (ηa (B.set j v)) { s with é:=īd p (čb (·.setIfInBounds j u)) }:=
  I.ng g e (z5o a n j u) (r.set w j) (by rw[ϖa];show A) Ć
 by_cases h0:0<=k;let d:Õa=j:=by rw[čh h0 f]at b;show ća b
 show W.ki_setAt e h0 Ê (by rw[ė,<-c];show f) þk;let d:(k+(ýc:Å)).toNat=j:=by rw[âh Ê l]at b;rw[ė,<-c];show ća b
 show W.ki_setBack e Ê (by rw[ė,<-c];show l) Ê þk
def y8h(lo hi:É Å)(n:Ã):ŋg.1=((Ħ n 0 lo:Ã):Å)/\ŋg.2.1=((Ħ n n hi:Ã):Å)/\ŋg.2.2=1:=by
 show{?_,?_,rfl};cases lo with
 |Ä=>simp[ĭd,Ħ]|À i=>simp only[ĭd,Ħ,ćl,show(1:Å)>0 by decide,Ŗ];by_cases h:i<0;simp only[h,Ŗ];rw[Ĳd Ϧi,Įm,<-şg];simp only[h,Ÿ];let{k,rfl}:=Šc (íc h);rcases Ϛe k n with q|q;rw[ϧ,řa q,Ĳd Ņf];show Şe Ŋf;rw[ϧ,ře q,Šg Ņf];show Şe (ĵb n)
 cases hi with
 |Ä=>simp[ĭd,Ħ]|À i=>simp only[ĭd,Ħ,ćl,show(1:Å)>0 by decide,Ŗ];by_cases h:i<0;simp only[h,Ŗ];rw[Ĳd Ϧi,Įm,<-şg];simp only[h,Ÿ];let{k,rfl}:=Šc (íc h);rcases Ϛe k n with q|q;rw[ϧ,řa q,Ĳd Ņf];show Şe Ŋf;rw[ϧ,ře q,Šg Ņf];show Şe (ĵb n)
def y8g(its:Á Value)(lo hi:É Å):Ŗn Ϫ lo hi Ä=((its.drop (Ħ Íb 0 lo)).take (Ħ Íb Íb hi-Ħ Íb 0 lo)).toArray:=by let{b,c,a}:=y8h lo hi its.toArray.size;unfold Ŗn;rw[b,c,a];simp only[Ÿl,Ϲh,ė]<;>rfl
def fj(K:Ñ):V->É Å->É Å->Hp->VK->Ç:=λx b c H Q=>∃a xs,x=.ref a/\yU K H a xs/\∀p,H p=Ä->Q Ů (ηa (Zr xs b c))
def y8c:gJ X (fj X.K):=by intro y s σ H x v u w e f t Q I i k m p h;let{a,c,rfl,n,q}:=h;cases i;let{l,r,g,j}:=ű n;let d:=ũ;show{Ġ,_,ϴj,g.isList.typeIs,?_};refine wpAny_getItem_list_slice g.isList k m p .none ï ?_ ļk;rw[y8g,<-d];show{.ref Ý,_,īa (t':=Ć) (o:=.lst (Zr c e f)) (λb z q=>ĝ _ q) ċ ?_,rfl,q _ Ád};show{ģ (bF c e f) j,_,0,(Ŏi (Ħ ŉa 0 e)).take (Ħ ŉa ŉa f-Ħ ŉa 0 e),Ř _ rfl}
nonrec def p6:V->Ð
 |.zG=>Æ|.bl _=>Æ|.int _=>Æ|.str _=>Æ|_=>Â
nonrec def qS:V->V->Ð
 |.zG,.zG=>Æ|.bl a,.bl b=>a==b|.bl a,.int b=>Ļk==b|.int a,.bl b=>a==Ĕd|.int a,.int b=>a==b|.str a,.str b=>a==b|_,_=>Â
def be{A:û}{s:Ï}{y x:V}{u v:Value}(f:zw y u)(c:zw x v)(g:p6 y=Æ)(e:p6 x=Æ):Îb A s u v (qS y x):=by
 cases y with
 |zG=>
  cases f;cases x with
  |zG=>cases c;show ċg _|bl b=>cases c;show SeqAt.EqAt.none_bool b|int b=>let{t,rfl}:=c;show SeqAt.EqAt.none_int b t
  |str b=>let{t,rfl}:=c;show SeqAt.EqAt.none_str b t
  |_=>show Þ (show Â=Æ from e) ņ
 |bl a=>
  cases f;cases x with
  |zG=>cases c;show SeqAt.EqAt.bool_none a|bl b=>cases c;show SeqAt.EqAt.bool_bool a b|int b=>let{t,rfl}:=c;show SeqAt.EqAt.bool_int a b t
  |str b=>let{t,rfl}:=c;show SeqAt.EqAt.bool_str a b t
  |_=>show Þ (show Â=Æ from e) ņ
 |int a=>
  let{d,rfl}:=f;cases x with
  |zG=>cases c;show SeqAt.EqAt.int_none a d|bl b=>cases c;show SeqAt.EqAt.int_bool a d b|int b=>let{t,rfl}:=c;show SeqAt.EqAt.int_int a d b t
  |str b=>let{t,rfl}:=c;show ſk a d b t
  |_=>show Þ (show Â=Æ from e) ņ
 |str a=>
  let{d,rfl}:=f;cases x with
  |zG=>cases c;show SeqAt.EqAt.str_none a d|bl b=>cases c;show SeqAt.EqAt.str_bool a d b|int b=>let{t,rfl}:=c;show Žk a d b t
  |str b=>let{t,rfl}:=c;show SeqAt.EqAt.str_str a d b t
  |_=>show Þ (show Â=Æ from e) ņ
 |_=>show Þ (show Â=Æ from g) ņ
def uj(x:V)(u:Value):Ð:=match u with
 |.none=>qS .zG x|.bool b=>qS ϭa x|.int i _=>qS Ϡ x|.str z _=>qS ĩc x|_=>Â
def CC{x y:V}{u:Value}(r:zw y u)(f:p6 y=Æ):uj x u=qS y x:=by
 cases y with
 |zG=>cases r;rfl|bl b=>cases r;rfl|int i=>let{t,rfl}:=r;rfl
 |str z=>let{t,rfl}:=r;rfl
 |_=>show Þ (show Â=Æ from f) ņ
theorem TY{x:V}:∀{xs:Á V}{us:Á Value},zm xs us->Ĺc p6=Æ->us.any űa=xs.any λy=>qS y x
 |_,_,.nil,_=>rfl|y::xs,u::us,.cons r t,f=>by rw[Ś,Ğ]at f;rw[Ϛc,Ϛc,CC r f.1,TY t f.2]
theorem VX{A:û}{s:Ï}{x:V}{v:Value}(b:zw x v)(c:p6 x=Æ):∀{xs:Á V}{us:Á Value},zm xs us->Ĺc p6=Æ->∀u∈us,Îb A s u v (uj x u)
 |_,_,.nil,_=>λu a=>by cases a|y::xs,u::us,.cons r t,f=>λd a=>by rw[Ś,Ğ]at f;rcases Ī a with rfl|a;rw[CC r f.1];show be r b f.1 c;show VX b c t f.2 d a
def Oa(x:V)(xs:Á V):Ð:=xs.any λy=>qS y x
def HA(K:Ñ)(a:Ð):R2:=λx y H Q=>∃p xs,y=.ref p/\(yU K H p xs\/ye K H p xs)/\p6 x=Æ/\Ĺc p6=Æ/\Q (.bl (if a then !Oa x xs else Oa x xs)) H
def y23:yP X Ėc (HA X.K Â):=by rw[ĵo];rcases b with b|b;let{a,r,e,i}:=ű b;refine SeqAt.in_listAt űa e.isList ôe {.bl _,H,I,rfl,?_};rw[Ăo];let{a,r,e,i}:=ώ b;refine Ćl űa e ôe {.bl _,H,I,rfl,?_};rw[Ăo]
def y29:yP X ŋd (HA X.K Æ):=by rw[ĵo];rcases b with b|b;let{a,r,e,i}:=ű b;refine SeqAt.notIn_listAt űa e.isList ôe {.bl _,H,I,rfl,?_};rw[Ăo];let{a,r,e,i}:=ώ b;refine SeqAt.notIn_tupleAt űa e ôe {.bl _,H,I,rfl,?_};rw[Ăo]
def y2a:yP X ŋd (γc (!(!(Øc j i 0 Ča 1).isEmpty))):=by rw[Ło];show notIn_str {.bl _,H,I,rfl,q}
def sC:wM X ŧe (λxs H Q=>∃p ys,xs=őb/\Íg/\Q Şh H):=by intro k s σ H xs i Q I r h;let{p,ys,rfl,b,q}:=h;let{u,rfl,f}:=wv r;cases f;let j:=XV;rcases b with b|b;let{e,c,d,g}:=ű b;let a:=ŉa;show Calls.call_len_list d.isList ąd {.int ϰ,H,Ų _,{Ć+1,by rw[ė,a]},q};let{e,c,d,g}:=ώ b;let a:=ŉa;show len_tuple d ąd {.int ϰ,H,Ų _,{Ć+1,by rw[ė,a]},q}
def sE:wM X ŧe (λxs H Q=>∃z,xs=Íi/\ĕ<=â/\Q Ņn H):=by intro d s σ H xs b Q I r h;let{z,rfl,a,q}:=h;rw[īo];let c:=XV;show len_str Ê {.int ĕ,H,Ų _,{_,rfl},q}
def wM.or{f:Value}{r a:Á V->Hp->VK->Ç}(h:wM X f r)(h':wM X f a):wM X f (λxs H Q=>r xs H Q\/a xs H Q):=by intro b s σ H xs d Q I c q;rcases q with q|q;show h b s σ H xs d Q I c q;show h' b s σ H xs d Q I c q
def sG:wM X ña (λxs H Q=>∃p ys,xs=őb/\Íg/\∀l,H l=Ä->Q Ϯb ľm):=by
 intro A s σ H xs B Q I r h;let{p,ys,rfl,k,q}:=h;let{u,rfl,z}:=wv r;cases z
 have g:∀(a:Á Value),zm ys a->ϰ<=â->∀(c:Heap)(f:Ã),(∀b o',Ă b=À o'->c.get? b=À o')->
   c.get? Ý=À { cls:=.type Ġ,dict:=Ä,ă:=.seq ϣa f,ød:=#[] }->EP X A σ Q Ðb { s with é:=c }:=λa d i c f m e=>
  {.ref Ý,_,īa (t':=Ć) m ċ (show yz ô X.w _ c _ Ąc from{i,a,f,d,e}),rfl,q _ Ád}
 rcases k with k|k;let{a,d,v,i}:=ű k;let j:=Óa;let{o,y,x,n,t}:=v.isList;show Øm p ą y x t Ŵj ąd;let{a,d,v,i}:=ώ k;let j:=Óa;let{o,y,x,n,t}:=v;show Øm p Ŀa y x t Ŵj ąd
def I_:wM X ła (Θd ((yU X.K H p ys/\∀l,H l=Ä->Q Ϯb ļm)\/(ye X.K H p ys/\Q Ů H))):=by
 intro k s σ H xs x Q I r h;let{p,ys,rfl,h}:=h;let{u,rfl,n}:=wv r;cases n;rcases h with⟨g,q⟩|⟨g,q⟩;let{a,d,f,j}:=ű g;let m:=Óa;show call_tuple_list Åi (λc v=>?_) ąd;let i:zE X k σ H { s with é:=c }:=ïd (t':=Ć) v
 let t:zE X k σ (zT H żm Ţd) { s with é:=c.push { cls:=.type ō,ă:=.seq ϣa } }:=
  i.laid (t':=Ć) (λb o e=>ĝ _ e) ċ (show yz ô X.w _ _ _ Ţd from{j,a,d,ϐh _ _})
 show{.ref żm,_,t,rfl,q _ (i.zb.fresh ċ)};let{a,d,f,j}:=ώ g;show call_tuple_same f {.ref p,H,I,rfl,q}
def lg(K:Ñ)(T:Åa)(x:V)(H:Hp):Ç:=match x with
 |.str _=>T = ãb|.int _=>T = ϲa|.ref p=>(T = Ġ/\∃xs,yU K H p xs)\/(T = ō/\∃o,ϋ p=À o/\úa=.type ō/\Ëe=Ä) \/
   (T = Ź/\((∃kvs,H p=À ň)\/∃kvs,H p=À Őb))\/(T = őa/\∃S n,H p=À (.set S n))
 |_=>õ
def lh{l:Á ð}{σ:St}{H:Hp}{s:Ï}{T:Åa}{x:V}{v:Value}(I:zE X l σ H s)(r:zw x v)(f:lg X.K T x H) :ĕb v T/\∀a,v=.ref a->∃ob,Ă a=À ob/\ob.dict=Ä:=by
 cases x with
 |str z=>let{t,rfl}:=r;cases(show T = ãb from f);show{śc s z t,λ_ e=>nomatch e}
 |int i=>let{t,rfl}:=r;cases(show T = ϲa from f);show{ıh s i t,λ_ e=>nomatch e}
 |ref p=>
  cases r;rcases f with⟨rfl,u,m⟩|⟨rfl,o,b,k,h⟩|⟨rfl,b⟩|⟨rfl,S,n,b⟩;let{q,_,j,_}:=ű m;show{j.isList.typeIs,λa e=>?_};cases e;let{o,n,e,c,h,_}:=j;show{o,e,h};show{{o,ŗ p o b,k},λa e=>?_};cases e;show{o,ŗ _ o b,h};let z:∃o,Ă p=À o/\Ŵm:=by rcases b with⟨g,b⟩|⟨g,b⟩;rw[ŧo];rw[ŧo]
  let{o,e,d}:=z;rw[őo];let{o,_,_,_,e,d,_}:=đ p _ b;rw[őo]
 |_=>show óa f
nonrec def lN(K:Ñ)(T:Åa)(r:V->Á V->Hp->VK->Ç)(c:TE)(t:TA):TE:=λσ H Q=>c σ H λx a=>lg K T x a/\t σ a λb d=>r x b d Q
variable{o e:Õ}{es:Á Õ}{to:TE}{t:TA}{ĵ:È}{š Ž:Pos}{T id:Åa}{r:V->Á V->Hp->VK->Ç}
def y2m(p:ðn T)(f:Slot T ĵ id)(i:Ōi Ćb=pure Ýg)(F:k5 X id r)(N:PE X o to)(E:PA X ē t)(b:Î ūj q11)(g:((ϻb Ž (ža ē Ö)).all Ěh&&(ħj).all ál
   && decide ((ē).length+([]:Á ľf).length+ùj<30))=Æ:=by rfl)
  (d:Î éa q11)(q:Î Òc q11)(a:Î ((ϻb Ž óh).any (·.1)=Â) q11) :
  PE X õj (lN X.K T r to t):=by
 intro j s σ H Q I h;show æk b g d rfl (zi (N j s σ H _ I h) λv z c=>?_);let{x,G,k,l,O,B}:=c;let{J,L}:=lh k l O;show{T,id,p,f,i,J,L,?_};let m:=E Ž j z σ G _ k B;rw[q]at m ⊢;refine Śc (by exact(Â||(ϻb Ž óh).any (·.1))=Â;rw[a]<;>rfl) (àg ?_);show zi m λy u c=>?_
 let{A,P,n,w,C}:=c;show F j u σ P x A v y Q n l w C
#print a
def Az(X:Cx)(a:Åa)(r:V->Á V->Hp->VK->Ç):Ç:=
 ∀(z6:Á ð) (s:Ï) (σ:St) (H:Hp) (x:V) (xs:Á V) (v:Value) (us:Á Value) (Q:VK),zE X z6 σ H s->zw x v->zm xs us->r x xs H Q->
  Û ÿ X.A ύj Ăb ġ s
def zm.one{x:V}{us:Á Value}(h:zm [x] us):∃u,us=[u]/\zw x u:=by cases h with|ā r t=>cases t;show{_,rfl,r}
theorem zm.rep{xs:Á V}{us:Á Value}(h:zm xs us):∀k:Ã,zm (ün).flatten (Ŷ k us).flatten
 |0=>.nil|k+1=>by rw[Ųb,Ųb,źc,źc];show âf h (zm.rep h k)
theorem bz(its:Á Value):∀(k:Ã)(acc:Á Value),
  ϯc (λx1 x2=>x1++x2) Žm (Ŷ k Ϫ)=(acc++(Ϭm).flatten).toArray
 |0,acc=>by simp|k+1,acc=>by
  let e:Žm++Ϫ=(Œh).toArray:=by simp
  let e2:Œh++(Ϭm).flatten=acc++(Ŷ Ĝ its).flatten:=by rw[Ųb,źc,ř]
  rw[<-e2,<-bz its k Œh,<-e,Ųb,ųg]
section
variable{X:Cx}{z6:Á ð}{σ:St}{H:Hp}{s:Ï}{l b:Ì}{xs ys:Á V}
def zE.Ry{its ϸa:Á Value}{n:Ã}{f:Ú Value->Ú Value}{t':Ã}(I:zE X z6 σ H s)(c:H l=À Ċa)(e:Ă l=À { cls:=.type Ġ,ă:=.seq Ϫ n })(b:f Ϫ=çh)(hv:zm ys ϸa)(g:ϰ<=â) :zE X z6 σ ľm { s with é:=īd l (čb f),Ċ:=t' }:=by let q:=PySem.IsL.update e f;rw[b]at q;refine ϱd (x:=l) (e:=l) (by rw[c];show trivial) ą (λh u a d=>(ϒi ß (čb f) (Ùb a)).trans d) {_,q} ?_;show{g,ϸa,_,hv,q}
def zE.Rx{its:Á Value}{t':Ã}(I:zE X z6 σ H s)(hv:zm ys its)(a:ϰ<=â) :zE X z6 σ (zT H Ý Ąc) { s with é:=Þa { cls:=.type Ġ,ă:=.seq Ϫ },Ċ:=t' }:=
 īa ĵg ċ {a,its,0,hv,Ř _ rfl}
theorem zE.fresh(I:zE X z6 σ H s):H Ý=Ä:=þb ċ
def zE.Jz(I:zE X z6 σ H s)(a:H l=À Ċa):ç<=â/\∃(its:Á Value) (n:Ã),zm xs its/\ç=Íb/\Ă l=À { cls:=.type Ġ,ă:=.seq Ϫ n }:=by let{z,its,n,r,e}:=đ l _ a;show{z,its,n,r,ũ,e}
def dq{n:Ã}(h:n<=â):Ęe n=Â:=by unfold Ęe;show į Ê
#print a
section
variable{X:Cx}
def y50:V->Á V->Hp->VK->Ç:=λx a H Q=>∃l xs y,x=.ref l/\a=[y]/\H l=À Ċa/\ç<â/\Q .zG (zT H l Ŏl)
def z6a:Az X Êm y50:=by intro m s σ H x k v i Q I d c h;let{l,j,y,rfl,rfl,b,g,q}:=h;cases d;let{u,rfl,f}:=c.one;let{z,a,n,r,o,e}:=I.Jz b;refine üb F.slot_list_append {_,e,rfl} F.entry_list_append (F.args_list_append_2 _ _) (PySem.list_append l ϣa n u ϵk) {e,?_};refine{.zG,_,I.Ry (ϸa:=a++[u]) b e ï (Êd (.cons f .nil)) ?_,rfl,q};rw[í,List.length_singleton];omega
def y53:V->Á V->Hp->VK->Ç:=λx a H Q=>∃l b xs zs,x=.ref l/\a=[.ref b]/\H l=À Ċa/\H b=À (.lst zs)/\ç+Œn<=â/\Q .zG (zT H l (Ε (xs++zs)))
def z6c:Az X "list.extend" y53:=by
 intro y s σ H x J v C Q I p i h;let{l,b,E,G,rfl,rfl,g,j,B,q}:=h;cases p;let{u,rfl,o}:=i.one;cases o;let{z,c,n,r,A,e}:=I.Jz g;let{w,a,k,m,t,e2}:=I.Jz j;let f:ϖg+ýc<=â:=by rw[ė,ė];omega
 let d:¬ (!c.toArray.isEmpty&&Ęe (ϖg+ýc))=Æ:=by rw[dq f,ϐl];show ņ
 refine üb F.slot_list_extend {_,e,rfl} F.entry_list_extend (F.args_list_extend_2 _ _)
  (AutoSeq1.list_extend_list_list_0 l Źh n b ϣa k d ϵk Ê) {e,e2,?_}
 refine{.zG,_,I.Ry (ϸa:=c++a) g e ï (Êd m) ?_,rfl,q};rw[í];omega
def y58:R2:=λx y H Q=>∃l k xs,x=.ref l/\y=.int k/\H l=À Ċa /\ -(2 ^ 63)<=k/\k<2 ^ 63/\ç*Õa<=â/\
 ∀p,H p=Ä->Q Ů (γ (.lst (Ĵm).flatten))
def dF{α:Type}(xs:Á α)(k:Ã):(ün).flatten.length=k*ç:=by
 induction k with
 |ϙ=>simp|Ϛ k ih=>rw[Ųb,źc,í,ih,ïh,Ϡc]
theorem y2c:yP X ęh y58:=by
 intro L s σ H x y v u Q I C G h;let{l,k,N,rfl,rfl,K,J,w,p,q}:=h;cases C;let{t,rfl}:=G;let{z,b,n,r,A,e}:=I.Jz K;have i:Äb*Õa<=â:=by rw[ė,<-A];show p
 let g:¬ Äb*Õa>īn/8:=by
  let:(â:Ã)<=īn/8:=by decide
  omega
 let f:¬ (!Builtin.List.listFitsIndex k)=Æ:=by rw[fitsIndex_both J w];show ņ
 let c:¬ Ęe (Äb*Õa)=Æ:=by rw[dq i];show ņ
 let d:ϯc þm #[] (Ŷ (if b.toArray.isEmpty=Æ then 0 else Õa) Ϣa)=(Ŷ Õa b).flatten.toArray:=by
  let B:∀m:Ã,ϯc þm #[] (Ŷ m Ϣa)=(Ŷ m b).flatten.toArray:=λm=>by let:=bz b m [];rw[ıd]at this;rw[đo]
  rw[B];cases b with
  |nil=>simp|ā a r'=>rw[Ó ï]
 refine wpAny_binaryOp_repeat_ref (T := Ġ) (U := ϲa) Í {_,e,rfl} (λE=>ıh E k t) noFill_list_mul F.fills_int_mul Ŀl repeat_list F.slot_int_index.lookup
  (üb Ŀl (ıh s k t) F.entry_int_rmul (F.args_int_rmul_2 _ _) (int___rmul___int_list k t l Ϣa n)
   {e,rfl,{_,e,rfl},üb F.slot_list_mul {_,e,rfl} F.entry_list_mul (F.args_list_mul_2 _ _) (AutoListH.list___mul___list_int_3 l Ϣa n k t f g c) {e,?_}})
 rw[d];show{.ref _,_,I.Rx (t':=Ć) (r.rep Õa) (by rw[dF,ħm];show p),rfl,q _ ĵc}
#print a
#print L2
namespace Att
open ě Či PySem.Calls Ģ
def z3w{P:Ŧf}{h:Heap}:∀(ns:Á Å)(vs:Á Value),WellAll P h vs ßc->ģb vs ns:=by
 intro ns
 induction ns with
 |nil=>intro vs w;rw[ϛe]at w;cases w;show .nil|ā n ns ih=>
  intro vs w;rw[Ň]at w;cases w with
  |ā a b=>cases a;show .cons _ _ (ih _ b)
def script_of{l:OpenLaw}{n:Ã}(o:œi=À n){P:Ŧf}{h:Heap}{ϛ:Á WData}{c:Á Value}(b:l.row.toRowW.claim.pre ϛ=Æ)(i:WellAll P h c ϛ) :∃a vs ns,c=[Ĉ a]/\ϛ=[WData.list ßc]/\Ě a=À { cls:=.type Ġ,ă:=.seq ϝ }/\ģb vs ns/\ś<=n:=by
 let j:WShape.hasAll [] ϛ [.list .int]=Æ:=ϩl.1;let k:l.pre.holds [] { ϛ:=ϛ }=Æ:=ϩl.2;let{d,r,rfl,p,s}:=hasAllW_cons j;obtain rfl:=hasAllW_nil s;let{u,rfl,m}:=hasW_list p;let{ns,rfl}:=items_int m
 let e:ś<=n:=by
  unfold OpenLaw.pre at k
  let g:(WTm.not (.lt (.lit Āc) (.len (.arg 0)))).holds [] { ϛ:=[.list (Īa .int)] }=Æ:=by let g:=(holds_andW k).1;rw[o]at g;show g
  let f:=condW_of g (w_not (w_lt w_lit (w_len_list (w_arg rfl))));rw[ì]at f;show Nat.le_of_not_lt λq=>?_
  let t:(n:Å)<((ś:Ã):Å):=by omega
  first
   |(rw[ĉ t]at f;show Þ f Í)
   |(simp at f;omega)
 cases i with
 |ā w1 w2=>
  cases w2;cases w1 with
  |list ho hall=>show{_,_,ns,rfl,rfl,ho,z3w ns _ hall,e}
def post_true(l:OpenLaw)(ϛ:Á WData):l.row.toRowW.claim.post ϛ ϻe ϛ=Æ:=
 postW_of (r:=æh) (X:=þn)
  (show în [] ϻe .bool=Æ by first|rfl|decide|simp[în,WShape.arms,WShape.armsAll])
  (show(WTm.eq .res (.lit ϻe)).value [] { ϛ:=ϛ,res:=À ϻe,after:=ϛ }=À (.bool þn)from w_eq_bool (w_res rfl) w_lit) rfl
#print Att
namespace L2
open ě ħ Ģ
theorem m5:∀{vs:Á Value}{ns:Á Å},ģb vs ns->zm ía vs
 |_,_,.nil=>.nil|_,_,.cons n t h=>.cons {t,rfl} (m5 h)
def aB(H:Hp):Ç:=∀b,H b=Ä\/∃o xs,H b=À Ön
def z50{P:ë}{w:å}{K:Ñ}{t U:È->É Value}{Z:jc}{k:Ã}{N a:Ì}{Y:Ļ}{x:È}{sp:Sp}{c:Ï}{vs:Á Value}{ns:Á Å}(KX:Ő Ïe)(E:źh ď t)(g:źh ĵh U)(O:∀x:È,x ≠ įh->U x=Ţ x)(J:c.heap.NoLimit)(hg:c.gens=#[])(L:Ϧc a=À { cls:=.type Ġ,ă:=.seq ϝ })(hi:ģb vs ns)(hl:ś<=â)(hr:yj k àd)(F:∀Ë:Heap,Ő Ë->ád ď t->y_ P w K t Ë Z k N Y [x] sp)(l:∀(s:Ï)(u:Value),Ýb s Y {[u],[]} [(x,u)])(R:∀H:Hp,aB H->yU K H a ía->sp Òa H Ϙk λ_ _ _=>õ)(S:∀H e s',Z [] H c (λ_ _ _=>õ) e s'->õ) :ϫa Đb àd ϰj ϝi c:=by
 let X:=m5 hi;let y:=hi.length
 have j:∀H:Hp,aB H->yU K H a ía->xg P w H Ïe->(∀b,H b≠Ä->b=a)->(H a≠Ä->ϋ a=Ä)->
   ϫa Đb àd ϰj ϝi c:=by
  intro H hO hS zb hA hK;let f:∀{b:Ì}{o:Obj},Ϧc b=À o->H b=Ä->(ņd).get? b=À o:=λe n=>z3h e n
  let Q:∀{b:Ì}{o:Obj}{I:Ú Ēb}{A:Ã},Ϧc b=À o->Đa=.dict I A->H b=Ä:=λ{b o I A} e d=>by
   cases q:H b with
   |Ä=>rfl|À u=>have T:b=a:=hA b ſg;subst T;rw[L]at e;cases e;let d':Data.seq ϝ _=Data.dict I A:=d;cases d'
  let i:∀{b:Ì}{m:È->É Value},źh b m->(ņd).Ns b m:=λ{b m} ⟨o,I,A,e,d,r⟩=>{o,I,A,f e (Q e d),d,r}
  let p:Ő ņd:=λb o e=>f (KX b o e) (by
   cases q:H b with
   |Ä=>rfl|À u=>have T:b=a:=hA b ſg;subst T;rw[hK ſg]at e;cases e)
  let hM:Mod K t ņd:={p,i E,{U,i g,O},let ⟨mc,h1,h2⟩:=J;{mc,i h1,h2}};let e0:Yn P w K t ņd àd [] c H:={rfl,hM,λb o e=>z8u e,ŀb (z3i _ _),trivial,λb g=>Þ (show b∈([]:Á Ì)from g) ï,zb,.of_eq hg};show Ńe ((F _ p (i E)).run àd [] c H {Òa,[]} Òa Òa _ _ hr e0 (l c ŝ) ĩl (R H hO hS)) λr s' h=>?_
  cases r with
  |error e=>show(S H e s' h).elim|ok fl=>
   cases fl with
   |next=>show óa h|brk=>show óa h|Ĭb=>show óa h|ret u=>
    let{v,H',os,C,un,B,r',q}:=h;let q':v=.bl Æ:=q;subst q';obtain rfl:u=Æf Æ:=r';show{rfl,OldK.of_keep λb o e=>?_,os,C};cases q:H b with
    |Ä=>show un.keep b o e q (by intro z;show Þ (show b∈([]:Á Ì)from z) ï) ï|À u=>
     rcases hO b with z|⟨ob,xs,z⟩
     .rw[q]at z;cases z
     .let z2:=un.uc b ob _ z;let{e1,_}:=zb b _ z;let{e2,_}:=B b _ z2;rw[e]at e1;cases e1;show e2
 cases hk:ϋ a with
 |À o=>have e:=KX a o hk;rw[L]at e;cases e;refine j Ţa (λ_=>.inl rfl) (.inr {_,ϝ,_,hk,rfl,rfl,rfl,by rw[ė,y];show hl,by simpa using X}) (λb u z=>by let G:(Ä:É HO)=À u:=z;cases G) (λb z=>Þ rfl z) λz=>Þ rfl z|Ä=>show j (λb=>if b=a then À (.yH { cls:=.type Ġ,ă:=.seq ϝ } (.lst ía))else Ä) (λb=>?_) (.inl (.inr {{ cls:=.type Ġ,ă:=.seq ϝ },Ò rfl})) (λb u z=>?_) (λb z=>?_) λ_=>hk;by_cases g:b=a;show .inr {_,_,Ò g};show .inl Ĥi;by_cases g:b=a;let G:=(Ò g).symm.trans z;cases G;subst g;show{L,by rw[ì];show hl,vs,_,X,L};let G:=(Ĥi).symm.trans z;cases G;by_cases g:b=a;show g;show Þ Ĥi z
nonrec def jr(s:Ø)(j:Ã):Ø:=match s with
 |.ClassDef _ _ _ Íc _ _ _ _ _ _ _=>body.getD j öl|_=>.Pass {0,0,0,0}
nonrec def q_(s:Ø):űn:=match s with
 |.FunctionDef _ a _ _ _ _ _ _ _ _=>a|_=>{ posonlyargs:=[],ϛ:=[],vararg:=Ä,kwonlyargs:=[],kw_defaults:=[],kwarg:=Ä,defaults:=[] }
nonrec def w_(s:Ø):Á Ø:=match s with
 |.FunctionDef _ _ b _ _ _ _ _ _ _=>b|_=>[]
nonrec def zS(s:Ø):Ùa:=match s with
 |.FunctionDef _ _ _ _ _ _ sc _ _ _=>sc|_=>{ kind:=.function,Żf:=[],isGenerator:=Â,isCoroutine:=Â }
abbrev yu:jc:=λ_ _ _ _ _ _=>õ
abbrev E0:XK:=λ_ _ _=>õ
def YE{X:Cx}:Yz yu X E0:=λ_ _ _ _ _ _ _ h=>Ŗi
structure Fun(K:Ñ)(x qual:È)(st:Ø)(f:Ì)(fd:Ļ):Ç where
 ex:∃(oc:Value) (od:É Ì) (kV doc pm:Value) (an:É Ì) (cdv ct:Value) (osl:Ú ϟa),
  fd=Ľc x qual çd ϱ ľ .none kV doc pm an cdv ct/\ϋ f=À {oc,od,.func fd,osl}/\Ěb K cdv qual=Æ
 kp:âa K İ=Æ
section
variable{P:ë}{w:å}{K:Ñ}{mg:È->É Value}{Ë:Heap}
def Fun.ok{x a:È}{st:Ø}{f:Ì}{i:Ļ}{N ps:Á È}{k:Ã}{sp:Sp}(F:Fun K x a st f i)(S:zc N ps ľ)(g:∀vs H Q E,sp vs H Q E->ü=ĥ)(c:∀(b:Value)(A:û)(Ā:Á Env)(s:Ï)(H:Hp)(vs:Á V)(Q:VK)(E:XK),yj k ϧj->sp vs H Q E->
   ∃t,uR (ëj).t6 ϱ t/\t { nx:=λ_ H'=>Q .zG H',rt:=Q } Ĉc H):y_ P w K mg Ë yu Ĝ f i ps sp:=by
 let{o,r,kV,n,u,p,b,v,m,rfl,j,e}:=F.ex;show bw j e S g λA Ā s H vs Q E l d=>?_
 rw[ŕo]
def Fun.binds{x a:È}{st:Ø}{f:Ì}{g:Ļ}{ps:Á È}(F:Fun K x a st f g)(h:∀(kV c e:Value)(d:É Ì)(b ct:Value)(us:Á Value),Ũ=ĥ->Ĕf (Ľc x a çd ϱ ľ .none kV c e d b ct) {us,[]}=pure ϔb):vq K g ps []:=by let{l,m,kV,c,e,d,b,ct,j,rfl,k,i}:=F.ex;show .all (h kV c e d b ct)
def c7{x a:È}{st:Ø}{f:Ì}{j:Value}{i h:É Ì}{e:Ú ϟa}{kV d g b ct:Value}(l:ϋ f=À {j,i,.func Ûj,e})(c:Ěb K b a=Æ)(k:âa K İ=Æ):Fun K x a st f Ûj:={{j,i,kV,d,g,h,b,ct,e,rfl,l,c},k}
#print a
def zR{A:û}{k:Ã}(a:yj k A):ďa+1<ų:=Àb (ůc (by decide:1<=64) _) a.units
def y8i{n:Ã}(h:n<=1000):n<â:=Àb h Í
def jA{A B:Ç}(h:B):if Â=Æ then A else B:=by rw[Ó ņ];show h
def jB{A B:Ç}(h:A):if Æ=Æ then A else B:=by rw[Ò rfl];show h
def zt(H H':Hp):Ç:=∀b o,H b=À o->H' b=À o
def ŧa(H:Hp):zt H H:=λ_ _ h=>h
def zt.trans{H d e:Hp}(a:zt H d)(b:zt d e):zt H e:=λc o h=>b c o (a c o h)
def zt.free{H H':Hp}(e:zt H H'){l:Ì}(h:H' l=Ϗm):H l=Ϗm:=by
 cases q:H l with
 |Ä=>rfl|À o=>rw[e l o q]at h;cases h
#print L2
set_option linter.all false
set_option maxRecDepth 100000
set_option maxHeartbeats 4000000
namespace L2
open ě ħ Ģ
def Def(K:Ñ)(a:È->É Value)(x:È)(st:Ø)(ps:Á È):Ç:=
 ∃(f:Ì) (fd:Ļ),Fun K x x st f fd/\a x=À İ/\vq K fd ps []
def wB(P:ë)(w:å)(K:Ñ)(b:È->É Value)(a:Heap)(x:È)(ps:Á È)(k:Ã)(sp:Sp):Ç:=
 ∃(f:Ì) (fd:Ļ),b x=À İ/\âa K İ=Æ/\vq K fd ps []/\y_ P w K b a yu k f fd ps sp
def xU(a:È->É Value)(x:È)(v:V):Ç:=∃u,a x=À u/\zw v u
section
variable{P:ë}{w:å}{K:Ñ}{mg:È->É Value}{Ë:Heap}
theorem Def.ok{x:È}{st:Ø}{N ps:Á È}{k:Ã}{sp:Sp}(d:Def K mg x st ps)(S:zc N ps ľ)(c:∀vs H Q E,sp vs H Q E->ü=ĥ)(a:∀(f:Ì)(b:Value)(A:û)(Ā:Á Env)(s:Ï)(H:Hp)(vs:Á V)(Q:VK)(E:XK),yj k (Ëb (ϥa x ľ Ý f b))->sp vs H Q E->
   ∃t,uR (ui yu P w K mg Ë N x ľ f b A Ā s H E).t6 ϱ t/\t { nx:=λ_ H'=>Q .zG H',rt:=Q } Ĉc H):wB P w K mg Ë x ps Ĝ sp:=by
 let{f,g,F,e,h}:=d;show{f,g,e,F.kp,h,ϵ S c (a f)}
#print a
section
variable{X:Cx}{x:È}{p pos:Pos}{e:Õ}{es:Á Õ}{t:TA}{ps:Á È}{j k:Ã}{sp:Sp}{v:V}{T:Åa}
nonrec def yg:Õ->Ð
 |.Starred ..=>Â|_=>Æ
def uv{e:Õ}{es:Á Õ}{env:Env}(h:yg e=Æ):ža ē env=(Â,ý e env)::ža es env:=by cases e<;>first|rfl|cases h
theorem Z3{env:Env}{pos:Pos}:∀{es:Á Õ},es.all yg=Æ->(ϖk).any (·.1)=Â
 | [],_=>rfl|e::es,h=>by rw[Ś,Ğ]at h;rw[uv h.1];let a:=Z3 (env:=env) (pos:=pos) h.2;unfold ϻb at a ⊢;rw[Ň,Ϛc,a];rfl
def YD{a:TE}(b:PE X e a)(c:PA X es t)(h:Î ϊ q11):PA X ē (Vv a t):=eE b c (uv h)
def GZ(h:wB ô X.w X.K ñ ŏ x ps k sp)(d:yj j X.A)(l:Gl X x)(g:PA X ē t)(hk:Î Īb q7)(c:Î Ĭ q7)(a:Î ăa q11):PE X ŕa ŧl:=by let{f,n,i,m,b,F}:=h;rw[ϕo];show y2o F În l i m b .nil YE g c Õd Úd
def YF(h:xU ñ x v)(c:Gl X x)(b:Î Ĭ q7):PE X îa Ùe:=by let{u,a,r}:=h;show y2x c a r b
def y2n(d:Gl X x)(b:ñ x=Ä)(hv:Ţ x=À Ób)(c:Î ϑa q7)(a:Î Ĭ q7):PE X îa ōm:=
 y2l d b hv rfl c a
#print a
section
variable{X:Cx}
def LD:yP X (ŀa .FloorDiv) ķj:=Xa λi j _ _ _ _ _ a q=>by let b:(0:Å)<j:=a.1;let c:j<2 ^ 64:=a.2;let d:j.natAbs.log2<64:=(œg).mpr Ê;show PyProof.Rows.floordiv_int Ê (by rw[ϕj i Ê];show q) (.inl (PyProof.noPylong_of_log2 Ê))
#print a
def vS:Ţ "len"=À ŧe:=by rw[ÿo]
def rT:Ţ óc=À Ϧg:=by rw[ÿo]
def rW:Ţ "sum"=À Īl:=by rw[ÿo]
def Iu:Ţ "all"=À īl:=by rw[ÿo]
def rV:Ţ ųa=À Èm:=by rw[ÿo]
def Fk:Ţ ϲa=À Ĝa:=by rw[ÿo]
def aq:Ţ Æe=À śa:=by rw[ÿo]
def V2:Ţ ãb=À ěa:=by rw[ÿo]
def Ir:Ţ Ġ=À ña:=by rw[ÿo]
def V3:Ţ ō=À ła:=by rw[ÿo]
def z4q{K:Ñ}:œ K Ĝa Ĝa=À Æ:=by rfl
def z4o{K:Ñ}:œ K śa Ĝa=À Æ:=by kernel_rfl
def z4p{K:Ñ}:œ K Ĝa śa=À Â:=by kernel_rfl
def z4n{K:Ñ}:œ K śa śa=À Æ:=by rfl
def z4s{K:Ñ}:œ K Ŷc Ĝa=À Â:=by kernel_rfl
def z4r{K:Ñ}:œ K Ŷc śa=À Â:=by kernel_rfl
def z4u{K:Ñ}:œ K ła ła=À Æ:=by rfl
def z4t{K:Ñ}:œ K ěa ěa=À Æ:=by rfl
def we{H:Hp}{p:Ì}(h:H p=Ä)(o:HO):zt H ďc:=λb u q=>by rw[zy (t_ q h)];show q
def įa{n:Ã}(h:n<=1000):n<=â:=ϯ (y8i h)
def ZS(env:Env):Á ϡa->Ç
 | []=>Įb|p::r=>řg p.1=À p.2/\ZS env r
theorem ZS.get{env:Env}:∀{cl:Á ϡa} {y:È} {c:Ì},ZS env cl->éf y=À c->řg y=À c
 | [],_,_,_,h=>by cases h|(n,a)::r,y,c,hc,h=>by
  rw[Ĩd]at h;cases e:y==n with
  |Æ=>
   rw[e]at h;let b:y=n:=by rw[ϒo]
   subst b;let d:a=c:=by rw[ϑo]
   subst d;show hc.1
  |Â=>rw[e]at h;show ZS.get hc.2 Âb
nonrec def W_(a:Ùa)(env:Env)(b:Á ϡa)(own:Á È):Ð:=
 Ďh λp=>p.1 != ("." : È)&&((p.2 == .local&&(ϔe p.1||p.1==(".0" : È)))||p.2 == .globalImplicit||p.2 == .globalExplicit ||
  (p.2 == .free&&(Ďc p.1==À .cell||Ďc p.1==À .free)&&(b.lookup p.1).isSome))
nonrec def Ŧb(own:Á È)(y:È):È:=if ϔe y||y==(".0" : È)then "." else y
def xJ(N own:Á È):Á È:=N.map (Ŧb own)++own
theorem HL{env:Env}:∀{Żf:Á (È×ϥb)} {y:È} {k:ϥb},
  (names.map λ(n,k)=>if(k==Ým&&żl == .function&&Ďc n==À .cell)then(n,Þm)else(n,k)).lookup y=À k->∃k0,(y,k0)∈Żf/\(k=k0\/(k0=.free/\k=.cell))
 | [],_,_,h=>by simp at h|(n,k')::r,y,k,h=>by
  rw[Ň]at h;by_cases hc:(k'==Ým&&żl == .function&&Ďc n==À .cell)=Æ;dsimp only at h;rw[Ò hc,Ĩd]at h;cases e:y==n with
  |Æ=>
   rw[Çp]
   subst a;let b:Þm=k:=by rw[ϑo]
   let c:k'=.free:=by rw[Ğ,Ğ]at hc;simpa using hc.1.1
   show{k',ī,.inr {c,şi}}
  |Â=>rw[e]at h;let{k0,m,z}:=HL (env:=env) Âb;show{k0,Ça _ m,z}
  dsimp only at h;rw[Ó hc,Ĩd]at h;cases e:y==n with
  |Æ=>
   rw[Çp]
   subst a;let b:k'=k:=by rw[ϑo]
   show{k',ī,.inl şi}
  |Â=>rw[e]at h;let{k0,m,z}:=HL (env:=env) Âb;show{k0,Ça _ m,z}
def wO(X:Cx)(a:Ùa)(c:Á ϡa)(own:Á È)(C:Ì)(d:Ï)(e:Hp)(b:Á Ì)(pn:Á ð):Cx:=
 { X with N:=xJ X.N own,s₀:=d,H₀:=e,env:=compEnvC a c C Ö,Ā:=Ĩa,stack:=Ĩa,ex:=b,fn:=λ_=>Â,pn:=pn,xe:=λ_ _=>õ }
section
variable{X:Cx}{z6:Á ð}{σ:St}{H2:Hp}{s2:Ï}{Ŀ:Ùa}{cl:Á ϡa}{own:Á È}{C D:Ì}{fp:Á Ì}
def ah(g:W_ Ŀ Ö cl own=Æ){y:È}{k:ϥb}(h:(ģd).names.lookup y=À k) :y ≠ "."/\((k=.local->ϔe y=Æ\/y = ".0")/\((k=.cell\/k=.free)->(∃k0,(y,k0)∈ϥc/\k0=.cell)\/(Ķj/\∃c,éf y=À c))):=by
 let{k0,m,z}:=HL h;let q:=ϐa g _ m;rw[Ğ]at q;let{f,e}:=q;refine{by simpa using f,λa=>?_,λa=>?_};rcases z with z|⟨_,z⟩;subst z;subst a;rw[ϒo];rw[z]at a;cases a;let b:k0=.free\/k0=.cell:=by rcases z with z|⟨z,_⟩;subst z;rcases a with a|a;show .inr a;show .inl a;show .inl z
 rcases b with b|b;subst b
 right
 let d:((ôc y==À .cell||ôc y==À .free)&&(éf y).isSome)=Æ:=by rw[ϒo]
 rw[Ğ]at d;show{?_,źj d.2};let:=d.1;rw[ŀl]at this;rcases this with t|t;show .inl ϭk;show .inr ϭk;show .inl {k0,m,b}
def Fj(b:W_ Ŀ Ö cl own=Æ)(a:∀y∈ϥc,y.2≠.cell){y:È}{k:ϥb}(h:(ģd).names.lookup y=À k)(hk:k=.cell\/k=.free) :Ķj/\∃c,éf y=À c:=by rcases(ah b h).2.2 hk with⟨d,m,e⟩|q;show Þ e (a _ m);show q
def aj(I:zE X z6 σ H2 s2)(hk:ĳh=.function)(d:∀y∈ϥc,y.2≠.cell)(f:ZS Ö cl)(j:W_ Ŀ Ö cl own=Æ)(k:ŋe<=C)(g:∀b∈fp,pU X z6 H2 b)(i:∀b∈fp,∃o,ãh b=À o):(Ċj).Ok where
 mod:=Ìi
 kind:=hk
 glob:=I.ok.glob
 blt:=I.ok.blt
 above:=k
 inj:=λx y c l m=>I.ok.inj x y c (ſf l) (ſf m)
 has:=λx a=>by rcases a with a|a;show(Fj j d (show(ģd).names.lookup x=_ from a) ą).2;show(Fj j d (show(ģd).names.lookup x=_ from a) Ŀa).2
 WF:=λx c h=>by cases h
 hd:=Ďa
 Ři:=ϖm
 Uc:=.inl rfl
 UZ:=λb a=>{by let{o,e}:=i b a;show ϓ (Ŧ Ϝb k),λx c h=>ķi.2.2.2.2.1 x c (ſf h)}
 bs:=I.bs
 gB:=ģ Ŀf I.sz
 WI:=λb o e a=>by rcases(g b a).2.2.2.1 with z|z;show I.ok.WI b o e z;show Þ (Ŧ Ϝb (ģ Ŀf z)) Ϭ
 WG:=λb a n=>by rcases Ī (I.Ud b n)with z|z;show ķi.2.1 z;show ķi.2.2.1 z
 qm:=I.stack
 ZL:=I.SH
def OM{α:Type}{σ:Á (É α)}{n i:Ã}{v:α}(h:źg[i]?=À Ϥ):σ[i]?=À Ϥ:=by
 by_cases hi:i<σ.length;rw[ϊa hi]at h;show h;rw[Ķb Ê,ög]at h
 split at h<;>cases h
def rQ{H:Heap}{m0:È->É Value}{f:Obj}{tk:Ã}(I:zE X z6 σ H2 s2)(hk:ĳh=.function)(j:∀y∈ϥc,y.2≠.cell)(g:ZS Ö cl)(Q:W_ Ŀ Ö cl own=Æ)(Y:ŋe<=C)(hD:ŋe<=D)(L:D≠C)(J:∀b∈fp,pU X z6 H2 b)(R:∀b∈fp,∃o,ãh b=À o)(ć:∀b o,ãh b=À o->H.get? b=À o)(ns:H.Ns C m0)(hd:H.get? D=À f)(K:∀v,f.data≠.cell v) :zE Ċj [(D,f)] Žc H2 { s2 with é:=H,Ċ:=tk }:=by
 let U:∀a,ŋe<=a->a ∉ p7 Ĩa:=λa ha P=>by rcases Ī (I.Ud a P)with z|z;show Þ (Ŧ I.lt ha) (by rw[z];show Ĳb _);show I.S3 ha z
 show{aj I hk j g Q Y J R,rfl,ůa,ϰd ć,{m0,ns,λi y v e1 e2 e3=>?_},λx c h=>?_,þb Y,λx c h=>İb x c (žf h),λp hp=>?_,ůn ć,?_};let A:σ[i]?=À Ϥ:=OM e2
 let hi:i<ú:=by let:=(Ŭ A).1;rw[çb]at this;rw[đo]
 let q:ϭj[i]?=À y:=e1;rw[ϊa (by simpa using hi),ſ]at q;cases en:X.N[i]? with
 |Ä=>rw[en]at q;cases q|À n=>
  rw[en]at q;let B:Ŧb own n=y:=ća q
  let S:∃k,(ģd).names.lookup y=À k/\(k=.local\/k=.cell\/k=.free):=by rcases e3 with z|z|z;show{_,z,.inl rfl};show{_,z,.inr ą};show{_,z,.inr Ŀa}
  let{k,G,kk}:=S;let{nd,O,_}:=ah Q G;unfold Ŧb at B;by_cases F:(ϔe n||n==(".0" : È))=Æ;rw[Ò F]at B;show Þ B.symm nd;rw[Ó F]at B;subst B
  let E:k=.cell\/k=.free:=by
   rcases kk with z|z;exfalso
   apply F;rcases O z with t|t;rw[t];rfl;subst t;simp;show z
  let{ok,c,Z}:=Fj Q j G E;let{m,hn,hl}:=ça;let{u,r,l}:=hl i n v en A (.inr ok);show{u,r,.inr {?_,c,Z,?_}};rcases E with z|z;subst z;show .inl G;subst z;show .inr G;rcases l with⟨z,_⟩|⟨_,c',w,z⟩;rcases ok with t|t<;>(rw[t]at z;cases z);rw[žf Z]at w;cases w;let{o,T,s}:=z;show{o,ć _ _ T,s}
 let{v,o,F,s}:=Ĭa x c (žf h);show{v,o,ć _ _ F,s};rcases Ăa hp with z|z;let{e,n,ne,nf,d}:=İa p z;show{ć _ _ e,n,ϓ (Ŧ Ϝb Y),λP=>?_,d};rcases Ī (I.Ud p.1 P)with t|t;show ne t;show nf t;let e:p=(D,f):=by simpa using z
 subst e;show{hd,þb hD,L,U D hD,K};exact(Žc).length=(ϭj).length;rw[í,í,ðb,ì,çb]
#print a
def Yy(X:Cx)(a:Á Õ)(b:TT):Ç:=
 ∀(z6:Á ð) (s:Ï) (σ:St) (H:Hp) (Q:Ð->Hp->Ç),zE X z6 σ H s->b σ H Q->
  Û ÿ X.A (âb a Æ λc r=>if r=Æ then do let ok <-íd c Ö (ý c Ö);pure (Ğd ok)else pure (Ğd r)) ϣg ġ s
nonrec def x07:TT:=λ_ H Q=>Q Æ H
def y4c{X:Cx}:Yy X [] x07:=λ_ _ _ H _ I h=>wpAny_tests_nil {H,I,h}
def y4d{X:Cx}{c:Õ}{t:TT}(h:PT X c t):Yy X [c] t:=λa s σ H Q I q=>wpAny_tests_one (h a s σ H Q I q)
section
variable{Ē:ë}{w:å}{A:û}{R:ľc->Ï->Ç}{s:Ï}
def z56{g tg b:Õ}{d:Á Õ}{a:Ùa}{pos:Pos}{it f:Value}{env:Env}(J:Ã->Ï->Ç)(j:∀n s,J n s->Û è A (Ķf it) (λr s₁=>match r with
   |Ä=>R Ûn s₁|À v=>Û è A (ĺe tg it v) (λ_ z=>Û è A (Àc tg env v) (λ_ s₂=>
    Û è A (âb d Æ λc r=>if r=Æ then do let ok <-íd c env (ý c env);pure (Ğd ok)else pure (Ğd r)) (λok s₃=>
     if ok=Æ then Û è A (ý g env) (λx s₄=>Û è A (źa (.builtin Êm) [f,x]) (λ_ s₅=>∃m,m<n/\J m s₅) ϋb s₄) ϋb s₃
     else ∃m,m<n/\J m s₃) ϋb s₂) ϋb z) ϋb s₁) ϋb s)
  (n:Ã)(h:J n s):ϫa è A (.compLoop ŉj 0 it f env) R s:=by
 let i:∀{P:Value->Ï->Ç},∀e s',(λ_ _=>õ:Value->Ï->Ç) e s'->P e s':=λ_ _ z=>Ť
 show codeAny_loop rfl J (λn s u=>?_) n h;exact Û _ A (Sem.onRaise (compTurn ŉj 0 it f env) (λx=>do noteFrame x env;theTreesLotGoes x)) _ _ s;show wpAny_noted ?_;rw[compTurn_list];show Ô (Ļe (Ô (êa (j n s u) (λr s₁ l=>?_) i)));cases r with
 |Ä=>show č l|À v=>
  show Ô (êa l (λ_ z o=>?_) i);show Ô (êa o (λ_ s₂ p=>?_) i);show Ô (êa p (λok s₃ k=>?_) i);cases ok with
  |Â=>show č {rfl,k}|Æ=>
   show Ô (Ô (êa k (λx s₄ t=>?_) i));show Ô (êa t (λ_ s₅ q=>č (č {rfl,q})) i)
#print a
abbrev vi(its:Á Value)(k:Ã):Obj:={ cls:=.type Ġ,ă:=.seq Ϫ k }
def dJ{its:Á Value}{k:Ã}:∀v,(ĕn).data≠.cell v:=λ_ z=>nomatch z
section
variable{X:Cx}{σ:St}{H:Hp}{s:Ï}{D:Ì}
def z3y{pl:Á ð}{its ϸa:Á Value}{k g tk:Ã}{h':Heap}(I:zE X ((D,vi its k)::pl) σ H s)(y:Ŭb<=D)(f:∀p∈Ũb,p.1≠D)(r:Éb D ß h')(m:Ė D=À (vi ϸa g)):zE X [(D,vi ϸa g)] σ H { s with é:=h',Ċ:=tk }:=by
 let{e,n,h,A,d}:=İa (D,vi its k) Ϫm;let l:zE X [] σ H s:=I.Ub λp a=>Þ a ï
 let j:zE X [] σ H { s with é:=h',Ċ:=tk }:=l.turned (it:=D) (λb o t q=>(r.2 b t).trans q) n h (.inr y) (λx c w z=>by subst z;let{v,o,i,u}:=Ĭa x c w;rw[show Ă c=À ĕn from e]at i;cases i;show d v u) (λp a=>f p Ļg)
 show j.Ub λp a=>by
  let q:p=(D,vi ϸa g):=by simpa using a
  subst q;show{m,n,h,A,dJ}
#print a
section
variable{X:Cx}{tg ū elt:Õ}{ifs:Á Õ}{Ŀ:Ùa}{cl:Á ϡa}{own:Á È}{pos:Pos}{te:TE}{tc:TT}{g:TG}{wi:TI}
def x5a{fs ex:Á Ì}{H H':Hp}{h h':Heap}{D:Ì}{o:HO}(u:Un fs ex H H' h h')(i:ϙa<=D)(d:H' D=Ä):Un fs ex H ϳm h h' where
 ć:=Çe
 slot:=Ŝf
 free:=λb c q n f=>by rw[zy (λz=>by subst z;show Þ (Ŧ ϻd i) Ϭ)];show ŝf b c q n f
 Ÿf:=ĵf
 uP:=λb e q=>by rw[zy Ţk];show u.uP b e q
 uc:=λb c v q=>by rw[zy Ĕk];show u.uc b c v q
 qM:=λb g q=>by rw[ŉo]
def cW{P:ë}{w:å}{H:Hp}{h:Heap}{D:Ì}{o:HO}(x:xg P w H h)(d:H D=Ä)(a:yz P w Ċn h D o):xg P w Ċn h:=λb u e=>by by_cases hb:b=D;subst hb;rw[yS]at e;cases e;show a;rw[zy hb]at e;show(Ϧh).ZM (λc v _ q=>q) (λc q=>?_) (λc f q=>?_);rw[zy (t_ q d)];show q;rw[zy (t_ q d)];show q
structure ZR(X:Cx)(Ŀ:Ùa)(cl:Á ϡa)(own:Á È):Ç where
 kind:ĳh=.function
 cell:∀y∈ϥc,y.2≠.cell
 Jv:ZS Ö cl
 ok:W_ Ŀ Ö cl own=Æ
 Jw:ën Ŀ Ö=pure cl
 Żf:∀y∈ϥc,y.2=.local->scope.names.lookup y.1=À .local
structure IP(X:Cx)(z6:Á ð)(H:Hp)(s:Ï)(C:Ì):Ç where
 free:H C=Ä
 ne:C≠Ϝ
 old:Ŭb<=C
 cell:∀x c,āa x=À c->c≠C
 pin:∀p∈Ũb++z6,p.1≠C
def Op(σ:St)(n:Ã)(J:It)(g:TG)(tc:TT)(te:TE)(W:Ã->Ã->Á V->Hp->Ç)(a:Á V->Hp->Ç):Ç:=
 ∀i m ys H,W i m ys H->(ŧf i H/\a ys H)\/(J.go i H/\ϰ<â/\∃N:Á V->Hp->Ç,(∀ys' H',N ys' H'->∃m',m'<m/\W ù m' ys' H')/\
  ∀x H',J.u5 i H x H'->g x źg H' λσ2 d=>(∃τ,σ2=σ++τ)/\tc σ2 d λc b=>if c=Æ then te σ2 b λy e=>N ϯn e else N ys b)
def ak{z6:Á ð}{σ:St}{Z:Hp}{t:Ï}{l:Á Ì}{it:Ì}{tn:Ã->Heap->Ç}{J:It}{W:Ã->Ã->Á V->Hp->Ç}{Fin:Á V->Hp->Ç}{m0:Ã}{RR:Value->Ì->ľc->Ï->Ç}(S:Ż=Æ)(B:ZR X Ŀ cl own)(I:zE X z6 σ Z t)(T:jj ô X.w X.K tg J l it tn)(t0:tn 0 t.heap)(G:∀b∈l,pU X z6 Z b)(hg:∀C s H l pn,PG Ög tg g)(hc:∀C s H l pn,Yy Ög ifs tc)(he:∀C s H l pn,PE Ög elt te)(W0:W 0 m0 [] Z)(turn:Op σ ôb J g tc te W Fin)(hRR:∀D C s' H' ys m',zE X z6 σ ām s'->H' D=Ä->Fin ys H'->s'.heap.Ns C m'->IP X z6 ām s' C->RR ñi C Ûn s'){E:Value->Ï->Ç} :Û ÿ X.A őm (λacc s3=>Û ÿ X.A (newFunctionEnv Ŀ ϻg cl [] X.env.qual Ä .none (À Ö)) (λcenv s4=>
   ϫa ÿ X.A (.compStart Ϲa 0 Ϝa acc { cenv with Ŀ:=relabel Ŀ Ö }) (RR acc cenv.locals) s4) E s3) E t:=by
 refine Öc (wpAny_newFunctionEnv ŭi (by intro y hy;simp at hy) (λh4 hns Q=>?_) Òe);dsimp only at hns Q ⊢;generalize hP:t.heap.push Ϻn=P2 at hns Q ⊢;have hC:ϗe=ïc+1:=by rw[<-hP,āb]
 let P:ïc≠ϗe:=by rw[hC];show ϓ Ϻd
 let f:ïc<=ϗe:=by rw[hC];show İd _
 let ć:∀b o,Ųm b=À o->h4.get? b=À o:=λb o e=>
  Q.extBut b o (ϓ ϫm) (ĝ _ (hP▸ĝ _ e))
 let hd4:h4.get? ïc=À Ϻn:=Q.extBut _ _ P (ĝ _ (hP▸Ř _ rfl));let hfo:∀b∈l,∃o,Ųm b=À o:=λb d=>let ⟨o,e,_⟩:=èe 0 _ t0 b d;{o,e}
 let lt:∀b∈l,b<ïc:=λb d=>let ⟨o,e⟩:=hfo b d;Ĥ e
 generalize hDD:ïc=D at P hd4 ⊢;generalize hCC:ϗe=C at P hns Q f ⊢;let F:ïc<=D:=ŀb hDD
 let +zeta X':=wO X Ŀ cl own C t Z l (Ũb++z6)
 let hpn:∀p∈X'.pn,p.1≠D:=λp hp z=>by let{e,_}:=İa p hp;rw[z]at e;show Þ (Ŧ Ϝb F) Ϭ
 let okb:=aj I Òe ŭi B.Jv B.ok f G hfo
 let U:∀{k:Ã}{a:Á Value}{H':Hp},(∀b∈l,H' b=Ä)->∀b∈l,pU X' ϟe H' b:=λ{k a H'} hn b d=>
  ⟨hn b d,Őm.1,okb.WG b d,.inl d,Őm.2,λp hp=>by
   rcases Ăa hp with z|z;show éd.2.2.2.2.2 p z;let q:p=(D,vi a k):=by simpa using z
   subst q;show λz=>Þ (lt b d) (by rw[<-z];show ϔc F)⟩
 have loop:∀s4:Ï,s4={ t with é:=h4,Ċ:=t.toks+([]:Á ćb).length }->
   ϫa ÿ X.A (.compLoop Ϲa 0 Ϝa ñi (compEnvC Ŀ cl C Ö)) (RR ñi C) s4:=by
  rintro s4 rfl
  show z56 (λn s'=>∃(i:Ã) (ys:Á V) (a:Á Value) (k:Ã) (H':Hp),zE X' ϟe Žc H' s'/\zm ys a/\tn i ıc/\(∀b∈l,H' b=Ä)/\W i n ys H'/\ϰ<=â) ?_ m0
   {0,[],[],0,Z,rQ I Òe ŭi B.Jv B.ok f F P G hfo ć hns hd4 dJ,.nil,Ñe _ _ _ t0 λb _ o e=>ć b o e,λb d=>éd.1,W0,Ĉa _}
  rintro n s5 ⟨i,ys,a,k,H5,I5,v5,st5,fr5,w5,z5⟩;rcases turn i n ys H5 w5 with⟨ēa,fin⟩|⟨go,room,N,hN,step⟩
  .show êa (T.done X' rfl rfl rfl S i _ s5 _ H5 ϋb I5 (U fr5) st5 ēa) (λr s6 ⟨hr,I6⟩=>?_) λ_ _ z=>z
   subst hr;let{e6,n6,ne6,nf6,d6}:=I6.pin (D,vi a k) Ϫm;let{m6,ns6,_}:=I6.loc;let u6:Un ái l Z Éh t.heap s6.heap:=x5a I6.base F n6;let new6:yz ô X.w Éh s6.heap D Ąc:={z5,a,k,v5,e6};let I7:zE X z6 σ Éh s6:=I.BR I6.os u6 (cW I6.zb n6 new6) I6.bare (λb d=>{éd.2.2.2.1,éd.2.1,éd.2.2.2.2.1,éd.2.2.2.2.2});show hRR D C s6 H5 ys m6 I7 n6 fin ns6 {?_,?_,?_,λx c hcx z=>?_,λp hp z=>?_}
   .rw[zy (Ùb P)];show I6.free
   .show λz=>Þ I.lt (by rw[<-z];show ϔc f)
   .show ģ I.sz f
   .subst z;let{v,o,ho,_}:=Ĭa x c hcx;show Þ (Ŧ (Ĥ ho) f) Ϭ
   .let{e,_}:=İa p hp;rw[z]at e;show Þ ϫm Ϭ
  .show êa (T.item X' rfl rfl rfl S i _ s5 _ H5 ϋb I5 (U fr5) st5 go) (λr s6 ⟨u,hr,h6⟩=>?_) λ_ _ z=>z
   subst hr;show êa h6 (λ_ s7 ⟨x,H7,I7,r7,y7,st7,fr7⟩=>?_) λ_ _ z=>z
   let I7':=I7.pinned (U fr7) (èe _ _ st7);show êa (hg C t Z l _ _ s7 _ H7 x u _ I7' r7 (step x H7 y7)) (λ_ s8 ⟨σ8,H8,I8,⟨τ,hτ⟩,q8⟩=>?_) λ_ _ z=>z
   subst hτ
   have back:∀{n':Ã}{R:Á V}{m:Á Value}{k':Ã}{O:Hp}{L:Ï}{pl:Á ð},zE X' ((D,vi m k')::pl) Ói O L->zm R m->tn ù ŧi->(∀b∈l,O b=Ä)->W ù n' R O->Ĥc<=â->
     ∃(i:Ã) (ys:Á V) (a:Á Value) (k:Ã) (H':Hp),zE X' ϟe Žc H' L/\zm ys a/\tn i ŧi/\(∀b∈l,H' b=Ä)/\W i n' ys H'/\ϰ<=â:=λ{n' R m k' O L pl} Y v9 st9 fr9 w9 z9=>by
    let I9':zE X' [(D,vi m k')] Ói O L:=Y.Ub λp hp=>Y.pin p (Ĳa _ (by
     let q:p=(D,vi m k'):=by simpa using hp
     subst q;show ī))
    show{i+1,R,m,k',O,I9'.weak ?_ (λj v e=>?_),v9,st9,fr9,w9,z9}
    .rw[I9'.len,<-I5.len]
    .let e':=OM e;rw[ϊa (Ŭ e').1];show e'
   let h:∀{σ9:St}{O:Hp}{L:Ï},zE X' (ϟe++Qi l s7.heap) σ9 O L->tn ù ŧi/\∀b∈l,O b=Ä:=λ{σ9 O L} Y=>
    {Ñe _ _ _ st7 λb d o e=>Ěj.1,λb d=>by let{o,e,_}:=èe _ _ st7 b d;show Ěj.2.1}
   show êa (hc C t Z l _ _ s8 _ H8 _ I8 q8) (λc L ⟨O,Y,q9⟩=>?_) λ_ _ z=>z
   cases c with
   |Â=>
    rw[Ó ņ]at q9 ⊢;let{m',hm,w9}:=hN _ _ q9;show{m',hm,back Y v5 (h Y).1 (h Y).2 w9 z5}
   |Æ=>
    rw[Ò rfl]at q9 ⊢;show êa (he C t Z l _ _ L _ O _ Y q9) (λyv sa ⟨y,Ha,Ia,ra,qa⟩=>?_) λ_ _ z=>z
    let{m',hm,wa}:=hN _ _ qa;let{ea,na,_}:=Ia.pin (D,vi a k) (Ĳa _ (ãc _ ī))
    let szi:ýc<=â:=by let:=v5.length;simp only[ė];omega
    show wpAny_list_append_plain (hsz:=szi) {k,ea} λd hlb hsb'=>?_
    let{kb,eb}:=hlb;let eb':d.get? D=À (vi Öo kb):=by rw[eb];simp
    let Ib:zE X' [(D,vi Öo kb)] Ói Ha { sa with é:=d,Ċ:=sa.toks }:=z3y (tk:=sa.toks) Ia F hpn hsb' eb';let stb:tn ù d:=Ñe _ _ _ (h Ia).1 λb hbf o e=>(hsb'.2 b (λz=>Þ (lt b hbf) (by rw[z];show ϔc F))).trans e
    show{m',hm,back Ib (âf v5 (.cons ra .nil)) stb (h Ia).2 wa (by rw[í];show room)}
 show codeAny_compStart_list Œm (T.self X.A 0 _ _ _ (Ñe _ _ _ t0 λb _ o e=>ć b o e) Œm)
def y9l(n:Ã)(wi:TI)(g:TG)(tc:TT)(te:TE):TE:=λσ H Q=>wi σ H λJ b=>∃W:Ã->Ã->Á V->Hp->Ç,(∃m,W 0 m [] b)/\
 Op σ n J g tc te W λc a=>∀p,a p=Ä->Q Ů æl
def IP.inv{a:Á ð}{σ:St}{H:Hp}{s:Ï}{C:Ì}{h':Heap}(o:IP X a H s C)(I:zE X a σ H s)(c:Éb C ß h'):zE X a σ H { s with é:=h' }:=
 Ŋa (it:=C) (t':=Ć) (λb u d q=>(c.2 b d).trans q) o.free o.ne (.inr o.old) o.cell o.pin
def eM(a:Ż=Æ)(B:ZR X Ŀ cl own)(hi:PI X tg ū wi)(q:∀C s H fp pn,PG Ϯ tg g)(o:∀C s H fp pn,Yy Ϯ ifs tc)(t:∀C s H fp pn,PE Ϯ elt te)(n:Î (∀x,úb ū Ö x=pure x) q10) :PE X Ϲa (y9l ôb wi g tc te):=by rw[ũo];rw[eval_ListComp];show Śj (use:=Ä) rfl n B.Jw Òe B.names (zi (hi l s σ H _ I h) λv Y L=>zi L λr U p=>?_);let{O,fp,S,J,Z,e,m,T,c,K,W,{N,G},b}:=p;subst e;show ak (RR:=λd C=>compPost ÿ X.A ġ Ä (EP X l σ Q) d C) a B m T c K q o t G b ?_;intro D C R y E z F u j k i;show{z,k,λP f=>{.ref D,zT y D (.lst E),i.inv F f,rfl,j D u}}
def x01(i n:Ã)(wi:TI)(g:TG)(tc:TT)(te:TE):TS:=λD σ H=>wi σ H λJ b=>∃W:Ã->Ã->Á V->Hp->Ç,(∃m,W 0 m [] b)/\
 Op σ n J g tc te W λc a=>∀p,a p=Ä->œa Ϛn æl
def f6{i:Ã}{x:È}{f c:Pos}(d:Ż=Æ)(K:Ĥa)(r:X.N[i]?=À x)(F:ĉd x=À .local)(B:ZR X Ŀ cl own)(o:ϊb Ϲa (À Ģh) c.line Ö=pure Æ)(hi:PI X tg ū wi)(Y:∀C s H fp pn,PG Ϯ tg g)(S:∀C s H fp pn,Yy Ϯ ifs tc)(he:∀C s H fp pn,PE Ϯ elt te)(O:Î (∀x,úb ū Ö x=pure x) q10) :PS X (.Assign [.Name x f] Ϲa c) (x01 i ôb wi g tc te):=by
 intro p s σ H D I h;rw[exec_Assign_Name_used _ _ _ _ o];show Ô (Ļe (Ô ?_));exact Û _ X.A (do let _ <-comprehension Ϲa Ŀ Ö _ őm Â (ý ū Ö) Ϭn) _ _ s
 refine Ô (zi (Śj (use:=À åj) (Q:=λ_ j=>SP X p D .next j) rfl O B.Jw Òe B.names
  (zi (hi p s σ H _ I h) λv s1 h1=>zi h1 λZ s2 U=>?_)) λ_ j hq=>č (č hq))
 let{it,fp,tn,J,H2,e,G,T,l,f2,W,{m0,w0},k}:=U;subst e;show ak (RR:=λn C=>compPost ÿ X.A ġ Ϭn (λ_ j=>SP X p D .next j) n C) d B G T l f2 Y S he w0 k ?_;intro L C j H' ys m' I' n' t u b;exact Û _ X.A (Àc Ģh Ö (.ref L)) _ _ j;show Ål (lF I' K r (.inl F) (v:=.ref L) rfl (λs3 P R=>?_) (.inr F));let{a,m,ha}:=R
 let E:C≠a:=by rcases ha with z|z;rw[z];show b.ne;show λy=>b.cell x a z y.symm
 show{m',u.sameBut m E,λh' q=>?_};show{_,_,IP.inv (H:=zT H' L Ąc) {b.free,b.ne,b.old,b.cell,b.pin} P q,t L n'}
#print a
structure QE(X:Cx)(e:Õ)(t:TE):Ç where
 h:PE X e t
structure QA(X:Cx)(es:Á Õ)(t:TA):Ç where
 h:PA X es t
structure QS(X:Cx)(st:Ø)(t:TS):Ç where
 h:PS X st t
structure QG(X:Cx)(e:Õ)(t:TG):Ç where
 h:PG X e t
structure IS(X:Cx)(es:Á Õ)(t:gK):Ç where
 h:TB X es t
structure QI(X:Cx)(tg e:Õ)(t:TI):Ç where
 h:PI X tg e t
section
variable{X:Cx}{x:È}{p pos èa š Ž:Pos}{e a b c o:Õ}{es:Á Õ}{te to:TE}{t:TA}{r:R2}{v:V}{T id:Åa}{j k i:Ã}
def qv(i:Ã){x:È}{pos:Pos}(c:Î Ķd q11)(hv:Î ŧd q13)(b:Î Ĭ q7)(a:Î ìb q7):QE X îa áe:={Xd c hv b a}
def y4t(h:xU ñ x v)(b:Gl X x)(a:Î Ĭ q7):QE X îa Ùe:={YF h b a}
def y4s(d:Gl X x)(b:ñ x=Ä)(hv:Ţ x=À Ób)(c:Î ϑa q7)(a:Î Ĭ q7):QE X îa ōm:={y2n d b hv c a}
nonrec def Gb:Õ->Ð
 |.Name ..=>Æ|.Call ..=>Æ|.Subscript ..=>Æ|.Attribute ..=>Æ|.Constant ..=>Æ|.List ..=>Æ|.Tuple ..=>Æ|.BinOp ..=>Æ|_=>Â
def eT{e:Õ}{env:Env}(h:Gb e=Æ):∀Äc,íd e env Äc=(do let v <-Äc;standAt e.pos;holding [v] ęn):=by cases e<;>first|(intro _;rfl)|cases h
def fO:QA X [] Z5:={Xb}
def Gx(a:QE X e te)(b:QA X es t)(h:Î ϊ q11):QA X ē Ϭh:={YD a.h b.h h}
nonrec def Vd:Õ->Ð
 |.Name ..=>Æ|.Constant ..=>Æ|.BinOp ..=>Æ|.Call ..=>Æ|.UnaryOp ..=>Æ|.Subscript ..=>Æ|.Attribute ..=>Æ|_=>Â
def LG{b:Õ}(h:Vd b=Æ):IR b:=by cases b<;>first|(intro _ _;rfl)|cases h
def Qr{r:Á V->Hp->VK->Ç}(g:wM X Ćb r)(i:Gl X x)(d:ñ x=Ä)(hv:Ţ x=À Ćb)(c:QA X ē t)(f:Î ϑa q7)(b:Î Ĭ q7)(a:Î ăa q11):QE X ŕa Ĥf:=by rw[ϕo];show{y2p g i d hv c.h f b Õd Úd}
def Xh{r:Á V->Hp->VK->Ç}(g:wM X Ób r)(i:Gl X x)(d:ñ x=Ä)(hv:Ţ x=À Ób)(c:QA X ē t)(f:Î ϑa q7)(b:Î Ĭ q7)(a:Î ăa q11):QE X ŕa Ĥf:=by rw[ϕo];show{y2r g i d hv c.h f b Õd Úd}
variable{g:TG}
nonrec def VY:Õ->Ð
 |.ListComp ..=>Â|.SetComp ..=>Â|.DictComp ..=>Â|_=>Æ
def dh{e:Õ}{a:É Õ}{n:Ã}{env:Env}(h:VY e=Æ):ϊb e a n env=pure Â:=by cases e<;>first|rfl|cases h
def fP(b:QE X e te)(a:Î Ũd q11):QS X Ôh (lO te):={eh b.h (dh a)}
def Gy{i:Ã}{x:È}{èa:Pos}(f:Ĥa)(hi:X.N[i]?=À x)(d:pV ϸ x)(b:QE X e te)(a:Î Ũd q11)(c:Î ża q3) :QS X će (Nr te Ńc):={y49 f hi d b.h (dh a) c}
def yO{i:Ã}{x:È}(b:Ĥa)(hi:X.N[i]?=À x)(a:pV ϸ x)(c:Î ża q3):QG X îa Ńc:={y3e b hi a c}
def y4u{o i:Õ}{to a:TE}{t:IV}(d:QE X o to)(hi:QE X i a)(b:DR X t)(c:Î (Vd i=Æ) q11):QG X ġg (cA to a t):=by show{y3f d.h Ëc b ?_};cases i<;>first|(intro _;rfl)|cases c
def qZ:IS X [] VA:={y3i}
def wV{t:TG}{u:gK}(b:QG X e t)(c:IS X es u)(a:Î ((òm).map (·.2)=Àc e Ö::(Ďd).map (·.2)) q11):IS X ē (gR t u):={y3h b.h c.h a}
def qY{k:Ã}{t:gK}{n:Ã}(b:Ż=Æ)(h:IS X es t)(c:Î ĭl q11)(a:Î ((Ďd).findIdx? (·.1)=Ä) q11):QG X Ŗg řm:={y3g b h.h c a}
variable{ĵ:È}{rm:V->Á V->Hp->VK->Ç}
theorem lC{env:Env}{pos:Pos}:∀{es:Á Õ},es.all yg=Æ->(ϖk).all Ěh=Æ
 | [],_=>rfl|e::es,h=>by rw[Ś,Ğ]at h;rw[uv h.1];let a:=lC (env:=env) (pos:=pos) h.2;unfold ϻb at a ⊢;rw[Ň,Ś,a];rfl
def Vf(k:ðn T)(c:Slot T ĵ id)(g:Ōi Ćb=pure Ýg)(j:k5 X id rm)(l:QE X o to)(i:QA X ē t)(b:Î ūj q11)(a:Î éa q11)(d:Î ăa q11)(m:Î ((ē).length<30) q7) :QE X õj (lN X.K T rm to t):={by let f:=lC (env:=Ö) (pos:=Ž) d;rw[Ś,Ğ]at d;show y2m k c g j l.h i.h b ?_ a (uv d.1) (Z3 d.2);rw[f];exact(Æ&&Æ&&decide ((ē).length+0+0<30))=Æ;rw[ĉ (show(ē).length+0+0<30 from m)];rfl}
#print a
def SqB(K:Ñ)(H:Hp)(a c:Ì)(xs b:Á V):Ç:=(ye K H a xs/\ye K H c b)\/(yU K H a xs/\yU K H c b)
section
variable{X:Cx}{z6:Á ð}{σ:St}{H:Hp}{s:Ï}
def y5h{A:û}{a c:Ì}{xs f:Á V}{e:Ã->Ð}(I:zE X z6 σ H s)(l:ďa<ų)(T:SqB X.K H a c xs f)(P:∀(j:Ã) x' y' u v,xs[j]?=À x'->f[j]?=À y'->zw x' u->zw y' v->Îb Ŵ s u v (e j)) :ļh A s ŝ ħf ((Şk).all e&&ç==ċa)/\ëh A s ŝ ħf (!((Şk).all e&&ç==ċa)):=by
 let g:∀{C:Á V}{b:Á Value}{j:Ã}(Q:j<Äb),zm C b->∃z,C[j]?=À z/\zw z Ϣa[j]:=λ{C b j} Q r=>by
  let N:=ũ
  let t:j<C.length:=by rw[ė]at Q;omega
  let{u,m,S}:=ŵa (ĳ t);show{_,ĳ t,?_}
  let:Ϣa[j]=u:=by let B:b[j]?=À b[j]:=ĳ Ê;rw[B]at m;simpa using m
  rw[this];show S
 rcases T with⟨O,L⟩|⟨O,L⟩;let{b,n,h,_}:=ώ O;let{k,y,i,_}:=ώ L;let R:=ϣb;let B:=Żb
 let d:∀j (x:j<Äb) (w:j<ĺd),Îb Ŵ s Ϣa[j] šn[j] (e j):=λj x w=>by rw[Ĵo]
 let p:=SeqAt.RcAt.tuples (e:=e) h i l d;let q:=SeqAt.RcNeAt.tuples (e:=e) h i l d;rw[ė,ė,<-R,<-B]at p q;show{p,q};let{b,n,h,_}:=ű O;let{k,y,i,_}:=ű L;let R:=ϣb;let B:=Żb
 let d:∀j (x:j<Äb) (w:j<ĺd),Îb Ŵ s Ϣa[j] šn[j] (e j):=λj x w=>by rw[Ĵo]
 by_cases N:ç=ċa;let o:Äb=ĺd:=by rw[ė,ė];omega
 let p:=SeqAt.RcAt.lists (e:=e) ēf Ēf o l d;let q:=SeqAt.RcNeAt.lists (e:=e) ēf Ēf o l d;let e1:min ç ċa=Äb:=by rw[ė];omega
 let e2:ýn=Æ:=by simp[N]
 rw[e1,e2,Ãh];show{p,q};let o:(Äb != ĺd)=Æ:=by rw[ė,ė];simp;omega
 let e2:ýn=Â:=by simp[N]
 rw[e2,ϐl];show{SeqAt.RcAt.lists_lengths ēf Ēf o l,SeqAt.RcNeAt.lists_lengths ēf Ēf o l}
def OZ(A:û):A.in1.units=ďa+1:=rfl
#print a
def z0w{x:V}(h:p6 x=Æ):qS x x=Æ:=by cases x<;>first|rfl|show ſc _|cases h
open Či (hideAll)
#print L2
namespace L2
open ě ħ Ģ
section
variable{H H':Hp}{a C:Ì}
def n_(a C:Ì)(h:Heap):Ç:=∃o vs,Ě a=À o/\úa=.ref C/\Đa=.fields vs
def x5b{fs ex:Á Ì}{H H':Hp}{h h':Heap}{D:Ì}{o:HO}(u:Un fs ex H H' h h')(i:Ě D=Ä)(d:H' D=Ä):Un fs ex H ϳm h h' where
 ć:=Çe
 slot:=Ŝf
 free:=λb c q n f=>by rw[zy (λz=>by subst z;rw[i]at q;cases q)];show ŝf b c q n f
 Ÿf:=ĵf
 uP:=λb e q=>by rw[zy Ţk];show u.uP b e q
 uc:=λb c v q=>by rw[zy Ĕk];show u.uc b c v q
 qM:=λb g q=>by rw[ŉo]
#print a
section
variable{e:Õ}
def z3t{a:Å}(h:a.natAbs.log2<1920):(ńb (Ϻc a)).length<=1921:=by let e:=int_text_length_le (k:=1920) Í h;rw[PySem.ofString_length];show e
def x3a{a:È}{m:Ã}(h:Ũa<=m)(b:Î (m<=16777216) q7):Ũa<=â:=ģ h (by rw[ŧ];show b)
#print a
section
variable{X:Cx}
def MI{ns:Á Å}{its:Á Value}(r:zm ía its){i:Ã}{v:Value}(h:Ϫ[i]?=À v):∃t,v=.int ϊn t:=by
 let e:i<Íb:=by rw[ũc]at h;show Ōa.1
 let d:ś=Íb:=by let:=ũ;rw[ì]at this;rw[đo]
 let b:ía[i]?=À (Δ ϊn):=by rw[ſ,Èa,ĳ Ê];rfl
 let{u,a,c}:=ŵa b;rw[ũc,a]at h;cases h;show c
theorem Gd{ns:Á Å}:∀(k:Ã),k<=ś->Êe ϝl k=(Ϲe).sum
 |0,_=>by simp[Êe]|k+1,h=>by rw[Êe,Gd k Ê,þe Ê,List.sum_append,Èa,ĳ Ê];exact _+ns[k]=_+(ns[k]+0);rw[įm]
def aF(ns:Á Å):Ç:=(∀n∈ns,Ũf n)/\∀k,k<=ś->Ũf (Ϲe).sum
def f_(K:Ñ):Á V->Hp->VK->Ç:=λa H Q=>∃(p:Ì) (ns:Á Å),a=őb/\(yU K H p ía\/ye K H p ía)/\aF ns/\Q (.int ői) H
def lK{ns:Á Å}(h:aF ns):∀j,j<ś->Ũf (Èf j 0)/\Ũf (Êe ϝl ϒ):=λj a=>by show{h.1 _ ?_,?_};rw[Èa,ĳ a];show ŷb a;rw[Gd _ Ê];show h.2 _ Ê
def sM(B:Ż=Æ):wM X Īl (f_ X.K):=by
 intro G s σ H L J Q I r h;let{p,d,rfl,w,A,q}:=h;let{u,rfl,E}:=wv r;cases E;let y:=Ďa B;let e:Êe (λi=>Îe i 0) Óa=d.sum:=by rw[Gd _ ċ,ħd]
 show call_sum_walk ?_;rcases w with w|w;let{a,j,t,F}:=ű w;let l:Óa=ýc:=by rw[Ĭo]
 let c:p<Ý:=by let{o,n,e,_}:=t;show Ĥ e
 show şc t.isList ?_;refine{_,_,_,_,_,_,λi=>Îe i 0,rfl,Ĺh Ġh Ý p Ōf ϣa,{{_,Ř _ rfl,rfl,rfl},t.isList.push _},?_,λi v x=>MI j x,?_,?_};rw[ħo];rcases m with rfl|rfl;rw[İo]
 show⟨.int d.sum,H,ïd (t':=tk) λb o f=>k b o (λz=>by
  rw[Űo]
  rw[ţo]) ϣh,{_,rfl},q⟩
 let{a,j,t,F}:=ώ w;let l:Óa=ýc:=by rw[Ĭo]
 let g:źb p ϣa:=t;let c:p<Ý:=by let{o,e,_}:=g;show Ĥ e
 show êg g ?_;refine{_,_,_,_,_,_,λi=>Îe i 0,rfl,Walks.tuple Ġh Ý p Ōf ϣa,{{_,Ř _ rfl,rfl,rfl},g.push _},?_,λi v x=>MI j x,?_,?_};rw[ħo];rcases m with rfl|rfl;rw[İo]
 show⟨.int d.sum,H,ïd (t':=tk) λb o f=>k b o (λz=>by
  rw[Űo]
  rw[ţo]) ϣh,{_,rfl},q⟩
def x5e{a:Á Ð}{its:Á Value}(r:zm Řm its){i:Ã}{v:Value}(h:Ϫ[i]?=À v):v=.bool ϵl:=by
 let f:i<Íb:=by rw[ũc]at h;show Ōa.1
 let e:Ũa=Íb:=by let:=ũ;rw[ì]at this;rw[đo]
 let c:Řm[i]?=À (.bl ϵl):=by rw[ſ,Èa,ĳ Ê];rfl
 let{u,b,d}:=ŵa c;rw[ũc,b]at h;cases h;show d
def y5f{d:Á Ð}:(Āa Óa).all (λi=>Îe i Â)=d.all id:=by
 rw[øc,Şg,Şg]
 rw[ύo];intro h b e;let{i,c,rfl}:=Òk e;let:=h i (Ŵc c)
 rwa [Èa,ĳ c]at this;intro h i c;let a:=ûb c;rw[Èa,ĳ a];show h _ (ŷb a)
def fU(K:Ñ):Á V->Hp->VK->Ç:=λa H Q=>∃(p:Ì) (bs:Á Ð),a=őb/\yU K H p (ŝi V.bl)/\Q (.bl (bs.all id)) H
def Iy(t:Ż=Æ):wM X īl (fU X.K):=by
 intro B s σ H J G Q I r h;let{p,d,rfl,A,q}:=h;let{u,rfl,x}:=wv r;cases x;let y:=Ďa t;show call_all_walk ?_;let{a,j,g,E}:=ű A;let w:Óa=ýc:=by rw[Ĭo]
 let c:p<Ý:=by let{o,n,e,_}:=g;show Ĥ e
 show şc g.isList ?_;refine{_,_,_,_,_,_,λi=>Îe i Â,rfl,Ĺh Ġh Ý p Ōf ϣa,{{_,Ř _ rfl,rfl,rfl},g.isList.push _},?_,?_};intro i v F L C m l;rw[x5e j m];show č l;intro l tk k;rw[<-w,y5f]
 show⟨.bl (d.all id),H,ïd (t':=tk) λb o f=>k b o (λz=>by
  rw[Űo]
  rw[ţo]) ϣh,rfl,q⟩
#print a
open Builtin.SmallTypes (Řb)
structure X1(P:ë)(w:å)(it l:Ì)(st:Ã->Heap->Ç)(n:Ã)(val:Ã->Value):Ç where
 ć:∀i h h',st i h->(∀b o,(b=it\/b=l)->Ě b=À o->Ė b=À o)->st i h'
 Źa:∀{A:û}{Q:Value->Ï->Ç}{E:Value->Ï->Ç}{s:Ï}(i:Ã),st i ß->i<n->(∀h',st ù h'->Éb it ß h'->Q (val i) { s with é:=h' })->Û Đb A òf Q E s
 done:∀{A:û}{Q:Value->Ï->Ç}{E:Value->Ï->Ç}{s:Ï}(i:Ã),ēb=Ä->st i ß->n<=i->
  (∀h' e,ϗm it ß h'->(∃o,Ė e=À o/\úa=.type Ĭd)->E Ħf { s with é:=h' })->Û Đb A òf Q E s
section
variable{Ē:ë}{w:å}{A:û}{E:Value->Ï->Ç}{s:Ï}
def z6w{it t:Ì}{i:Ã}{ϴa}{x:Value}{Q:Value->Ï->Ç}(a:Żk it t i)(f:źb t ϴa)(j:ϴa[i]?=À x)(g:∀h',h'.IsTupleIter it t ù->Éb it ß h'->Q x { s with é:=h' }):Û è A òf Q E s:=by
 let{o,c,h,b}:=id a;let{l,d,_,k,e}:=f;unfold Řb
 show Ô (Řc (ĵ:=ńb Ãf) a.typeIs ýe
  (Ůb ýe a.typeIs ĺj ?_ Ĝj))
 show Ô (m:=Æc Ϝa 0) (ĕa c b (x:=.ref t) rfl ?_);rw[œo];show Ô (m:=Æc Ϝa 1) (ĕa c b (x:=.int i 0) rfl ?_);show Ô (m:=seqItems? (.ref t)) (ώa d e ?_);simp only[ϧ,j];refine Ô (ŵl c b ï (č {x,rfl,č (g _ ?_ (Ŕk ..))}))
 show{_,Ĥe _ c (Obj.isFreed_of_fields (ϊk b _)),(Obj.cls_mapFields ..).trans h,by rw[ϊk b];simp[ϲd]}
def z6v{it t:Ì}{i:Ã}{ϴa}{Q:Value->Ï->Ç}(h:ēb=Ä)(b:Żk it t i)(k:źb t ϴa)(l:ϴa[i]?=Ä)(j:∀h' e,ϗm it ß h'->(∃o,Ė e=À o/\úa=.type Ĭd)->E Ħf { s with é:=h' }):Û è A òf Q E s:=by
 let{o,f,p,c}:=id b;let{q,d,_,n,g}:=k;unfold Řb
 show Ô (Řc (ĵ:=ńb Ãf) Îd ýe
  (Ůb ýe Îd ĺj ?_ Ĝj))
 show Ô (m:=Æc Ϝa 0) (ĕa f c (x:=.ref t) rfl ?_);rw[œo];show Ô (m:=Æc Ϝa 1) (ĕa f c (x:=.int i 0) rfl ?_);show Ô (m:=seqItems? (.ref t)) (ώa d g ?_);simp only[ϧ,l];refine Ô (Ιc (ŵl f c ï ?_));show Ô (m:=newExc (.type Ĭd) []) ?_;simp only[newExc,newTuple];show Ô (Öc ?_ ϲl);refine Ô (m:=Żl _ _) (ům (a:=ϑc) (by first|rfl|(simp only[Żl];rfl)) ?_);show Öc ?_ ϲl;simp only[raiseNew];show Ô (wpAny_handled ?_)
 first|rw[show A.in1.handled=Ä from h]|rw[h]
 show Ô (č (wpAny_throw ?_));show j _ _ (((Ŕk ..).extBut.push _).push _) {_,Ř _ rfl,rfl}
def y8t{it l:Ì}(d:l≠it)(a:Ú Value):X1 Ē w it l (λi h=>èh it l i/\h.IsList l a) ó Ĕg where
 ć:=λi h g st k=>{st.1.at λo e=>k it o ą e,st.2.at λo e=>k l o Ŀa e}
 Źa:=λi st c m=>wpAny_nextOf_list_item st.1 st.2 (x:=a.getD i .none) ğl λg b f=>m g {b,st.2.extBut f.extBut d} f
 done:=λi n st c j=>wpAny_nextOf_list_end n st.1 st.2 (Ăg c) j
def y8u{it l:Ì}(d:l≠it)(a:Ú Value):X1 Ē w it l (λi h=>Ôm it l i/\ťn l a) ó Ĕg where
 ć:=λi h g st k=>{st.1.at λo e=>k it o ą e,st.2.at λo e=>k l o Ŀa e}
 Źa:=λi st c m=>z6w st.1 st.2 (x:=a.getD i .none) ğl λg b f=>m g {b,st.2.extBut f.extBut d} f
 done:=λi n st c j=>z6v n st.1 st.2 (Ăg c) j
variable{z TI TO i1 i2 l1 l2:Ì}{st1 st2:Ã->Heap->Ç}{n1 n2:Ã}{v1 v2:Ã->Value}{a b:Value}{k:Ã}
def x81{Q:Value->Ï->Ç}(D:ϗd z TI TO i1 i2 l1 l2)(N:X1 Ē w i1 l1 st1 n1 v1)(O:X1 Ē w i2 l2 st2 n2 v2)(G:Ŷa ß z TI TO .none)(hTI:đa ß TI ſd Ąf)(P:đa ß TO a b)(h1:st1 k ß)(h2:st2 k ß)(k1:k<n1)(k2:k<n2)(hi1:i1<Ý)(hi2:i2<Ý)(hl1:l1<Ý)(hl2:l2<Ý)(hQ:∀h',Ŷa h' z TI TO (ϲd Ý)->đa h' TO òd Ůf->st1 Ĝ h'->st2 Ĝ h'->đa h' Ý òd Ůf->
   (∀c o,c≠z->c≠TO->c≠i1->c≠i2->Ă c=À o->Ė c=À o)->Q Ðb { s with é:=h' }) :
  Û è A ăj (λfin s'=>∃v,fin=.done Ųd/\Q v s') E s:=by
 show Ô (m:=Æc Øb 2) (ĕa G rfl (x:=.bool Â) rfl ?_);show Ô (m:=Æc Øb 3) (ĕa G rfl (x:=.ref TI) rfl ?_);show Ô (ώa hTI rfl ?_);rw[ϧo];show Ô (ĕa G rfl (x:=.none) rfl Ģa);rw[Ϲo];show Ô (Ιc (ĕa G rfl (x:=.ref TO) rfl ?_));refine Ô (ŝc G ï λha p y=>?_)
 replace p:Ŷa ha z TI TO .ellipsis:=p
 rw[ϔo];let h1a:st1 k ha:=Ŧi k _ _ h1 λc o K e=>ώd c o (by rcases K with rfl|rfl;show ϕf;show D.l1z) e
 show Ô (Υa (Ô (m:=Řb ſd) (N.item k h1a k1 λhb R C=>č ?_)));let n:đa hb TO a b:=Ϛd _ _ D.TOi1 (ώd _ _ ϖf P);show Ô (ώa n rfl (Ô (ßg n λK h u=>?_)))
 replace h:đa K TO òd b:=h
 show Ô þh
 let S:st2 k K:=ťi k _ _ h2 λc o d e=>by rcases d with rfl|rfl;show Éd _ _ ĕh (Ϛd _ _ ón (ώd _ _ ϔf e));show Éd _ _ ūi (Ϛd _ _ D.l2i1 (ώd _ _ D.l2z e))
 show Ô (Υa (Ô (m:=Řb Ąf) (O.item k S k2 λhd X B=>č ?_)));let j:đa hd TO òd b:=Ϝd _ _ D.TOi2 h;show Ô (ώa j rfl (Ô (ßg j λg f q=>?_)))
 replace f:đa g TO òd Ůf:=f
 show Ô (Āe Ϫn);show Ô (ώa f rfl (Ô (ęg ?_)));let F:Įd=Ý:=by rw[q.1,B.1,u.1,C.1,y.1]
 let H:Ŷa g z TI TO .ellipsis:=ėb _ _ Łh (Ϝd _ _ òn (Éd _ _ Łh (Ϛd _ _ ŀh p)))
 let Z:∀c o,c≠z->c≠TO->c≠i1->c≠i2->Ă c=À o->ŗi c=À o:=λc o r L c3 T e=>
  ėb _ _ L (Ϝd _ _ T (Éd _ _ L (Ϛd _ _ c3 (ώd _ _ r e))))
 let Y:st1 Ĝ g:=Ŧi _ _ _ R λc o d e=>by rcases d with rfl|rfl;show ėb _ _ ϙm (Ϝd _ _ D.i12 (Éd _ _ ϙm e));show ėb _ _ D.l1TO (Ϝd _ _ D.l1i2 (Éd _ _ D.l1TO e))
 let U:st2 Ĝ g:=ťi _ _ _ X λc o d e=>by rcases d with rfl|rfl;show ėb _ _ ĕh e;show ėb _ _ ūi e
 let l:z<Įd:=Ĥ H;show Ô (m:=ģj Øb ŀn) ?_;unfold ģj;let hzf:Ŷa (g.push { cls:=.type ō,ă:=.seq #[v1 k,v2 k] }) z TI TO .ellipsis:=ĝ _ H;refine Ô (ŝc hzf ï λhg t sg=>?_)
 replace t:Ŷa hg z TI TO ſn:=t
 refine ŝc t ï λJ i sh=>?_
 replace i:Ŷa J z TI TO ſn:=i
 let I:∀c o,c≠z->ŗi c=À o->J.get? c=À o:=λc o r e=>ŗn _ _ r (Řn _ _ r ûf)
 let hT:đa J Įd òd Ůf:=ŗn _ _ (Æb l) (Řn _ _ (Æb l) ϟc);rw[F]at i hT;show č {_,rfl,?_};exact Q ŀn _;rw[F];show hQ J i (I _ _ ϖf f) (Ŧi _ _ _ Y λc o d e=>I c o ?_ e) (ťi _ _ _ U λc o d e=>I c o ?_ e) hT λc o r L c3 T e=>I c o r (Z c o r L c3 T e)
 .rcases d with rfl|rfl
  .show ϕf
  .show D.l1z
 .rcases d with rfl|rfl
  .show ϔf
  .show D.l2z
def x80{Q:Fin->Ï->Ç}(O:ēb=Ä)(D:ϗd z TI TO i1 i2 l1 l2)(L:X1 Ē w i1 l1 st1 n1 v1)(X:X1 Ē w i2 l2 st2 n2 v2)(p:Ŷa ß z TI TO .none)(K:đa ß TI ſd Ąf)(y:đa ß TO a b)(h1:st1 k ß)(h2:st2 k ß)(P:n1<=k\/n2<=k)(T:∀h' e,(∀c o,c≠z->c≠TO->c≠i1->c≠i2->Ă c=À o->Ė c=À o)->(∃o,Ė e=À o/\úa=.type Ĭd)->E Ħf { s with é:=h' }) :Û è A ăj Q E s:=by
 show Ô (m:=Æc Øb 2) (ĕa p rfl (x:=.bool Â) rfl ?_);show Ô (m:=Æc Øb 3) (ĕa p rfl (x:=.ref TI) rfl ?_);show Ô (ώa K rfl ?_);rw[ϧo];show Ô (ĕa p rfl (x:=.none) rfl Ģa);rw[Ϲo];show Ô (Ιc (ĕa p rfl (x:=.ref TO) rfl ?_));refine Ô (ŝc p ï λU g l=>?_)
 replace g:Ŷa U z TI TO .ellipsis:=g
 rw[ϔo];let r:st1 k U:=L.keep k _ _ h1 λc o C e=>Ĕc c o (by rcases C with rfl|rfl;show ϕf;show D.l1z) e
 by_cases k1:k<n1;let Z:n2<=k:=by omega
 show Ô (Υa (Ô (m:=Řb ſd) (L.item k r k1 λJ Y h=>č ?_)));let i:đa J TO a b:=ϔd _ _ D.TOi1 (Ĕc _ _ ϖf y);show Ô (ώa i rfl (Ô (ßg i λC R v=>?_)));show Ô þh
 let B:st2 k C:=X.keep k _ _ h2 λc o H e=>by rcases H with rfl|rfl;show Čf _ _ ĕh (ϔd _ _ ón (Ĕc _ _ ϔf e));show Čf _ _ ūi (ϔd _ _ D.l2i1 (Ĕc _ _ D.l2z e))
 show Ô (Υa (Ô (m:=Řb Ąf) (X.done k O B Z λhd e S I=>?_)));let{G,d,f}:=I;let t:Ŷa hd z TI TO .ellipsis:=S _ _ òn (Čf _ _ Łh (ϔd _ _ ŀh g));let j:e≠z:=λx=>by subst x;rw[t]at d;cases d;simp at f
 show ŝc t ï λF _ q=>T F e (λc o n c2 N c4 x=>ėb _ _ n (S _ _ c4 (Čf _ _ c2 (ϔd _ _ N óm)))) {G,ėb _ _ j d,f};refine Ô (Υa (Ô (m:=Řb ſd) (L.done k O r Ê λJ e h I=>?_)));let{G,d,f}:=I;let u:Ŷa J z TI TO .ellipsis:=h _ _ ŀh g;let j:e≠z:=λx=>by subst x;rw[u]at d;cases d;simp at f
 show ŝc u ï λF _ q=>T F e (λc o n _ N _ x=>ėb _ _ n (h _ _ N óm)) {G,ėb _ _ j d,f}
#print a
#print L2
namespace L2
open ě ħ Ģ
def t8(K:Ñ)(b:Ð)(H:Hp)(a:Ì)(xs:Á V):Ç:=match b with
 |Æ=>ye K H a xs|Â=>yU K H a xs
nonrec def QO(a:Ð):Åa:=match a with
 |Æ => "tuple_iterator"|Â => įl
def tf(b:Ð)(h:Heap)(a:Ì)(its:Ú Value):Ç:=match b with
 |Æ=>ťn a its|Â=>h.IsList a its
def Zj(a:Ð)(h:Heap)(it l:Ì)(i:Ã):Ç:=∃o,Ě it=À o/\úa=.type (QO a)/\Đa=.fields #[.ref l,.int i 0]
theorem Zj.at{a:Ð}{h h':Heap}{it l:Ì}{i:Ã}(x:Zj a h it l i)(e:∀o,Ě it=À o->Ė it=À o):Zj a h' it l i:=let ⟨o,ho,r⟩:=x;{o,e _ ho,r}
theorem tf.push{b:Ð}{h:Heap}{a:Ì}{its:Ú Value}(x:tf b h a its)(o:Obj):tf b (ŕi o) a its:=by cases b;show Heap.IsList.push x o;show Heap.IsTuple.push x o
def tf.lt{b:Ð}{h:Heap}{a:Ì}{its:Ú Value}(x:tf b h a its):a<ϙa:=by cases b;let{o,e,_}:=x;show Ĥ e;let{o,e,_}:=x;show Ĥ e
section
variable{Ē:ë}{w:å}{A:û}{E:Value->Ï->Ç}{s:Ï}
def M1{c:Ð}{it l:Ì}(b:l≠it)(a:Ú Value):X1 Ē w it l (λi h=>Zj c h it l i/\tf c h l a) ó Ĕg:=by cases c;show y8t b a;show y8u b a
def fM{b:Ð}{l:Ì}{a:Ú Value}{Q:Value->Ï->Ç}(h:tf b ß l a)(c:Q Ðb { s with é:=Þa { cls:=.type (QO b),ă:=.fields #[.ref l,.int 0 0] } }):Û è A (Ée Ϯb) Q E s:=by cases b;show şc (show Ľd l a from h) c;show êg (show źb l a from h) c
abbrev MY(t1:Ð)(h:Heap)(l1:Ì):Heap:=ŕi { cls:=.type (QO t1),ă:=.fields #[.ref l1,.int 0 0] }
abbrev MZ(t1 t2:Ð)(h:Heap)(l1 l2:Ì):Heap:=(Śm).push { cls:=.type (QO t2),ă:=.fields #[.ref l2,.int 0 0] }
abbrev Ma(t1 t2:Ð)(h:Heap)(l1 l2:Ì):Heap:=(Ϻk).push { cls:=.type ō,ă:=.seq #[.ref ϙa,.ref (Śm).objs.size] }
abbrev Mb(t1 t2:Ð)(h:Heap)(l1 l2:Ì):Heap:=(Ϲk).push { cls:=.type ō,ă:=.seq #[.none,.none] }
abbrev U1(t1 t2:Ð)(h:Heap)(l1 l2:Ì):Heap:=(Mb t1 t2 h l1 l2).push { cls:=.type Ēa,ă:=.fields #[.none,.bool Â,.bool Â,.ref (Ϻk).objs.size,.ref (Ϲk).objs.size] }
def x85(c e:Ð)(a b:Ì)(xs m:Ú Value) :Meets (Builtin.«zip.__new__» {[.type Ēa,.ref a,.ref b],[]}) (λ_ R s=>tf c ß a xs/\tf e ß b m/\R (.ok (.ret (.ref (Mb c e ß a b).objs.size))) { s with é:=U1 c e ß a b }):=
 .of_wp λprog w A R s h=>by
  let{o,g,d,tk,l}:=s;let{f,i,h}:=h;let n:=sub_zip;let j:tf c (ϋm {o,g,d,tk,l}) a xs:=f;let k:tf e (ϋm {ţ { cls:=.type (QO c),ă:=.fields #[.ref a,.int 0 0] },g,d,tk,l}) b m:=tf.push i _
  wp_walk using fM j,fM k
  show{_,rfl,h}
def sN{b e:Ð}{a d:Ì}{xs r:Ú Value}{Q:Value->Ï->Ç}(f:tf b ß a xs)(j:tf e ß d r)(h:∀h',Ŷa h' (Ý+4) (Ý+2) (Ý+3) .none->đa h' (Ý+2) Ðb Łn->
   đa h' (Ý+3) .none .none->Zj b h' Ý a 0->Zj e h' ãa d 0->
   (∀c o,Ă c=À o->Ė c=À o)->Q (.ref (Ý+4)) { s with é:=h' }) :
  Û è A (źa Øn [.ref a,.ref d]) Q E s:=by
 refine callType_new F.called_zip Í (F.typeCall_zip_2 _ _) (F.newCall_zip_2 _ _) (λi=>F.args_object_init_3 i _ _) F.entry_zip_new (x85 b e a d xs r) {f,j,?_};let k:(MY b ß a).objs.size=Ý+1:=āb ..;let g:(MZ b e ß a d).objs.size=Ý+2:=by rw[āb,k]
 let l:(Ma b e ß a d).objs.size=Ý+3:=by rw[āb,g]
 let n:(Mb b e ß a d).objs.size=Ý+4:=by rw[āb,l]
 let m:(Īd).get? (Mb b e ß a d).objs.size=À _:=Ř _ rfl;let p:(Īd).get? (Ma b e ß a d).objs.size=À _:=ĝ _ ϟc;let t:(Īd).get? (MZ b e ß a d).objs.size=À _:=ĝ _ (ĝ _ ϟc);let q:(Īd).get? (MY b ß a).objs.size=À _:=ĝ _ şk;let u:(Īd).get? Ý=À _:=ĝ _ (ĝ _ şk);exact _/\_;rw[g,l,n]at m;rw[k,g]at t;rw[l]at p;rw[k]at q;rw[n]
 show⟨{_,m,rfl},h _ m t p {_,u,rfl,rfl} {_,q,rfl,rfl} λc o x=>
  ĝ _ (ĝ _ (ĝ _ (ĝ _ (ĝ _ x))))⟩
#print a
section
variable{X:Cx}{z6:Á ð}{σ:St}{H:Hp}{s:Ï}
def zE.WJ{b:Ð}{a:Ì}{xs:Á V}(I:zE X z6 σ H s)(h:t8 X.K b H a xs):∃its:Á Value,zm xs its/\tf b ß a Ϫ:=by cases b;let{its,r,p,_}:=ű h;show{its,r,ďf};let{its,r,p,_}:=ώ h;show{its,r,p}
def zE.S8{b:Ð}{a:Ì}{xs c:Á V}(I:zE X z6 σ H s)(h:t8 X.K b H a xs)(h':t8 X.K b H a c):xs=c:=by cases b;show I.Jy h h';show I.Bc h h'
def lq{fs ch:Á Ì}{h h':Heap}(k:∀b o,b ∉ ch->Ě b=À o->Ė b=À o):Un fs ch H H h h':=
 {λb o e _ _ a=>k b o a e,λb o e _ _ a=>{o.slots,k b o a e},λ_ _ _ n _=>n,λb o e a=>{o,k b o a e},λ_ _ z=>z,λ_ _ _ z=>z,λb c e=>{#[],by rw[e];simp}}
def cV{P:ë}{w:å}{ch:Á Ì}{h h':Heap}(x:xg P w H h)(d:∀b∈ch,H b=Ä)(k:∀b o,b ∉ ch->Ě b=À o->Ė b=À o):xg P w H h':=λb u e=>by
 let a:∀c v,H c=À v->c ∉ ch:=λc v e z=>by rw[d c z]at e;cases e
 show(Ϧh).ZM (λc v f q=>k c v ?_ q) Ìf λ_ _ q=>q
 rcases f with z|z;rw[z];show a b u e;show a c _ z
def zE.but{ch:Á Ì}{h':Heap}{tk:Ã}(I:zE X z6 σ H s)(c:∀b∈ch,pU X z6 H b)(k:∀b o,b ∉ ch->Ă b=À o->Ė b=À o):zE X z6 σ H { s with é:=h',Ċ:=tk }:=
 I.BR (s':={ s with é:=h',Ċ:=tk }) rfl (lq k) Ϭj ůa λb a=>{ŗb.2.2.2.1,ŗb.2.1,ŗb.2.2.2.2.1,ŗb.2.2.2.2.2}
def zE.BS{ch:Á Ì}{h':Heap}{tk:Ã}{T:Ì}{o:HO}(I:zE X z6 σ H s)(c:∀b∈ch,pU X z6 H b)(k:∀b o,b ∉ ch->Ă b=À o->Ė b=À o)(f:Ă T=Ä)(e:H T=Ä)(d:yz ô X.w ĉn h' T o):zE X z6 σ ĉn { s with é:=h',Ċ:=tk }:=
 I.BR (s':={ s with é:=h',Ċ:=tk }) rfl (x5b (lq k) f e) (cW Ϭj e d) ůa λb a=>{ŗb.2.2.2.1,ŗb.2.1,ŗb.2.2.2.2.1,ŗb.2.2.2.2.2}
#print a
def DO(K:Ñ)(d c:Ð)(a b:Ì):It:=
  ⟨λi H=>∃xs ys x y,t8 K d H a xs/\t8 K c H b ys/\xs[i]?=À x/\ys[i]?=À y,
   λi H v e=>∃p,H p=Ä/\v=.ref p/\∀xs ys,t8 K d H a xs->t8 K c H b ys->∃x y,xs[i]?=À x/\ys[i]?=À y/\e=zT H p Ϥc,
   λi H=>∃xs ys,t8 K d H a xs/\t8 K c H b ys/\(ç<=i\/ϰ<=i)⟩
def x3z{P:ë}{w:å}{K:Ñ}{U:Á Õ}{S:Ã}{pos:Pos}(t1 t2:Ð)(a b z TI TO t r:Ì)(D:ϗd z TI TO t r a b) :jj P w K (.Tuple U S pos) Ŧg êm z (λi h=>Ŷa h z TI TO .none/\đa h TI īc ïi/\(∃u v,đa h TO u v)/\Zj t1 h t a i/\Zj t2 h r b i) where
 mem:=by simp
 obj:=λi h st c d=>by let{f,j,{u,v,n},{o4,m,_,d4},{o5,p,_,d5}}:=st;simp only[Ļa,Ìa,ňa]at d;rcases d with rfl|rfl|rfl|rfl|rfl;show{_,f,λv q=>nomatch q};show{_,j,λv q=>nomatch q};show{_,n,λv q=>nomatch q};show{_,m,λv q=>by rw[d4]at q;cases q};show{_,p,λv q=>by rw[d5]at q;cases q}
 ć:=λi h h' st k=>by let{f,j,{u,v,n},m,p}:=st;show{k z ï _ f,k TI ï _ j,{u,v,k TO ï _ n},m.at λo e=>k t ï o e,p.at λo e=>k r ï o e}
 Źa:=by
  rw[ėo];let{xs,ys,x,y,Z,hy,ex,ey}:=hg;rw[Żo];let{xu,Y,rxu}:=ru.get ex;let{yw,N,ryw}:=B.get ey;let k1:i<ώl:=by rw[ė];show(Ŭ Y).1
  let k2:i<ύl:=by rw[ė];show(Ŭ N).1
  let e1:G.toArray.getD i .none=xu:=by let:=Ŭ Y;let{l,e}:=this;simp[ϫg,l,e]
  let e2:J.toArray.getD i .none=yw:=by let:=Ŭ N;let{l,e}:=this;simp[ϫg,l,e]
  let O:ĕb Øb Ēa:={_,f,rfl};let q4:t<Ý:=by let{o,e,_}:=m;show Ĥ e
  let q5:r<Ý:=by let{o,e,_}:=p;show Ĥ e
  unfold Ķf
  show Ô (ļe (Řc (ĵ:=ńb Ãf) O ġe (Ůb ġe O Čl
   (x81 D Ěk ęk f j n {m,pu} {p,pw} k1 k2 q4 q5 pu.lt pw.lt λh' a1 a2 a3 a4 a5 a6=>č ?_) ěk)))
  rw[e1,e2]at a2 a5;show{_,rfl,wpAny_letOwnedTupleGo_zip (s:={ s with é:=h' }) a1 λC b1 L=>?_}
  let hTs:Ă Ý=Ä:=by
   cases q:Ă Ý with
   |Ä=>rfl|À o=>show Þ ϻd Ϭ
  let R:H Ý=Ä:=þb ċ;let hTz:Ý≠z:=Æb Àe;let tup:C.get? Ý=À { cls:=.type ō,ă:=.seq #[xu,yw] }:=Ðd _ _ hTz a5
  let S:∀c o,c ∉ êm->Ă c=À o->C.get? c=À o:=λc o d e=>by simp only[Ļa,Ìa,ňa,Šf]at d;show Ðd _ _ d.1 (a6 c o d.1 d.2.2.1 d.2.2.2.1 d.2.2.2.2 e)
  let new:yz ô X.w (zT H Ý Ϥc) C Ý Ϥc:={ïg,[xu,yw],.cons rxu (.cons ryw .nil),{_,tup,rfl,_,rfl}};show{.ref Ý,zT H Ý Ϥc,I.BS (tk:=Ć) hf S hTs R new,rfl,{Ý,R,rfl,λxs' ys' hx' hy'=>?_},{b1,?_,{_,_,Ðd _ _ ϖf a2},a3.1.at λo e=>Ðd _ _ ϕf e,a4.1.at λo e=>Ðd _ _ ϔf e},λc d=>?_};rw[I.S8 hx' Z,I.S8 hy' hy];show{x,y,ex,ey,rfl};show Ðd _ _ D.TIz (a6 _ _ D.TIz D.TITO D.TIi1 D.TIi2 j);rw[zy];show(hf c d).1;intro q
  let Q:c<Ý:=by simp only[Ļa,Ìa,ňa]at d;rcases d with rfl|rfl|rfl|rfl|rfl;show Ĥ f;show Ĥ j;show Ĥ n;show q4;show q5
  rw[q]at Q;show Þ Q Ϭ
 done:=by
  rw[ėo];let{xs,ys,Z,hy,hend}:=hg;rw[Żo]
  let A:ώl<=i\/ύl<=i:=by let l1:=ru.length;let l2:=ϛd;rw[ė,ė];omega
  let O:ĕb Øb Ēa:={_,f,rfl};unfold Ķf
  show Ô (ļe (Řc (ĵ:=ńb Ãf) O ġe (Ůb ġe O Čl
   (x80 (by show Ďa d) D Ěk ęk f j n {m,pu} {p,pw} A λh' e S he=>?_) ěk)))
  let{o,ho,hcl}:=he;show Ô (wpAny_isInstance (T := Ĭd) (b:=Æ) {o,ho,hcl} isSubtype_stop ?_);show č {rfl,I.but (tk:=Ć) hf λc ob g eb=>?_};simp only[Ļa,Ìa,ňa,Šf]at g;show S c ob g.1 g.2.2.1 g.2.2.2.1 g.2.2.2.2 eb
 īb:=λ_ _ _ _ _ st h=>Āl st.1 h
def wJ{a b:Ã}(h:a≠b):@Ne Ì a b:=h
def x82{n a b:Ã}(c:a<n)(d:b<n):ϗd (n+4) (n+2) (n+3) n ı a b:=
 {wJ Ê,wJ Ê,wJ Ê,wJ Ê,wJ Ê,wJ Ê,wJ Ê,wJ Ê,wJ Ê,wJ Ê,wJ Ê,wJ Ê,wJ Ê,wJ Ê,wJ Ê,wJ Ê,wJ Ê,wJ Ê}
def rS:Ţ Ēa=À Øn:=by rw[ÿo]
section
variable{X:Cx}
def cX(K:Ñ)(d:TA):TI:=λσ H R=>d σ H λe c=>∃a b xs ys t1 t2,e=[.ref a,.ref b]/\t8 K t1 c a xs/\t8 K t2 c b ys/\R Ŧg c
def y3r{a b:Õ}{B:TA}{p pos:Pos}{i:Á Õ}{Y:Ã}{Z:Pos}(U:Gl X Ēa)(Q:ñ Ēa=Ä)(ha:PA X êe B)(N:Î (ža êe Ö=[(Â,ý a Ö),(Â,ý b Ö)]) q11)(f:Î (ža [b] Ö=[(Â,ý b Ö)]) q11):PI X (.Tuple i Y Z) ϵf (cX X.K B):=by
 intro y s σ H R I h;show Call_ (XU I U Q rS (ċe (zi (ha pos y s σ H _ I h) λus g ⟨vs,x,e,O,q1⟩=>?_) (by rw[N,f]) (by rw[f];rfl)));let{l,j,xs,ys,t1,L,rfl,S,hy,q}:=q1;let{u,v,rfl,P,G}:=PH O;cases(show u=Ĉ l from P);cases(show v=Ĉ j from G);let{us,_,F}:=e.WJ S;let{ws,_,E}:=e.WJ hy;let r:=F.lt;let t:=E.lt;show sN F E λA k o C m w T=>?_
 let J:zE X y σ x { g with é:=A }:=e.kept (t':=g.toks) T;show Āl (s:={ g with é:=A }) k ?_;generalize hn:Ąl=n at k o C m w r t
 let D:ϗd (n+4) (n+2) (n+3) n ı l j:=by show x82 r t
 show{n+4,[n+4,n+2,n+3,n,n+1],_,_,x,rfl,J,x3z t1 L l j (n+4) (n+2) (n+3) n ı D,{k,o,{_,_,C},m,w},λc z=>?_,q}
 let d:Ąl<=c:=by rw[hn];simp only[Ļa,Ìa,ňa]at z;rcases z with rfl|rfl|rfl|rfl|rfl;show ϓa _ _;show ϓa _ _;show ϓa _ _;show ïa _;show ϓa _ _
 show e.gw d (e.zb.fresh d)
def y4v{a b:Õ}{e:TA}{p pos:Pos}{c:Á Õ}{l:Ã}{i:Pos}(j:Gl X Ēa)(g:ñ Ēa=Ä)(f:QA X êe e)(k:Î ϳc q11)(d:Î čn q11) :QI X (.Tuple c l i) ϵf (cX X.K e):={y3r j g f.h (by rw[uv k,uv d];rfl) ŷi}
#print a
def ae(a:Ùa)(env:Env)(b:Á ϡa)(own:Á È):Ð:=
 a.kind == .function&&Ďh (λy=>y.2 != .cell)&&W_ a env b own&&Ďh (λy=>y.2 != .local||Ŀb y.1==À .local)
def wG{X:Cx}{a:Ùa}{b:Á ϡa}{own:Á È}(j:ën a Ö=pure b)(h:Î (ZS Ö b) q14)(ok:Î (ae a Ö b own=Æ) q11):ZR X a b own:=by unfold ae at ok;simp only[Ğ]at ok;obtain⟨⟨⟨f,g⟩,i⟩,d⟩:=ok;show{że f,λy c e=>?_,h,i,j,λy c e=>?_};let:=ϐa g y c;rw[e]at this;cases this;let:=ϐa d y c;rw[e]at this;rw[ċo]
section
variable{X:Cx}(K:Ñ)(hK:X.K=K)
include hK
#print a
def nv(K:Ñ)(a:Ì)(xs:Á V):Ç:=∀H,ye K H a xs
def si{K:Ñ}{a:Ì}{xs:Á V}{d:É Ì}{its:Ú Value}{n:Ã}{b:Ú ϟa}(h:ϋ a=À {.type ō,d,.seq its n,b})(c:Ái<=â)(r:zm xs Ťd):nv K a xs:=
 λ_=>.inr {_,its,n,h,rfl,rfl,c,r}
open ŀf Ėh
section
variable{X:Cx}
theorem m9:∀{ts:Á È}{its:Á Value},zm ϑn its->∃l:Á Ŋh,its=Ūg l/\ş (·.1)=ts
 | [],_,.nil=>{[],rfl,rfl}|t::ts,_,.cons r rr=>by let{k,e}:=(show ∃k,_=ĥa t k from r);let{l,e1,e2}:=m9 rr;subst e e1;show{(t,k)::l,rfl,by rw[Ň,e2]}
def y55(K:Ñ):V->Á V->Hp->VK->Ç:=λx a H Q=>∃(sep:È) (p:Ì) (ts:Á È),x=.str sep/\a=őb/\yU K H p ϑn/\(Ϧb (·.length)).sum+ãf*čc<=â/\Q (.str Ϭl) H
def ŵh(sep:È):∀ts:Á È,(Ϭl).length<=(Ϧb (·.length)).sum+ãf*čc
 | []=>by exact(Ϙb _)<=_;simp[glued,Ϙb,ώh]|t::ts=>by
  let h:∀(c:Á È)(a:Ú Ã),(c.foldl Ϙj a).size=ó+(c.map (·.length)).sum+ŉa*čc:=λc=>by
   induction c with
   |nil=>intro a;simp|ā u c ih=>intro a;rw[ųg,ih];simp only[Ðl,Ň,Že,Ď,ïh,Ϙb];omega
  exact(ts.foldl Ϙj t.cps).size<=_;rw[h];simp only[Ň,Že,Ď,ïh,Ϙb];omega
def z6e:k5 X "str.join" (y55 X.K):=by
 intro k s σ H x S v R Q I E A h;let{d,p,z,rfl,rfl,L,J,q}:=h;let{t,rfl}:=(show ∃t,v=ĥa d t from E);let{u,rfl,C}:=wv A;cases(show u=Ĉ p from C);let{O,r,y,_}:=ű L;let{l,rfl,j}:=m9 r;let B:ĕb Ů Ġ:=y.isList.typeIs;let{o,N,P,n,G}:=y.isList
 let g:tooLong ((ş (·.1)).toArray.foldl (·+·.length+Óa) 0)=Â:=by rw[j,StrLaws.joinTotal];unfold tooLong;show į Ê
 let i:(glued d z).length<=â:=ģ (ŵh d z) J;show Ře (ĥk F.slot_str_join.plain F.entry_str_join (F.slot_str_join.check _ _ _ _ _ _ _ _ řd (F.args_str_join_2 _ _) ?_));let{m,e}:=join_tree d t p;rw[e];show Ô (ųc B ?_);rw[Ò Í];show Ô (ώa N G ?_);exact Û _ _ (joinTail d ĕi) _ _ _;rcases l with _|⟨a,_|⟨b,c⟩⟩;subst j;show Ěg d [] g ô X.w _ ϝf s {i,.str _,H,Ų _,{_,rfl},q};subst j;show Ěg d [a] g ô X.w _ ϝf s {.str _,H,I,{_,rfl},q};subst j;show Ěg d (a::b::c) g ô X.w _ ϝf s {i,.str _,H,Ų _,{_,rfl},q}
#print a
nonrec def IL(z:È):It:={λi _=>i<ĕ,λi H x a=>a=H/\∃c,Ňc[i]?=À c/\x=.str {#[c]},λi _=>ĕ<=i}
section
variable{X:Cx}{tg:Õ}
def z3q(a:TE):TI:=λσ H R=>a σ H λx b=>∃z,x=.str z/\R ŵf b
def x3x{P:ë}{w:å}{K:Ñ}{it:Ì}{z:È}{t:Tok}{m:Åa}(g:m = ġk \/ m = Űl):jj P w K tg ŵf ũb it (λi h=>h.IsStrIter it m z t i/\i<=ĕ) where
 mem:=by simp
 obj:=λi h st b j=>by
  let e:b=it:=by simpa using j
  subst e;obtain⟨⟨o,e,c,d⟩,_⟩:=st;show{o,e,λv z=>by rw[d]at z;cases z}
 ć:=λi h f st k=>{let ⟨o,ho,r⟩:=st.1;{o,k it ï o ho,r},st.2}
 Źa:=by
  rw[Ğo];let L:i<Þn:=q;let l:Ňc[i]?=À Ňc[i]:=by simp[L]
  have T:∀f tk (u:Value),(∃t',u=ĥa {#[Ňc[i]]} t')->f.IsStrIter it m z t ù->Éb it ß f->∃v,À u=À v/\
    Û ÿ X.A (ĺe tg Ϝa v) (λ_ U=>∃x H',zE X Q σ H' U/\zw x v/\(ŵf).u5 i H x H'/\(U.heap.IsStrIter it m z t ù/\i+1<=ĕ)/\∀b∈[it],H' b=Ä) E { s with é:=f,Ċ:=tk }:=λf tk u Y a n=>by
   let{t',rfl}:=Y;let Z:zE X Q σ H { s with é:=f,Ċ:=tk }:=Ŋa (λb o j e=>(n.2 b j).trans e) y B G p C;let{o,e,c,d}:=id a;show{_,rfl,VF (s:={ s with é:=f,Ċ:=tk }) e c d (by rcases g with rfl|rfl<;>decide) {.str {#[Ňc[i]]},H,Z,{t',rfl},{rfl,_,l,rfl},{a,q},λb j=>(F b j).1}}
  rcases g with rfl|rfl;show wpAny_pyNext_ascii_item st.1 l λf a n=>T f _ _ {_,rfl} a n;show wpAny_pyNext_wide_item st.1 l λf a n=>T f _ _ {_,rfl} a n
 done:=by rw[Ğo];let l:Ňc[i]?=Ä:=Ăg q;rcases g with rfl|rfl;show wpAny_pyNext_ascii_end Ĝi st.1 l λf N=>{rfl,Ŋa (t':=Ć) ñk y B G p C};show wpAny_pyNext_wide_end Ĝi st.1 l λf N=>{rfl,Ŋa (t':=Ć) ñk y B G p C}
 īb:=λ_ _ _ _ _ st h=>by rcases g with rfl|rfl;show wpAny_pyIter_striter_ascii st.1 h;show wpAny_pyIter_striter_wide st.1 h
def y3p{e:Õ}{i:TE}(k:PE X e i):PI X tg e (z3q i):=by
 intro j s σ H R I h;show zi (k j s σ H _ I h) λv a ⟨x,p,f,m,n⟩=>?_
 let{z,rfl,q}:=n;let{t,rfl}:=(show ∃t,v=ĥa z t from m)
 let c:∀(d:Åa),(d = ġk \/ d = Űl)->∀o:Obj,(œd o).IsStrIter Ąa d z t 0->DQ X j σ tg R łn { a with é:=œd o }:=λd g o st=>
  ⟨Ąa,[Ąa],_,_,p,rfl,f.kept (t':=îd) λb o e=>ĝ _ e,x3x g,{st,Ĉa _},λb l=>by
   let e:b=Ąa:=by simpa using l
   subst e;show f.gw ċ (ên ċ),q⟩
 cases ha:z.cps.all (·<128);show wpAny_pyIter_wide ha (c _ Ŀa _ {_,Ř _ rfl,rfl,rfl});show wpAny_pyIter_ascii ha (c _ ą _ {_,Ř _ rfl,rfl,rfl})
#print a
def cutS(z:È)(lo hi:É Å):È:={((z.cps.toList.drop (Ħ ĕ 0 lo)).take ũj).toArray}
def sS(n:Ã)(lo:É Å):(match lo with|Ä=>(0:Å)|À i=>max 0 ād)=((Ħ n 0 lo:Ã):Å)\/∃i,lo=À i/\i<0/\(n:Å)<i+n:=by
 cases lo with
 |Ä=>left;rfl|À i=>
  left
  exact max 0 ād=((ϥf:Ã):Å);by_cases h:i<0;simp only[h,Ŗ];omega;simp only[h,Ÿ];omega
def sR(n:Ã)(hi:É Å):(match hi with|Ä=>(n:Å)|À i=>max 0 ād)=((Ħ n n hi:Ã):Å):=by
 cases hi with
 |Ä=>rfl|À i=>exact max 0 ād=((ϥf:Ã):Å);by_cases h:i<0;simp only[h,Ŗ];omega;simp only[h,Ÿ];omega
def sT(n:Ã)(lo:É Å):(match lo with|Ä=>(0:Å)|À i=>max 0 ād)=((Ħ n 0 lo:Ã):Å):=by rcases sS n lo with h|⟨i,_,h1,h2⟩;show h;omega
def eQ(z:È)(lo hi:É Å):ōg=(Āa ũj).map (Ħ ĕ 0 lo+·):=by let a:=sT ĕ lo;let b:=sR ĕ hi;rw[<-Ÿl,<-a,<-b];unfold ęe;simp only[show(1:Å)>0 by decide,Ŗ];cases lo<;>cases hi<;>rfl
def sw(z:È)(lo hi:É Å):({((ōg).filterMap (Ňc[·]?)).toArray}:È)=cutS z lo hi:=by rw[eQ,Ϲh];rfl
def Èe(n d:Ã)(a:d<=n)(v:É Å):Ħ n d v<=n:=by
 cases v with
 |Ä=>show a|À i=>exact ϥf<=n;by_cases h:i<0;simp only[h,Ŗ];omega;simp only[h,Ÿ];omega
def z01(z:È)(lo hi:É Å)(h:(ōg).length=ĕ):cutS z lo hi=z:=by
 rw[eQ,ì,Źc]at h;let a:=Èe ĕ 0 ňf lo;let b:=Èe ĕ ĕ ċ hi;unfold cutS;rw[h];let f:Ħ ĕ 0 lo=0\/ĕ=0:=by omega
 let d:Ģg=ĕ:=by simp[Ϙb]
 rcases f with q|q;rw[q,όl,<-d,ħd];let e:Ėa=[]:=List.eq_nil_of_length_eq_zero Ê;rw[e];simp;cases z with
 |mk c=>simp[Ϙb]at q;simp[q]
theorem Fy(z:È)(lo hi:É Å):(ϰl).length<=ĕ:=by exact(List.toArray _).size<=Þn;rw[ė,ąa,ϔa,ť];show ģ Ŷd Ļb
section
variable{X:Cx}
def eJ{v:Value}{lo:É Å}(h:ßb v lo):∃l:É (Å×Tok),v=partValue l/\ş (·.1)=lo:=by
 cases h with
 |Ä=>show{Ä,rfl,rfl}|int i t=>show{À (i,t),rfl,rfl}
def fm:V->É Å->É Å->Hp->VK->Ç:=λx a b H Q=>∃z:È,x=.str z/\ĕ<=â/\Q (.str (cutS z a b)) H
def y8d:gJ X fm:=by
 intro o s σ H x v m n k p j Q I b d f i h;let{z,rfl,c,q}:=h;let{t,rfl}:=(show ∃t,v=ĥa z t from b);let{l,rfl,rfl}:=eJ f;let{u,rfl,rfl}:=eJ i;show{ãb,_,F.slot_str_getitem.lookup,śc _ _ _,?_};show wpAny_getItem_str_slice (l:=l) (u:=u) (st:=Ä) d rfl ?_;unfold sliceMade;let g:slicePicked z l u Ä=ęe (ş (·.1)) (u.map (·.1)) 1 ĕ:=rfl;rw[g]
 split;rename_i a
 let e:(ęe (ş (·.1)) (u.map (·.1)) 1 ĕ).length=ĕ:=by rw[Ğ]at a;show że a.2
 rw[z01 z _ _ e]at q;show{.str z,H,I,{_,rfl},q};rw[sw];show{ģ (Fy z _ _) c,.str _,H,Ų _,{_,rfl},q}
#print a
#print L2
namespace L2
open ě ħ Ģ
section
variable{κ:Type}[Ňb κ]
nonrec def tS(kvs:Á ūa)(k:κ):É V:=(kvs.find? λa=>decide (a.1=k)).map (·.2)
nonrec def uT(kvs:Á ūa)(k:κ)(v:V):Á ūa:=
 if(kvs.any λa=>decide (a.1=k))=Æ then ßd (λa=>if a.1=k then(a.1,v)else a)else kvs++[(k,v)]
theorem MH{p:κ×V}{r:Á ūa}{k:κ}(e:p.1=k):tS (p::r) k=À p.2:=by simp[tS,ϐc,e]
theorem MF{p:κ×V}{r:Á ūa}{k:κ}(e:¬ p.1=k):tS (p::r) k=tS r k:=by simp[tS,ϐc,e]
theorem m4(k:κ):∀kvs:Á ūa,œj=(Íf).isSome
 | []=>rfl|p::r=>by rw[Ϛc];by_cases e:p.1=k;simp only[MH e,ĉ e,Bool.true_or,Option.isSome_some];rw[MF e,į e,Bool.false_or];show m4 k r
def GD(kvs:Á ūa)(k:κ)(v:V):(ôh).length<=Ĺ+1:=by
 unfold uT
 split;rw[ì];omega;rw[í,Ď,Śa];omega
def uA.Yi{o:É V}{u:É Value}(r:uA o u):o.isSome=u.isSome:=by
 cases o with
 |Ä=>cases u with
  |Ä=>rfl|À _=>show(show õ from r).elim
 |À _=>cases u with
  |Ä=>show(show õ from r).elim|À _=>rfl
theorem uA.getD{o:É V}{u:É Value}{d:V}{d':Value}(r:uA o u)(a:zw d d'):zw Ĝn (u.getD d'):=by
 cases o with
 |Ä=>cases u with
  |Ä=>show a|À _=>show(show õ from r).elim
 |À _=>cases u with
  |Ä=>show(show õ from r).elim|À _=>show r
def KV.val{kvs:Á ūa}{vs:Á Ϭc}(r:KV kvs vs)(k:κ):uA Íf (řb vs k):=by
 unfold KV at r
 induction r with
 |nil=>show ľa|@cons p q ps qs h t ih=>
  let{c,d}:=h;rw[Ϥo];let b:řb ŏf k=À q.2:=by simp[řb,ϐc,a]
  rw[MH e,b];show d;let a:¬ q.1=k:=λz=>e (Ťa z)
  let b:řb ŏf k=řb qs k:=by simp[řb,ϐc,a]
  rw[MF e,b];show ih
theorem KV.any{kvs:Á ūa}{vs:Á Ϭc}(r:KV kvs vs)(k:κ):œj=vs.any λkv=>decide ãi:=by
 unfold KV at r
 induction r with
 |nil=>rfl|ā h t ih=>rw[Ϛc,Ϛc,ih,h.1]
theorem KV.Ba{kvs:Á ūa}{vs:Á Ϭc}(r:KV kvs vs)(k:κ){y:V}{u:Value}(b:zw y u) :KV âj (śf λkv=>if kv.1=k then(kv.1,u)else kv):=by
 unfold KV at r ⊢
 induction r with
 |nil=>show .nil|@cons p q ps qs h t ih=>rw[Ň,Ň];show .cons ?_ ih;let{a,c}:=h;by_cases e:p.1=k;rw[Ò e,Ò ġl];show{a,b};rw[Ó e,Ó ĳk];show{a,c}
def KV.put{kvs:Á ūa}{vs:Á Ϭc}(r:KV kvs vs)(k:κ){y:V}{u:Value}(a:zw y u):KV Ōm (Ϻb vs k u):=by unfold uT Ϻb;rw[r.any k];by_cases e:(vs.any λb=>decide (b.1=k))=Æ;rw[Ò e,Ò e];show r.Ba k a;rw[Ó e,Ó e];show ύm r {rfl,a}
theorem KV.length{kvs:Á ūa}{vs:Á Ϭc}(r:KV kvs vs):Ĺ=ü:=Áh r
#print a
def js{P:ë}{w:å}{k:zV}{u:Value}(r:zw Ži u):(ģa).is k u=Æ:=by
 cases k with
 |inl i=>let{t,e}:=(show ∃t,u=Ēc i t from r);subst e;show z64 P w i t
 |inr x=>let{t,e}:=(show ∃t,u=ĥa x t from r);subst e;show GK P w x t
theorem cy{P:ë}{w:å}:∀{ks:Á zV}{us:Á Value},zm (êd kV) us->ItemsAre ģa ks us
 | [],_,r=>by rw[ϛe]at r;cases r;show .nil|k::ks,_,r=>by
  rw[Ň]at r;cases r with
  |ā h t=>show .cons (js h) (cy t)
abbrev KT(H:Hp):Á ďb->Á äc->Ç:=Ŀc λp q=>p.1=q.1/\H q.2.1=À Ůk/\zw p.2 q.2.2
def KT.val{H:Hp}{kvs:Á ďb}{xs:Á äc}(r:KT H kvs xs)(k:Á zV):uA Íf ((ùh).map (·.2)):=by
 induction r with
 |nil=>show ľa|@cons p q ps qs h t ih=>
  let{c,_,d}:=h;rw[Ϥo];let b:äe ŏf k=À q.2:=by simp[äe,ϐc,a]
  rw[MH e,b];show d;let a:¬ q.1=k:=λz=>e (Ťa z)
  let b:äe ŏf k=äe qs k:=by simp[äe,ϐc,a]
  rw[MF e,b];show ih
def KT.Ba{H:Hp}{kvs:Á ďb}{xs:Á äc}(r:KT H kvs xs)(k:Á zV){y:V}{u:Value}(c:zw y u) :KT H âj (ĸc (šb k u)):=by
 induction r with
 |nil=>show .nil|@cons p q ps qs h t ih=>rw[Ň,Ň];show .cons ?_ ih;let{a,b,d}:=h;unfold šb;by_cases e:p.1=k;rw[Ò e,Ò ġl];show{a,b,c};rw[Ó e,Ó ĳk];show{a,b,d}
def KT.put{H:Hp}{kvs:Á ďb}{xs:Á äc}(r:KT H kvs xs)(k:Á zV){b:Ì}{y:V}{u:Value}(c:H b=À ŕg)(a:zw y u) :KT H Ōm (storedH xs k b u):=by
 let e:(kvs.any λd=>decide (d.1=k))=(ùh).isSome:=by rw[m4,(r.val k).Yi,Łg]
 unfold uT storedH;rw[e];by_cases q:(ùh).isSome=Æ;rw[Ò q,Ò q];show r.Ba k a;rw[Ó q,Ó q];show ύm r {rfl,c,a}
def KT.keeps{H H':Hp}{kvs:Á ďb}{xs:Á äc}(r:KT H kvs xs)(a:∀b ys,H b=À Ţd->H' b=À Ţd):KT H' kvs xs:=
 ðf r λ_ _ z=>{z.1,a _ _ z.2.1,z.2.2}
section
variable{P:ë}{w:å}{H:Hp}{h:Heap}{a:Ì}
def h8{u:HO}(ok:xg P w H h)(e:Rd H a u):yz P w H h a u:=e.ok ok
def kC{kvs:Á Ϗ}(ok:xg P w H h)(e:Rd H a ň):Ĺ<=â/\Îa=Â/\∃vs,KV kvs vs/\Ìd ģa a vs:=
 show yz P w H h a ň from h8 ok e
def z0i{kvs:Á Ϗ}(ok:xg P w H h)(e:H a=À ň):Ĺ<=â/\Îa=Â/\∃vs,KV kvs vs/\Ìd ģa a vs:=kC ok øi
def QR{ks:Á zV}(ok:xg P w H h)(e:H a=À Ūl):(ĵd).is h ks a:=by let{_,b,r,o,c,d,n,f}:=(show yz P w H h a Ūl from ok a _ e);show{o,Ϣa,n,c,d,f,by simpa using cy r}
def V5{kvs:Á ďb}(ok:xg P w H h)(e:Rd H a Őb):Ĺ<=â/\Îa=Â/\
  ∃xs,KT H kvs xs/\Ŧn ĵd a xs:=by
 let{z,y,xs,r,o,n,d,j,k,f,i,g}:=(show yz P w H h a Őb from h8 ok e);show{z,y,xs,r,o,n,d,j,k,f,i,λx b=>?_,g}
 let c:∀{l:Á ďb} {m:Á äc},KT H l m->∀x∈m,(ĵd).is h x.1 x.2.1:=by
  intro l m q
  induction q with
  |nil=>intro x b;show nomatch b|@cons p q ps qs hq t ih=>intro x b;rcases Ī b with e|b;subst e;show QR ok (by rw[<-hq.1];show hq.2.1);show ih x b
 show c r x b
def z0o{kvs:Á ďb}(ok:xg P w H h)(e:H a=À Őb):Ĺ<=â/\Îa=Â/\
  ∃xs,KT H kvs xs/\Ŧn ĵd a xs:=V5 ok øi
#print a
def Ug(H:Hp)(a:Ì)(y:V)(r:É V):Ç:=
 (∃kvs k,Rd H a ň/\y=kV k/\r=tS kvs k)\/∃kvs k b,Rd H a Őb/\y=.ref b/\H b=À ŕg/\r=tS kvs k
def Su(H:Hp)(a:Ì)(y v:V)(H':Hp):Ç:=
 (∃kvs k,H a=À ň/\y=kV k/\Ĺ<â/\H'=zT H a (.dK ôh)) \/
 ∃kvs k b,H a=À Őb/\y=.ref b/\H b=À ŕg/\Ĺ<â/\H'=zT H a (.dT ôh)
section
variable{X:Cx}{z6:Á ð}{σ:St}{H:Hp}{s:Ï}{a:Ì}{y v:V}{u r:Value}{o:É V}{A:û}{E:Value->Ï->Ç}
def zE.big(I:zE X z6 σ H s):ϩg<Ý:=by let h:ď<Ý:=(I.mod.glob.keeps I.bk).lt;show ðh Í h
def z03{Q:Value->Ï->Ç}(p:ďa+1<ų)(I:zE X z6 σ H s)(g:Ug H a y o)(m:zw y u)(h:∀s',zE X z6 σ H s'->Q (.bool o.isSome) s') :Û ÿ A (àa .In u ŝ) Q E s:=by rcases g with⟨d,k,e,f,l⟩|⟨d,k,b,e,f,n,l⟩;rw[ϸo];show Űm (js m) i Ąi ?_;rw[ēo];show wpAny_in_heap (ĕe p) ħn i j ?_;rw[Ŏo]
def z04{Q:Value->Ï->Ç}(p:ďa+1<ų)(I:zE X z6 σ H s)(g:Ug H a y o)(m:zw y u)(h:∀s',zE X z6 σ H s'->Q (.bool (!o.isSome)) s') :Û ÿ A (àa .NotIn u ŝ) Q E s:=by rcases g with⟨d,k,e,f,l⟩|⟨d,k,b,e,f,n,l⟩;rw[ϸo];show Ŷl (js m) i Ąi ?_;rw[ēo];show wpAny_notIn_heap (ĕe p) ħn i j ?_;rw[Ŏo]
def bK{h':Heap}{t':Ã}{c:HO}(I:zE X z6 σ H s)(g:T9 (H a))(h:Éb a ß h')(f:∃q,Ė a=À q)(d:yz ô X.w Ĉn h' a c) :zE X z6 σ Ĉn { s with é:=h',Ċ:=t' }:=
 ϱd (x:=a) (e:=a) g ą (λb q i z=>(h.2 b i).trans z) f d
def C5{P:ë}{w:å}{H':Hp}{h':Heap}{kvs:Á Ϗ}{vs:Á Ğa}(z:Ĺ<=â)(c:Îa=Â)(b:KV kvs vs)(d:æf ģa a vs) :yz P w H' h' a ň:={z,c,vs,b,d}
def z05{H':Hp}{Q:þa->Ï->Ç}(L:ďa+1<ų)(I:zE X z6 σ H s)(g:Su H a y v H')(K:zw y u)(C:zw v r)(h:∀s',zE X z6 σ H' s'->Q () s') :Û ÿ A (Ăi ŝ u r) Q E s:=by
 rcases g with⟨f,k,e,x,l,B⟩|⟨f,k,b,e,x,G,l,B⟩;subst x B;let{z,p,T,d,n}:=z0i đ e;have t:ģc<=â:=by rw[<-Óa];show z
 rw[Ũo]
 show wpAny_setItem_pairs (hsz:=t) (js K) n λJ i m=>h _ ?_
 let P:∃q,J.get? a=À q:=let ⟨q,_,_,j,_⟩:=i;{q,j};show bK I İg m P (C5 o p (d.put k C) i);subst x B;cases(show u=Ĉ b from K);let{z,p,U,d,n}:=z0o đ e;have t:U.length<=â:=by rw[<-Áh d];show z
 rw[Ũo]
 show wpAny_setItem_heap (hsz:=t) (ĕe L) (QR đ G) n λJ i m=>h _ ?_
 let{q,Z,R,j,O,S,N,_,Y}:=i;refine bK I İg m {q,j} {o,p,_,(d.put k G C).keeps λc ys F=>?_,q,Z,R,j,O,S,N,Y};rw[zy (z6r F e Ća)];show F
#print a
def z0f{X:Cx}{f:Á ð}{σ:St}{H:Hp}{s:Ï}{a:Ì}{y:V}{o:É V}(I:zE X f σ H s)(g:Ug H a y o):ĕb ŝ Ź:=by rcases g with⟨c,k,e,_,_⟩|⟨c,k,b,e,_,_,_⟩;let{_,_,i,_,d}:=kC đ e;show Æi;let{_,_,h,_,d}:=V5 đ e;show Æi
nonrec def y5y(d f c:TE):TS:=λD σ H=>c σ H λv e=>d σ e λx g=>f σ g λy b=>∃a H4,x=.ref a/\Su b a y v H4/\œa σ H4
section
variable{X:Cx}{o i e ϳa:Õ}{pos èa:Pos}{td ty tv:TE}
def eg(f:ńa+1<ų)(F:PE X o td)(hi:PE X i ty)(hv:PE X ϳa tv)(e:ϊb ϳa (À (.Subscript o i èa)) ϻc Ö=pure Â) :PS X (.Assign [.Subscript o i èa] ϳa pos) (y5y td ty tv):=by intro b s σ H D I h;show wpAny_Assign_Subscript (zi (hv b s σ H _ I h) λr B ⟨v,n,p,c,C⟩=>zi (F b B σ n _ p C) λu w ⟨x,G,d,q,E⟩=>zi (hi b w σ G _ d E) λK L ⟨y,N,j,z,a,m,l,g,k⟩=>?_) e;subst l;obtain rfl:u=Ĉ a:=q;show z05 f j g z c λJ t=>{σ,m,t,k}
#print a
def z0h{P:ë}{w:å}{H:Hp}(h:Heap)(a:ϩg<ϙa):yz P w H (ŕi { cls:=.type Ź,ă:=.dict #[] }) ϙa (.dK []):=
 {Ĉa _,Üc (Ùb (ϓ a)),[],.nil,ľl h}
def y9g:TE:=λ_ H Q=>∀p,H p=Ä->Q Ů (γ (.dK []))
section
variable{X:Cx}{pos:Pos}
def y2w:PE X øl y9g:=λb s σ H Q I h=>
 wpAny_Dict_empty {.ref Ý,_,īa (a:=Ý) (o:=.dK []) (t':=Ć) ĵg ċ (z0h ß I.big),rfl,h _ Ád}
#print a
abbrev VV:Á (V×V)->Á (Value×Value)->Ç:=Ŀc λp q=>zw p.1 q.1/\zw p.2 q.2
def kR(kvs a:Á Ϗ):Á Ϗ:=a.foldl (λb c=>uT b c.1 c.2) kvs
def KV.merge:∀{more:Á Ϗ} {rs:Á Ğa} {kvs:Á Ϗ} {vs:Á Ğa},KV more rs->KV kvs vs->KV Ĉm (merged vs rs):=by
 intro more rs kvs vs r;unfold KV at r
 induction r generalizing kvs vs with
 |nil=>intro q;show q|@cons p q ps qs h t ih=>
  intro a
  let e:KV Ťg (Ϻb vs q.1 q.2):=by let:=a.put p.1 h.2;rw[<-h.1];rw[đo]
  show ih e
theorem dG:∀(more kvs:Á Ϗ),(Ĉm).length<=Ĺ+more.length
 | [],kvs=>by exact Ĺ<=Ĺ+0;omega|p::r,kvs=>by let a:=dG r Ťg;let b:=GD kvs p.1 p.2;exact(kR Ťg r).length<=_;rw[Ď];omega
structure M2(X:Cx)(o:Õ)(m:È)(š:Pos)(e f:Õ)(Ž:Pos):Ç where
 Ë:Ëa o m Ö Ċb=ý o Ö
 Jx:((ϻb Ž Ől).all Ěh&&(ħj).all ál
  && decide (([e,f]:Á Õ).length+([]:Á ľf).length+ùj<30))=Æ
 line:(apos.endLine==cpos.line)=Æ
 trees:ϻb Ž Ől=[(Â,ý e Ö),(Â,ý f Ö)]
def Ax(H:Hp)(a:Ì):Ç:=(∃kvs,Rd H a ň)\/∃kvs,Rd H a Őb
def z40{X:Cx}{j:Á ð}{σ:St}{H:Hp}{s:Ï}{a:Ì}(I:zE X j σ H s)(d:Ax H a) :ĕb ŝ Ź/\(∀b,Ĉ a=.ref b->∃ob,Ă b=À ob/\ob.dict=Ä)/\Îa=Â:=by rcases d with⟨f,e⟩|⟨f,e⟩;let{_,g,l,_,c}:=kC đ e;rw[ĩo];let{_,g,k,_,c}:=V5 đ e;rw[ĩo]
section
variable{X:Cx}{z6:Á ð}{σ:St}{H:Hp}{s:Ï}{a:Ì}{y d:V}{u r:Value}{o:É V}{A:û}{E:Value->Ï->Ç}
def z02{Q:Value->Ï->Ç}(v:ďa+1<ų)(I:zE X z6 σ H s)(g:Ug H a y o)(p:zw y u)(n:zw d r)(h:∀w' s',zE X z6 σ H s'->zw Ĝn w'->Q w' s') :Û ÿ A (źa (.builtin "dict.get") [.ref a,u,r]) Q E s:=by rcases g with⟨i,k,e,j,l⟩|⟨i,k,b,e,j,t,l⟩;subst j;let{z,m,x,c,f}:=kC đ e;show Ĝd Čg Íd ék Ŗj (meets_dict_get_default Ņb a (js p) m r) {_,f.mapOf,h _ _ ϳb ?_};rw[l];show(Ãd).getD n;subst j;cases(show u=Ĉ b from p);let{z,m,q,c,f}:=V5 đ e;show Ĝd Čg Íd ék Ŗj (meetsH_dict_get_default (tupleKind Ņb) a b m r) {ĕe v,k,q,QR đ t,f,h _ _ ϳb ?_};rw[l];show(Ãd).getD n
#print a
nonrec def y9f(e f d:TE):TE:=λσ H Q=>e σ H λx c=>∃a,x=.ref a/\Ax c a/\f σ c λy g=>d σ g λz b=>∃o,Ug b a y o/\Q (o.getD z) b
section
variable{X:Cx}{o e f:Õ}{š Ž:Pos}{td ty tx:TE}
def y2v(n:ńa+1<ų)(O:PE X o td)(C:PE X e ty)(v:PE X f tx)(m:M2 X o "get" š e f Ž):PE X (.Call Êk [e,f] [] Ž) (y9f td ty tx):=by
 intro c s σ H Q I h;show wpAny_Call_method m.base m.Jx m.line Ěe Čg PySem.F.type_dict_get (zi (O c s σ H _ I h) λu K ⟨x,t,i,B,a,r,d,L⟩=>?_);subst r;obtain rfl:u=Ĉ a:=B;let{P,k,_}:=z40 i d;show{P,k,?_};rw[m.trees]
 refine Śc rfl (àg (ċd (zi (C c K σ t _ i L) λY G ⟨y,R,j,J,N⟩=>
  ċd (zi (v c G σ R _ j N) λS Z ⟨z,w,p,l,ov,g,q⟩=>óg ?_))))
 show z02 n p g J l λT U E b=>{_,w,E,b,q}
#print a
#print L2
namespace L3
open ě
inductive D where
 |zG|bl (b:Ð)|int (i:Å)|str (x:È)|tup (xs:Á D)|lst (xs:Á D)|dic (ks:Á Ķ) (vs:Á D)|exc (x:È)|obj (x:È) (fs:Á È) (vs:Á D)
def ϓf{P:D->Ç}(q:P .zG)(r:∀b,P ϭa)(c:∀i,P Ϡ)(k:∀x,P œb)(m:∀xs,(∀d∈xs,P d)->P Ħa)(a:∀xs,(∀d∈xs,P d)->P Ċa)(l:∀ks xs,(∀d∈xs,P d)->P (.dic ks xs))(j:∀x,P (.exc x))(g:∀x fs xs,(∀d∈xs,P d)->P (.obj x fs xs))(d:D):P d:=
 D.rec (motive_1:=P) (motive_2:=λn=>∀d∈n,P d) q r c k (λxs h=>m xs h) (λxs h=>a xs h) (λks xs h=>l ks xs h) j (λx fs xs h=>g x fs xs h) Ϛk
  (λd n p f e o=>by rcases Ī o with z|z;show z▸p;show f e z) d
mutual
nonrec def wH:D->D->Ð
 |.zG,.zG=>Æ|.bl a,.bl b=>a==b|.bl a,.int b=>Ļk==b|.int a,.bl b=>a==Ĕd|.int a,.int b=>a==b|.str a,.str b=>a==b|.tup xs,.tup ys=>ŧb xs ys|.lst xs,.lst ys=>ŧb xs ys|_,_=>Â
nonrec def ŧb:Á D->Á D->Ð
 | [],[]=>Æ|x::xs,y::ys=>wH x y&&ŧb xs ys|_,_=>Â
end
abbrev Sl:=Ð×D
abbrev yK:=Á (É Sl)
abbrev FE:=yK->É D
abbrev FT:=yK->É Ð
abbrev FA:=yK->É Ĥb
abbrev FG:=D->yK->É yK
inductive Fl where
 |nx (σ:yK)|rt (o:Ð) (d:D)|bk (σ:yK)|ct (σ:yK)
abbrev FS:=yK->É Fl
abbrev yr:Ã:=16777216
nonrec def z0(i:Ã):FE:=λσ=>match σ[i]? with
 |À ñc=>À d|_=>Ä
nonrec def X8(i:Ã):FE:=λσ=>match σ[i]? with
 |À ϭm=>À d|_=>Ä
nonrec def eC(d:D):FE:=λ_=>À d
nonrec def e1(F:D->É D)(a:FE):FE:=λσ=>(ϳ).bind F
nonrec def e2(F:D->D->É D)(a b:FE):FE:=λσ=>(ϳ).bind λx=>(õd).bind λy=>F x y
nonrec def eL(F:Á D->É D)(a:FA):FE:=λσ=>(ϳ).bind F
nonrec def zF:FA:=λ_=>À []
nonrec def zA(a:FE)(r:FA):FA:=λσ=>(ϳ).bind λx=>(r σ).bind λb=>À (x::b)
nonrec def k9:D->É Ð
 |.bl b=>À b|_=>Ä
def tE(a:FE):FT:=λσ=>(ϳ).bind k9
nonrec def Z4(a b:FT):FT:=λσ=>(ϳ).bind λk=>match k with
 |Æ=>b σ|Â=>À Â
nonrec def uw(a b:FT):FT:=λσ=>(ϳ).bind λk=>match k with
 |Æ=>À Æ|Â=>b σ
nonrec def qG(a:FT):FT:=λσ=>(ϳ).bind λk=>À (!k)
def Zs(a b:FE):FE:=λσ=>(ϳ).bind λx=>(Űf).bind λk=>match k with
 |Æ=>b σ|Â=>À ò
def Th(a b:FE):FE:=λσ=>(ϳ).bind λx=>(Űf).bind λk=>match k with
 |Æ=>À ŉ|Â=>b σ
def Tg(a:FE):FE:=λσ=>(ϳ).bind λx=>(Űf).bind λk=>À Šh
nonrec def vC(c:FT)(a b:FE):FE:=λσ=>(Þe).bind λk=>match k with
 |Æ=>a σ|Â=>b σ
nonrec def wp(a:FA):FE:=λσ=>(ϳ).bind λb=>À (.tup b)
nonrec def v3(a:FA):FE:=λσ=>(ϳ).bind λb=>À (.lst b)
nonrec def yf:D->D->É D
 |.int i,.int j=>À Řd|.int i,.bl b=>À (Δ (i+Ĕd))|.str x,.str y=>if Ða+Żb<=yr then À (.str Õe)else Ä|.lst x,.lst y=>if Ða+Żb<=yr then À (Ε Õe)else Ä|.tup x,.tup y=>if x.isEmpty=Â/\Ða+Żb<=yr then À (.tup Õe)else Ä|_,_=>Ä
nonrec def fI(C:Å->Å->Ð)(g:Å->Å->Å):D->D->É D
 |.int i,.int j=>match C i j with
  |Æ=>À ϗn|Â=>Ä
 |_,_=>Ä
nonrec def qU:D->D->É D
 |.int i,.int j=>À (Δ (i-j))|_,_=>Ä
nonrec def tJ(i:Å):Ð:=decide (-ĥf<i)&&decide (i<2 ^ 64)
def tH:D->D->É D:=fI (λi _=>tJ i) (·*·)
def Zw:D->D->É D:=fI (λ_ j=>tJ j) (·*·)
def vx:D->D->É D:=fI (λ_ j=>decide (0<j)) (· % ·)
def Zv:D->D->É D:=fI (λ_ j=>decide (0<j)&&decide (j<2 ^ 64)) (· / ·)
nonrec def qA(i j:Å):Ð:=decide (0<=j)&&(decide (j<=1000000)&&decide (Ëd<2 ^ 64))
def Tn:D->D->É D:=fI qA λi j=>i ^ ϝb
def vy:D->D->É D:=fI qA λi j=>i*2 ^ ϝb
def V8:D->D->É D:=fI (λ_ j=>decide (0<=j)) λi j=>i/2 ^ ϝb
nonrec def qT(g:Å->Å->Å):D->D->É D
 |.int i,.int j=>À ϗn|_,_=>Ä
nonrec def Zx:D->É D
 |.int i=>À (Δ (-i))|_=>Ä
nonrec def CI:D->É D
 |.int i=>À (Δ ėi)|_=>Ä
nonrec def wZ(g:Å->Å->Ð):D->D->É D
 |.int i,.int j=>À (.bl Ŧa)|_,_=>Ä
nonrec def XR:D->Ð
 |.zG=>Æ|_=>Â
def jm:D->D->É D
 |x,.zG=>À (.bl (XR x))|_,_=>Ä
def kF:D->D->É D
 |x,.zG=>À (.bl (!XR x))|_,_=>Ä
nonrec def xV:D->Ð
 |.zG=>Æ|.bl _=>Æ|.int _=>Æ|.str _=>Æ|_=>Â
nonrec def qz(f:D->D->Ð):Á D->Á D->Ð
 |x::xs,y::ys=>f x y&&qz f xs ys|_,_=>Æ
def uC:Ã->D->D->Ð
 |0,_,_=>Â|n+1,x,y=>match x,y with
  |.tup xs,.tup ys=>qz łc xs ys|.lst xs,.lst ys=>qz łc xs ys|x,y=>xV x&&xV y
def kE:D->D->É Ð
 |.int _,.bl _=>Ä|.bl _,.int _=>Ä|x,y=>match uC 6 x y with
  |Æ=>À (wH x y)|Â=>Ä
def zh(x y:D):É D:=(kE x y).bind λk=>À Äe
def xE(x y:D):É D:=(kE x y).bind λk=>À Šh
nonrec def uo:D->É Ķ
 |.int i=>À õi|.str x=>À Įf|_=>Ä
nonrec def Ĳ{α:Type}:Á Ķ->Á α->Sum Å È->É α
 |k'::ks,v::vs,k=>if k'=k then À v else Ĳ ks vs k|_,_,_=>Ä
nonrec def vW(ks:Á Ķ)(k:Sum Å È):Ð:=ks.any λj=>decide (j=k)
def vk(ks:Á Ķ)(k:Sum Å È):Á Ķ:=if vW ks k=Æ then ks else ks++[k]
def wc(ks:Á Ķ)(vs:Á α)(k:Sum Å È)(v:α):Á α:=if vW ks k=Æ then Łb (λa x=>if a=k then v else x) ks vs else vs++[v]
def CG(x:D):D->É Ð
 |.lst ys=>match xV x&&ķc xV with
  |Æ=>À Ĳe|Â=>Ä
 |.tup ys=>match xV x&&ķc xV with
  |Æ=>À Ĳe|Â=>Ä
 |.str j=>match x with
  |.str i=>À Źj|_=>Ä
 |.dic ks _=>(Łc).bind λk=>À Ϩh|_=>Ä
def vw(x y:D):É D:=(CG x y).bind λk=>À Äe
def V7(x y:D):É D:=(CG x y).bind λk=>À Šh
nonrec def uh(xs:Á α)(i:Å):É α:=if 0<=i then xs[Ϯd]? else if -(ç:Å)<=i then xs[(i+ç).toNat]? else Ä
def zL:D->D->É D
 |.lst xs,.int i=>uh xs i|.tup xs,.int i=>uh xs i|.str z,.int i=>(ėn).bind λc=>À ϑe|.dic ks vs,k=>(uo k).bind λk=>Ĳ ks vs k|_,_=>Ä
nonrec def xq:Á D->É D
 | [.lst xs]=>À ņn| [.tup xs]=>À ņn| [.str z]=>À Ņn|_=>Ä
nonrec def OA:Á D->É D
 | [.int i]=>À Ϡ| [.bl k]=>À (Δ ĺk)|_=>Ä
inductive t9 where
 |int|bool|str|list|tuple
nonrec def t9.nm:t9->Åa
 |.int => ϲa|.bool => Æe|.str => ãb|.list => Ġ|.tuple => ō
nonrec def g6:D->É (Ð×Ð×Ð×Ð×Ð)
 |.zG=>À (Â,Â,Â,Â,Â)|.bl _=>À (Æ,Æ,Â,Â,Â)|.int _=>À (Æ,Â,Â,Â,Â)|.str _=>À (Â,Â,Æ,Â,Â)|.tup _=>À (Â,Â,Â,Â,Æ)|.lst _=>À (Â,Â,Â,Æ,Â)|.dic _ _=>Ä|.exc _=>Ä|.obj _ _ _=>Ä
nonrec def t9.sel:t9->Ð×Ð×Ð×Ð×Ð->Ð
 |.int,k=>k.1|.bool,k=>k.2.1|.str,k=>k.2.2.1|.list,k=>k.2.2.2.1|.tuple,k=>k.2.2.2.2
def QN(T:t9)(d:D):É Ð:=(g6 d).bind λk=>À (T.sel k)
def j5(T:t9)(a:FE):FE:=λτ=>(a τ).bind λd=>(QN T d).bind λb=>À ϭa
nonrec def wT(a:FE):FA:=λσ=>(ϳ).bind λd=>match d with
 |.lst xs=>À xs|.tup xs=>À xs|.str z=>À (ÿl λc=>.str {#[c]})|_=>Ä
nonrec def p9(lo hi:FE):FA:=λσ=>(Ĳi).bind λx=>(Ķi).bind λy=>match x,y with
 |.int i,.int j=>if Ëd<=yr/\đf<=yr/\(j-i).toNat<=yr then À ((Āa (j-i).toNat).map λk:Ã=>.int Ŋc)else Ä|_,_=>Ä
nonrec def yF(i:Ã):FG:=λd σ=>À (Χ ñc)
nonrec def xh(i j:Ã):FG:=λd σ=>match d with
 |.tup Ťb=>À ((Χ (À (Â,x))).set j (À (Â,y)))|_=>Ä
nonrec def yQ:FS:=λσ=>À Ĩf
nonrec def zN(a b:FS):FS:=λσ=>(ϳ).bind λf=>match f with
 |.nx σ'=>b σ'|f=>À f
nonrec def zj(i:Ã)(e:FE):FS:=λσ=>(Ņc).bind λd=>À Ŭl
nonrec def tQ(i:Ã)(e:FE):FS:=λσ=>(Ņc).bind λd=>À (.nx (Χ žb))
nonrec def zg(e:FE):FS:=λσ=>(Ņc).bind λd=>À (.rt Â d)
nonrec def uV(e:FE):FS:=λσ=>(Ņc).bind λd=>À Ùn
nonrec def jI(i:Ã):FS:=λσ=>match σ[i]? with
 |À žb=>À Ùn|_=>Ä
nonrec def yN(c:FT)(a b:FS):FS:=λσ=>(Þe).bind λk=>match k with
 |Æ=>a σ|Â=>b σ
nonrec def pA(g:FG)(b:FS):Á D->yK->É Fl
 | [],σ=>À Ĩf|d::r,σ=>(Ģf).bind λσ1=>(b σ1).bind λf=>match f with
  |.nx σ2=>pA g b r σ2|.ct σ2=>pA g b r σ2|.bk σ2=>À ϭh|.rt o d=>À ão
def vY(it:FA)(g:FG)(b:FS):FS:=λσ=>(it σ).bind λa=>pA g b a σ
nonrec def pK(c:FT)(b:FS):Ã->yK->É Fl
 |0,_=>Ä|n+1,σ=>(Þe).bind λk=>match k with
  |Â=>À Ĩf|Æ=>(õd).bind λf=>match f with
   |.nx σ2=>pK c b n σ2|.ct σ2=>pK c b n σ2|.bk σ2=>À ϭh|.rt o d=>À ão
nonrec def ZU:Ã:=100000000
def Qy(c:FT)(b:FS):FS:=λσ=>pK c b ZU σ
nonrec def kz(i:Ã):FS:=λσ=>match σ[i]? with
 |À ϭm=>À Ŭl|_=>Ä
nonrec def i8(i:Ã)(F:D->É D):FS:=λσ=>match σ[i]? with
 |À žb=>(F d).bind λa=>À Ϯj|_=>Ä
nonrec def qb(i:Ã)(F:D->D->É D)(e:FE):FS:=λσ=>match σ[i]? with
 |À žb=>(Ņc).bind λx=>(F d x).bind λa=>À Ϯj|_=>Ä
nonrec def j6:D->D->É D
 |.lst xs,y=>if ç<yr then À Ŏl else Ä|_,_=>Ä
def YH(i:Ã)(k v:FE):FS:=λσ=>(v σ).bind λy=>match σ[i]? with
 |À (À (Æ,.dic ks ds))=>(k σ).bind λx=>(Łc).bind λx=>if Ŋ<yr then À (.nx (Χ (À (Æ,.dic Ϲn ϣl))))else Ä|_=>Ä
def xY(ks:Á Ķ)(ds:Á D)(x:D):É D:=(Łc).bind λk=>Ĳ ks ds k
def Tl(ks:Á Ķ)(x:D):É D:=(Łc).bind λk=>À (.bl Ϩh)
def X9(ks:Á Ķ)(x:D):É D:=(Łc).bind λk=>À (.bl ōn)
def C8(d k e:FE):FE:=λσ=>(d σ).bind λx=>match x with
 |.dic ks ds=>(k σ).bind λy=>(Ņc).bind λz=>(uo y).bind λy=>À ((Ĳ ks ds y).getD z)|_=>Ä
def Tf(F d:D->D->É D)(a b c:FE):FE:=λτ=>(a τ).bind λx=>(b τ).bind λy=>(F x y).bind λk=>(k9 k).bind λk=>match k with
 |Æ=>(c τ).bind λz=>d y z|Â=>À ò
nonrec def yc(g:FG)(c:FT)(e:FE)(σ:yK):Á D->É Ĥb
 | []=>À []|d::r=>(Ģf).bind λσ1=>(c σ1).bind λk=>match k with
  |Æ=>(œf).bind λx=>(yc g c e σ r).bind λa=>À (x::a)|Â=>yc g c e σ r
nonrec def yl:FT:=λ_=>À Æ
def xK(n:Ã)(it:FA)(g:FG)(c:FT)(e:FE):FE:=λσ=>(it σ).bind λb=>(yc g c e źg b).bind λa=>À (.lst a)
nonrec def yI(n:Ã)(b:FS)(ds:Á D):É ê:=(b (μd (n-ę))).bind λf=>match f with
 |.rt o d=>À (o,d)|.nx _=>À (Â,.zG)|_=>Ä
nonrec def za(F:Á D->É ê)(a:FA):FE:=λσ=>(ϳ).bind λb=>(F b).bind λr=>À r.2
nonrec def vh(F:Á D->É ê)(a:FA):FE:=λσ=>(ϳ).bind λb=>(F b).bind λr=>match r with
 |(Æ,d)=>À d|_=>Ä
open ħ Ģ L2
abbrev St:=L2.St
def oA(_:Ñ)(H:Hp)(a:Ì)(kvs:Á Ϗ):Ç:=Rd H a ň
mutual
def zW(K:Ñ)(H:Hp):D->V->Ç
 |.zG,v=>v=.zG|.bl b,v=>v=.bl b|.int i,v=>v=.int i|.str x,v=>v=.str x/\Ða<=â|.tup ds,v=>∃a vs,v=.ref a/\ye K H a vs/\ã K H ds vs/\ę<=â|.lst ds,v=>∃a vs,v=.ref a/\yU K H a vs/\ã K H ds vs/\ę<=â|.dic ks ds,v=>∃a vs,v=.ref a/\oA K H a ĝa/\Ŋ=ü/\ã K H ds vs/\ę<=â|.exc x,v=>∃a C,v=.ref a/\Ū K ď x=À ôa/\H a=À (.ext (n_ a C))|.obj x fs ds,v=>∃a C dx vs,v=.ref a/\Ū K ď x=À ôa/\H a=À ÿg/\Ġa=ü/\ã K H ds vs
def ã(K:Ñ)(H:Hp):Á D->Á V->Ç
 | [],vs=>vs=[]|d::ds,vs=>∃v r,vs=v::r/\zW K H d v/\ã K H ds r
end
section
variable{K:Ñ}{H H':Hp}
def ϯb{a:Ì}{u:HO}(s:zt H H')(h:Rd H a u):Rd H' a u:=by rcases h with h|⟨o,h⟩;show .inl (s _ _ h);show .inr {o,s _ _ h}
def vO(s:zt H H')(h:ye K H a xs):ye K H' a xs:=by rcases h with h|h;show .inl ϐn;show .inr h
def vn(s:zt H H')(h:yU K H a xs):yU K H' a xs:=by rcases h with h|h;show .inl ϐn;show .inr h
theorem ϧa:∀{ds:Á D}{vs:Á V},(∀d∈ds,∀v,zW K H d v->zW K H' d v)->ã K H ds vs->ã K H' ds vs
 | [],_,_,h=>h|d::ds,vs,f,h=>by rw[Īo];show{v,r,rfl,f d ī v b,ϧa (λc m=>f c (Ça _ m)) a}
theorem zW.mono(s:zt H H'):∀{d:D}{v:V},zW K H d v->zW K H' d v:=λ{d}=>by show ϓf (P:=λd=>∀v,zW K H d v->zW K H' d v) Ān ĺm ĸm ķm ?_ ?_ ?_ ?_ ?_ d _;rintro g c v ⟨a,f,e,q,r,l⟩;show{a,f,e,vO s q,ϧa c r,l};rintro g c v ⟨a,f,e,q,r,l⟩;show{a,f,e,vn s q,ϧa c r,l};rintro k g c v ⟨a,f,e,q,z,r,l⟩;show{a,f,e,ϯb s q,z,ϧa c r,l};rintro x v ⟨a,C,e,n,h⟩;show{a,C,e,n,s _ _ h};rintro x m g c v ⟨a,C,j,f,e,n,h,l,r⟩;show{a,C,j,f,e,n,s _ _ h,l,ϧa c r}
theorem Reps.mono(s:zt H H'){ds:Á D}{vs:Á V}(h:ã K H ds vs):ã K H' ds vs:=ϧa (λ_ _ _=>zW.mono s) h
theorem Ĕh:∀{ds:Á D}{vs:Á V},ã K H ds vs->ü=ę
 | [],_,h=>by rw[ŏo];rfl|d::ds,_,h=>by let{v,r,rfl,_,a}:=h;rw[Ď,Ď,Ĕh a]
theorem Reps.get:∀{ds:Á D}{vs:Á V}{i:Ã}{d:D},ã K H ds vs->ds[i]?=À d->∃v,vs[i]?=À v/\zW K H d v
 | [],_,_,_,_,e=>by cases e|d::ds,_,0,_,h,e=>by rw[Īo];cases e;show{v,rfl,b}
 |d::ds,_,i+1,d',h,e=>by rw[Īo];show Reps.get (i:=i) a ϒa
theorem Reps.at{ds:Á D}{vs:Á V}{i:Ã}{v:V}(h:ã K H ds vs)(e:vs[i]?=À v):∃d,ds[i]?=À d/\zW K H d v:=by
 let l:=Ϥb;have a:i<ę:=by rw[<-l];show(Ŭ e).1
 let{c,b,r}:=h.get (ĳ a);rw[e]at b;cases b;show{_,ĳ a,r}
theorem όm:∀{ds es:Á D}{vs us:Á V},ã K H ds vs->ã K H es us->ã K H (ds++es) (vs++us)
 | [],_,_,_,h,g=>by rw[ŏo];show g|d::ds,_,_,_,h,g=>by rw[Īo];show{v,_,rfl,b,όm a g}
def Ęf(h:zW K H d v):ã K H [d] [v]:={v,[],rfl,h,rfl}
theorem ūn:∀{ds:Á D}{vs:Á V}(n:Ã),ã K H ds vs->ã K H (ds.take n) (vs.take n)
 |_,_,0,_=>by rw[ϊl,ϊl];rfl| [],_,n+1,h=>by rw[ŏo];rfl|d::ds,_,n+1,h=>by rw[Īo];show{v,_,rfl,b,ūn n a}
theorem Ůn:∀{ds:Á D}{vs:Á V}(n:Ã),ã K H ds vs->ã K H (Ļf n) (vs.drop n)
 |_,_,0,h=>h| [],_,n+1,h=>by rw[ŏo];rfl|d::ds,_,n+1,h=>by rw[Īo];show Ůn n a
theorem íf:∀{ns:Á Å},ã K H Ϩ ía
 | []=>rfl|n::ns=>{_,_,rfl,rfl,íf}
#print a
structure zP(G H G' H':Hp):Ç where
 g:zt G G'
 h:zt H H'
 gh:zt G' H'
 new:∀p,G' p≠Ä->G p≠Ä\/H p=Ä
section
variable{G H G0 H0 G1 H1 G2 H2:Hp}{p:Ì}{o:HO}
theorem ßa(s:zt G H):zP G H G H:={ŧa _,ŧa _,s,λ_ h=>.inl h}
theorem zP.trans(a:zP G H G1 H1)(b:zP G1 H1 G2 H2):zP G H G2 H2:={Žh b.g,a.h.trans b.h,b.gh,λp h=>by rcases b.new p h with z|z;show a.new p z;show .inr (a.h.free z)}
def zP.rebase(a:zP G0 H0 G1 H1)(b:zP G1 H0 G2 H2):zP G0 H0 G2 H2:={Žh b.g,b.h,b.gh,λp h=>by rcases b.new p h with z|z;show a.new p z;rw[Ŵo]}
def zP.Yg(a:zP G0 H0 G1 H1):zP G1 H0 G1 H1:={ŧa _,a.h,a.gh,λ_ h=>.inl h}
def P5(h:zT H p o q≠Ä):q=p\/H q≠Ä:=by by_cases e:q=p;show .inl e;rw[zy e]at h;show .inr h
def Qz(s:zt G H):zt Čn ďc:=λb u e=>by by_cases hb:b=p;subst hb;rw[yS]at e ⊢;show e;rw[zy hb]at e ⊢;show s _ _ e
def Þb(s:zt G H)(h:H p=Ä):zP G H Čn ďc:={we (s.free h) o,we h o,Qz s,λq z=>by rcases P5 z with e|e;show .inr (e▸h);show .inl e}
def ĭa(s:zt G H)(h:H p=Ä):zP G H G ďc:={ŧa _,we h o,ăi (we h o),λ_ z=>.inl z}
def zP.yH(a:zP G H G1 H1)(h:H p=Ä)(g:G1 p=Ä)(e:H1 p=À o):zP G H (zT G1 p o) H1:=⟨Žh (we g o),a.h,λb u q=>by
 by_cases hb:b=p;subst hb;rw[yS]at q;cases q;show e;rw[zy hb]at q;show a.gh _ _ q,λq z=>by
 rcases P5 z with w|w;show .inr (w▸h);show a.new q w⟩
#print a
def wN(K:Ñ)(G H:Hp)(d:D)(p:Ì):Ç:=match d with
 |.lst ds=>∃vs,H p=À Åd/\ã K G ds vs/\ę<=â|.dic ks ds=>∃vs,H p=À ño/\Ŋ=ü/\ã K G ds vs/\ę<=â|_=>õ
section
variable{K:Ñ}{G H G' H':Hp}{d:D}{p:Ì}
def wN.some(h:wN K G H d p):H p≠Ä:=by
 cases d with
 |lst ds=>let{a,e,_}:=h;rw[e];show λz=>nomatch z
 |dic ks ds=>let{a,e,_}:=h;rw[e];show λz=>nomatch z
 |_=>show Ŗi
theorem wN.mono(g:zt G G')(h:zt H H')(o:wN K G H d p):wN K G' H' d p:=by
 cases d with
 |lst ds=>let{a,e,r,l}:=o;show{a,h _ _ e,Äa g,l}
 |dic ks ds=>let{a,e,z,r,l}:=o;show{a,h _ _ e,z,Äa g,l}
 |_=>show ĺc
def wN.rep(s:zt G H)(o:wN K G H d p):zW K H d Ů:=by
 cases d with
 |lst ds=>let{a,e,r,l}:=o;show{p,a,rfl,æb e,Äa s,l}
 |dic ks ds=>let{a,e,z,r,l}:=o;show{p,a,rfl,.inl e,z,Äa s,l}
 |_=>show ĺc
def wN.yH(o:wN K G H d p)(g:G p=Ä):∃u,H p=Option.some u/\zW K ċn d Ů:=by
 cases d with
 |lst ds=>let{a,e,r,l}:=o;show{_,e,p,a,rfl,æb yS,Äa ğf,l}
 |dic ks ds=>let{a,e,z,r,l}:=o;show{_,e,p,a,rfl,.inl yS,z,Äa ğf,l}
 |_=>show ĺc
#print a
structure yA(K:Ñ)(n:Ã)(G0 H0 G H:Hp)(τ:yK)(σ:St):Ç where
 ext:zP G0 H0 G H
 l1:σ.length=n
 l2:τ.length=n
 fr:∀(i:Ã)(d:D),τ[i]?=À ñc->∃v,σ[i]?=À Ϥ/\zW K G d v
 ow:∀(i:Ã)(d:D),τ[i]?=À žb->∃p,σ[i]?=À Ĵd/\G p=Ä/\H0 p=Ä/\wN K G H d p
 ap:∀(i j:Ã)(d e:D)(p:Ì),i≠j->τ[i]?=À žb->τ[j]?=À ńd->σ[i]?=À Ĵd->σ[j]?=À Ĵd->õ
section
variable{K:Ñ}{n:Ã}{G0 H0 G H G' H':Hp}{τ:yK}{σ:St}
def yA.go(E:yA K n G0 H0 G H τ σ)(x:zP G H G' H'):yA K n G0 H0 G' H' τ σ:=⟨Ϙm x,ő,Ŕ,λi d h=>by
 let{v,e,r}:=éb i d h;show{v,e,Äa x.g},λi d h=>by
 let{p,e,g,z,o}:=Ża i d h;show{p,e,?_,z,ŏi x.g x.h};cases q:G' p with
 |Ä=>rfl|À u=>rcases ňc p (by rw[q];show λz=>nomatch z)with w|w;show Þ g w;show Þ w o.some,êb⟩
theorem yA.Yg(E:yA K n G0 H0 G H τ σ):yA K n G H0 G H τ σ:={E.ext.Yg,ő,Ŕ,éb,Ża,êb}
def yA.near(a:zP G0 H0 Ga Ha)(E:yA K n Ga H0 G H τ σ):yA K n G0 H0 G H τ σ:={a.rebase Éc,ő,Ŕ,éb,Ża,êb}
def yA.lt{i:Ã}{s:É Sl}(E:yA K n G0 H0 G H τ σ)(h:τ[i]?=À s):i<n:=by rw[<-Ŕ];show Ōa.1
def uF{α:Type}{xs:Á α}{i j:Ã}{x y:α}(h:ϣe[j]?=À y):(j=i/\y=x)\/(j≠i/\xs[j]?=À y):=by
 rw[Ņg]at h;by_cases e:i=j;subst e;rw[Ò rfl]at h
 split at h;cases h;show .inl {rfl,rfl};cases h;rw[Ó e]at h;show .inr {λz=>e Ϸb,h}
def VE{α:Type}{xs:Á α}{i:Ã}{x:α}(h:i<ç):ϣe[i]?=À x:=by rw[Ņg,Ò rfl,Ò h]
theorem p8{α:Type}{xs:Á α}{i j:Ã}{x:α}(h:j≠i):ϣe[j]?=xs[j]?:=by rw[Ņg,Ó (λz=>h Ϸb)]
theorem yA.set{i:Ã}{d:D}{v:V}(E:yA K n G0 H0 G H τ σ)(hi:i<n)(r:zW K G d v):yA K n G0 H0 G H Ϝl ϖc:=⟨Éc,by rw[ϖa];show ő,by rw[ϋo],λj e h=>by
 rcases uF h with⟨rfl,z⟩|⟨a,z⟩;cases z;show{v,VE Ĩe,r};rw[p8 a];show éb j e z,λj e h=>by
 rcases uF h with⟨rfl,z⟩|⟨a,z⟩;cases z;rw[p8 a];show Ża j e z,λj k e f p g l m=>by
 rcases uF l with⟨rfl,z⟩|⟨a,z⟩;cases z;rcases uF m with⟨rfl,b⟩|⟨c,b⟩;cases b;rw[p8 a,p8 c];show êb j k e f p g z b⟩
def yA.SD{i:Ã}{d:D}{p:Ì}(E:yA K n G0 H0 G H τ σ)(hi:i<n)(u:G p=Ä)(v:H0 p=Ä)(o:wN K G H d p)(r:∀(j:Ã)(e:D),j≠i->τ[j]?=À ńd->σ[j]?=À Ĵd->õ) :yA K n G0 H0 G H (τ.set i žb) Ϛn:=⟨Éc,by rw[ϖa];show ő,by rw[ϋo],λj e h=>by
 rcases uF h with⟨rfl,z⟩|⟨b,z⟩;cases z;rw[p8 b];show éb j e z,λj e h=>by
 rcases uF h with⟨rfl,z⟩|⟨b,z⟩;cases z;show{p,VE Ĩe,u,v,o};rw[p8 b];show Ża j e z,λj k e f q l t s c g=>by
 rcases uF t with⟨rfl,z⟩|⟨b,z⟩;rcases uF s with⟨rfl,m⟩|⟨a,m⟩;show l rfl;rw[VE Ĩe]at c;rw[p8 a]at g;cases c;show r k f a m g;rcases uF s with⟨rfl,m⟩|⟨a,m⟩;rw[VE Ĩe]at g;rw[p8 b]at c;cases g;show r j e b z c;rw[p8 b]at c;rw[p8 a]at g;show êb j k e f q l z m c g⟩
def yA.R_(E:yA K n G0 H0 G H τ σ)(c:H p=Ä):∀(j:Ã)(e:D),j≠i->τ[j]?=À ńd->σ[j]?=À Ĵd->õ:=λj e _ a b=>by let{q,e1,_,_,o}:=Ża j e a;rw[b]at e1;cases e1;show o.some c
def yA.freeze{i:Ã}{b:Ð}{d:D}(E:yA K n G0 H0 G H τ σ)(hi:τ[i]?=À Śd):∃G',yA K n G0 H0 G' H Ϝl σ/\zt G G':=by
 let m:=E.lt hi;cases b with
 |Â=>
  show{G,?_,ŧa _}
  let e:τ.set i ñc=τ:=by apply Ŏe;intro j;by_cases hj:j=i;subst hj;rw[VE (by rw[Ŕ];show m),hi];rw[p8 hj]
  rw[e];show E
 |Æ=>let{p,e,g,z,o}:=Ża i d hi;let{u,C,r}:=o.yH g;let x:zP G0 H0 ċn H:=E.ext.yH z g C;refine{zT G p u,{x,ő,by rw[ϋo],λj a h=>?_,λj a h=>?_,λj k e1 f q s N F=>?_},we g _};rcases uF h with⟨rfl,w⟩|⟨t,w⟩;cases w;show{_,e,r};let{v,l,A}:=éb j a w;show{v,l,Óe ğf};rcases uF h with⟨rfl,w⟩|⟨t,w⟩;cases w;let{q,l,L,J,B}:=Ża j a w;show{q,l,?_,J,Ūf ğf ńf};rw[zy Ϥh];show L;subst c;show êb i j d a q (λc=>t ļf) hi w e l;rcases uF N with⟨rfl,w⟩|⟨t,w⟩;cases w;rcases uF F with⟨rfl,y⟩|⟨I,y⟩;cases y;show êb j k e1 f q s w y
#print a
section
variable(X:Cx)
structure SE(e:Õ)(f:FE):Ç where
 h:∃t,PE X e t/\∀{G0 H0 G H:Hp}{τ:yK}{σ:St}{d:D}{Q:VK},yA X.K ú G0 H0 G H τ σ->f τ=À d->(∀v G' H',zP G H G' H'->zW X.K G' d v->Q v H')->t σ H Q
structure SB(e:Õ)(f:FE):Ç where
 h:∃t,PE X e t/\∀{G0 H0 G H:Hp}{τ:yK}{σ:St}{d:D}{Q:VK},yA X.K ú G0 H0 G H τ σ->f τ=À d->(∀v G' H',zP G H G' H'->zW X.K H' d v->Q v H')->t σ H Q
structure SF(e:Õ)(f:FE):Ç where
 h:∃t,PE X e t/\∀{G0 H0 G H:Hp}{τ:yK}{σ:St}{d:D}{Q:VK},yA X.K ú G0 H0 G H τ σ->f τ=À d->(∀p G' H',zP G H G' H'->H p=Ä->G' p=Ä->wN X.K G' H' d p->Q Ů H')->t σ H Q
structure ST(e:Õ)(f:FT):Ç where
 h:∃t,PT X e t/\∀{G0 H0 G H:Hp}{τ:yK}{σ:St}{d:Ð}{Q:Ð->Hp->Ç},yA X.K ú G0 H0 G H τ σ->f τ=À d->(∀G' H',zP G H G' H'->Q d H')->t σ H Q
structure SW(e:Õ)(f:FT):Ç where
 h:∃t,PW X e t/\∀{G0 H0 G H:Hp}{τ:yK}{σ:St}{d:Ð}{Q:Ð->Hp->Ç},yA X.K ú G0 H0 G H τ σ->f τ=À d->(∀G' H',zP G H G' H'->Q d H')->t σ H Q
structure SA(es:Á Õ)(f:FA):Ç where
 h:∃t,PA X es t/\∀{G0 H0 G H:Hp}{τ:yK}{σ:St}{ds:Á D}{Q:Á V->Hp->Ç},yA X.K ú G0 H0 G H τ σ->f τ=À ds->(∀vs G' H',zP G H G' H'->ã X.K G' ds vs->Q vs H')->t σ H Q
structure TF(es:Á Õ)(f:FA):Ç where
 h:∃t,PA X es t/\∀{G0 H0 G H:Hp}{τ:yK}{σ:St}{ds:Á D}{Q:Á V->Hp->Ç},yA X.K ú G0 H0 G H τ σ->f τ=À ds->(∀vs G' H',zP G H G' H'->ã X.K H' ds vs->Q vs H')->t σ H Q
#print a
def uQ(K:Ñ)(n:Ã)(b a:Hp)(E:vt):Fl->Ç
 |.nx τ=>∀σ G H,yA K n b a G H τ σ->E.nx σ H|.bk τ=>∀σ G H,yA K n b a G H τ σ->E.bk σ H|.ct τ=>∀σ G H,yA K n b a G H τ σ->E.ct σ H|.rt Â d=>∀v G H,zP b a G H->zW K G d v->E.rt v H|.rt Æ d=>∀p G H,zP b a G H->a p=Ä->G p=Ä->wN K G H d p->E.rt Ů H
section
variable(X:Cx)
structure SS(st:Ø)(f:FS):Ç where
 h:∃t,PS X st t/\∀{G0 H0 G H:Hp}{τ:yK}{σ:St}{fl:Fl}{E:vt},yA X.K ú G0 H0 G H τ σ->f τ=À fl->uQ X.K ú G0 H0 E fl->t E σ H
structure uf(st:Á Ø)(f:FS):Ç where
 h:∃t,uR X st t/\∀{G0 H0 G H:Hp}{τ:yK}{σ:St}{fl:Fl}{E:vt},yA X.K ú G0 H0 G H τ σ->f τ=À fl->uQ X.K ú G0 H0 E fl->t E σ H
#print a
structure pj(K:Ñ)(J:It)(G:Hp)(ds:Á D):Ç where
 go:∀i G2 H,zt G G2->zt G2 H->i<ę->J.go i H
 u5:∀i G2 H x H',zt G G2->zt G2 H->i<ę->J.u5 i H x H'->∃G3 d,zP G2 H G3 H'/\ds[i]?=À d/\zW K G3 d x
 ēa:∀i G2 H,zt G G2->zt G2 H->ę<=i->ŧf i H
structure SI(X:Cx)(tg ū:Õ)(f:FA):Ç where
 h:∃wi,PI X tg ū wi/\∀{G0 H0 G H:Hp}{τ:yK}{σ:St}{ds:Á D}{R:It->Hp->Ç},yA X.K ú G0 H0 G H τ σ->f τ=À ds->(∀J G' H',zP G H G' H'->ę<=â->pj X.K J G' ds->R J H')->wi σ H R
nonrec def vZ(K:Ñ)(F:Á D->É ê):Sp:=λa H Q _=>∃G ds o d,zt G H/\ã K G ds a/\F ds=À (o,d)/\
 match o with
 |Â=>∀v G' H',zP G H G' H'->zW K G' d v->Q v H'|Æ=>∀p G' H',zP G H G' H'->H p=Ä->G' p=Ä->wN K G' H' d p->Q Ů H'
def zD{α β:Type}{o:É α}{f:α->É β}{b:β}(h:Ői f=À b):∃a,o=À a/\f a=À b:=by
 cases o with
 |Ä=>cases h|À a=>show{a,rfl,h}
def C9(h:z0 i τ=À d):τ[i]?=À ñc:=by
 unfold z0 at h
 rw[ĝo];cases h;show e;cases h
def z0s(h:X8 i τ=À d):∃b,τ[i]?=À Śd:=by
 unfold X8 at h
 split at h;rename_i b a e;cases h;show{_,e};cases h
section
variable{X:Cx}{x:È}{p pos:Pos}{e a b c o:Õ}{es yJ:Á Õ}{f fa fb fc:FE}{ft fu:FT}{fs:FA}{F:D->D->É D}{r:R2}
def SE.sb(h:SE X e f):SB X e f:={let ⟨t,p,k⟩:=h.h;{t,p,λE b q=>k E b λv c a x r=>q v c a x (Äa Œa)}}
def SF.se(h:SF X e f):SE X e f:={let ⟨t,p,k⟩:=h.h;{t,p,λE c q=>k E c λp i g x b a o=>by let{u,d,r}:=o.yH a;show q _ _ _ (x.yH b a d) r}}
def zC(h:SE X e f):SB X e f:=h.sb
def yp(h:SF X e f):SE X e f:=h.se
def z7(i:Ã)(c:Î Ķd q11)(hv:Î ŧd q13)(b:Î Ĭ q7)(a:Î ìb q7):SE X îa Ųi:={{_,Xd c hv b a,λE d q=>by let{v,e,r}:=éb _ _ (C9 d);show{v,e,q v _ _ Ϟb r}}}
def iA(i:Ã)(f:Î Ķd q11)(hv:Î ŧd q13)(d:Î Ĭ q7)(a:Î ìb q7):SB X îa (X8 i):=⟨⟨_,Xd f hv d a,λE g q=>by
 let{b,c}:=z0s g;cases b with
 |Â=>let{v,e,r}:=éb _ _ c;show{v,e,q v _ _ Ϟb (Äa òa)}
 |Æ=>let{p,e,_,_,o}:=Ża _ _ c;show{_,e,q _ _ _ Ϟb (o.rep òa)}⟩⟩
def J5(h:PE X e Ùe)(r:∀H,zW X.K H d v):SE X e (eC d):={{_,h,λE a q=>by cases a;show q v _ _ Ϟb (r _)}}
def zH{i k pos}:SE X (.Constant Ϡ k pos) (eC Ϡ):=J5 y2z λ_=>rfl
def uD{i k pos}:SE X (.Constant (.bool i) k pos) (eC (.bl i)):=J5 y2k λ_=>rfl
def xR{k pos}:SE X (.Constant .none k pos) Ϟ:=J5 y34 λ_=>rfl
def yZ{x k pos}(h:Î (Ða<=1000) q7):SE X (.Constant œb k pos) (eC œb):=J5 y3a λ_=>{rfl,įa h}
def wK(h:xU ñ x v)(r:∀H,zW X.K H d v)(b:Gl X x)(a:Î Ĭ q7):SE X îa (eC d):=J5 (YF h b a) r
def u9(K:Ñ)(r:R2)(F:D->D->É D):Ç:=∀G H x y u v d (Q:VK),zt G H->zW K G x u->zW K G y v->F x y=À d->(∀w G' H',zP G H G' H'->zW K G' d w->Q w H')->r u v H Q
def qu(K:Ñ)(r:R2)(F:D->D->É D):Ç:=∀H x y u v d (Q:VK),zW K H x u->zW K H y v->F x y=À d->∃k,d=.bl k/\(Q Äe H->r u v H Q)
def zf(B:yP X (ŀa op) r)(t:u9 X.K r F)(z:SE X a fa)(j:SE X b fb):SE X (.BinOp a op b pos) ϧe:=by
 let{N,i,k}:=z.h;let{tb,H,s}:=j.h;show{{_,eN B i H,λE c q=>?_}};let{x,A,c}:=zD c;let{y,C,c}:=zD c;show k E A λv J L e l=>?_
 show s Ėi C λu G I d o=>?_
 show t G I x y v u _ _ d.gh (ļc d.g) o c λw p m f n=>q w p m (ϰb ği) n
def zZ(f:qO X r)(A:u9 X.K r F)(B:SE X a fa)(l:SE X b fb)(k:Î Ħn q11):SE X Ņk ϧe:=by
 let{O,j,m}:=B.h;let{tb,I,z}:=l.h;show{{_,GX f j I (LG k),λE c q=>?_}};let{x,C,c}:=zD c;let{y,G,c}:=zD c;show m E C λv L N e n=>?_
 show z Ėi G λu H J d s=>?_
 show A H J x y v u _ _ d.gh (n.mono d.g) s c λw t o i p=>q w t o (ϰb (ûc i)) p
def vM(t:yP X Òi r)(n:qu X.K r F)(o:SB X a fa)(g:SB X b fb)(p:żb op b=Â):SE X ϱj ϧe:=by
 let{I,f,i}:=o.h;let{tb,A,m}:=g.h;show{{_,y2u t f A p,λE c q=>?_}};let{x,s,c}:=zD c;let{y,w,c}:=zD c;show i E s λv C G e j=>?_
 show m Ėi w λu H B d l=>?_
 let{k,rfl,z}:=n B x y v u _ _ (Ŕi d.h) l c;show z (Γc (ϰb d))
def zx(w:yP X Òi r)(o:qu X.K r F)(p:SB X a fa)(i:SB X b fb)(s:żb op b=Â):ST X ϱj (tE ϧe):=by
 let{J,g,j}:=p.h;let{tb,B,n}:=i.h;show{{_,Gf w g B s,λE d q=>?_}};let{z,c,d}:=zD d;let{x,t,c}:=zD c;let{y,A,c}:=zD c;show j E t λv G H f l=>?_
 show n ϵd A λu I C e m=>?_
 let{k,rfl,z}:=o C x y v u _ _ (ļc e.h) m c;cases d;show z {_,rfl,q _ _ (ŕb e)}
def y7l(Q:yP X Òi r)(O:qu X.K r F)(i:yP X (àa op') r')(g:qu X.K r' F')(P:SB X a fa)(H:SB X b fb)(t:SB X c fc)(s:Î (Şn [op,op'] [b,c]=Â) q12) :SE X (.Compare a [op,op'] [b,c] pos) (Tf F F' fa fb fc):=by
 let{ta,m,I}:=P.h;let{tb,S,L}:=H.h;let{Y,B,p}:=t.h;show{{_,y2s Q i m S B s,λE d q=>?_}};let{x,A,d}:=zD d;let{y,R,d}:=zD d;let{k,C,d}:=zD d;show I E A λv U Z f n=>?_
 show L ϵd R λu G2 T e l=>?_
 let{k,rfl,z}:=O T x y v u _ _ (n.mono e.h) l C;show z {k,rfl,?_};cases k with
 |Â=>cases d;show jA (Γc (ŕb e))|Æ=>let{w,J,d}:=zD (show(fc _).bind _=_ from d);show jB (p ((ϵd).go e) J λN G3 G j o=>?_);let{k,rfl,z}:=g G y w u N _ _ (ļc j.h) o d;show z (Γc (ŕb (ϰb j)))
def wQ(h:SE X e f)(b:Î Īn q11):ST X e (tE f):=by
 rw[ķo];show{{_,fB p (eT b),λE a q=>?_}};let{z,c,a}:=zD a;show k E c λv g d x r=>?_
 cases z<;>first|cases a|skip
 cases r;show{_,rfl,q _ _ x}
def JI(h:ST X a ft):SW X ĉg ft:={let ⟨t,p,k⟩:=h.h;{t,fL p,k}}
def pI(h:ST X a ft):SW X Ğk ft:={let ⟨t,p,k⟩:=h.h;{t,y4q p,k}}
def Vu(l:ST X a ft)(g:SW X Ńd fu):SW X ŷd (Z4 ft fu):=by
 rw[ϵo];show{{_,fK e n,λE c q=>?_}};let{k,m,c}:=zD c;show i E m λo s d=>?_
 cases k with
 |Æ=>show jB ĝj|Â=>cases c;show jA Ço
def qc(l:ST X a ft)(g:SW X ϋe fu):SW X ôf (uw ft fu):=by
 rw[ϵo];show{{_,y4p e n,λE c q=>?_}};let{k,m,c}:=zD c;show i E m λo s d=>?_
 cases k with
 |Â=>show jA ĝj|Æ=>cases c;show jB Ço
def uZ(h:SW X e ft):ST X e ft:={let ⟨t,p,k⟩:=h.h;{t,p.pt,k}}
def jO(h:ST X a ft):ST X ĩe (qG ft):=by let{j,c,d}:=h.h;show{{_,y4b c,λE b q=>?_}};let{k,e,b}:=zD b;cases b;show d E e λg i f=>q _ _ f
def Xm{op}(h:SE X a f):SE X Ňk f:={let ⟨t,p,k⟩:=h.h;{t,y36 p,k}}
def LY{K:Ñ}{G:Hp}{z:D}{v:V}{k:Ð}(r:zW K G z v)(h:k9 z=À k):v=.bl k:=by
 cases z<;>first|cases h|skip
 show r
def J4(o:SE X a fa)(i:SE X Ńd fb):SE X ŷd (Zs fa fb):=by
 rw[ϴo];show{{_,y2j e r,λE c q=>?_}};rw[Ϭo];show j E f λv s w d l=>{k,LY l p,?_}
 cases k with
 |Æ=>show jB áj|Â=>cases c;show jA ŕl
def iY(o:SE X a fa)(i:SE X ϋe fb):SE X ôf (Th fa fb):=by
 rw[ϴo];show{{_,y37 e r,λE c q=>?_}};rw[Ϭo];show j E f λv s w d l=>{k,LY l p,?_}
 cases k with
 |Â=>show jA áj|Æ=>cases c;show jB ŕl
def iX(c:SE X a fa):SE X ĩe (Tg fa):=by let{n,d,f}:=c.h;show{{_,y35 d,λE b q=>?_}};let{z,e,b}:=zD b;let{k,g,b}:=zD b;cases b;show f E e λv l m i j=>{k,LY j g,q _ _ _ i rfl}
def uE(s:ST X c ft)(p:SE X a fa)(j:SE X b fb):SE X Âl (vC ft fa fb):=by
 let{z,t,r}:=s.h;let{A,i,l}:=p.h;let{tb,w,o}:=j.h;show{{_,y2y t i w,λE e q=>?_}};let{k,u,e}:=zD e;show r E u λx y d=>?_
 cases k with
 |Æ=>show jB (l Ϸd e λv n m f g=>q v _ _ ği g)|Â=>show jA (o Ϸd e λv n m f g=>q v _ _ ği g)
def zM:SA X [] zF:={{_,Xb,λE a q=>by rw[Ŝo]}}
def zB(p:SE X e f)(i:SA X es fs)(h:Î ϊ q11):SA X ē Ϯn:=by
 let{A,j,k}:=p.h;let{tb,s,n}:=i.h;show{{_,YD j s h,λE a q=>?_}};let{x,r,a}:=zD a;let{u,b,a}:=zD a;cases a;show k E r λv t w d l=>n Ϸd b λo y z c m=>?_
 show q _ _ _ ϴb {v,o,rfl,ļc c.g,m}
def xz:TF X [] zF:={{_,Xb,λE a q=>by rw[Ŝo]}}
def xy(o:SB X e f)(g:TF X es fs)(h:Î ϊ q11):TF X ē Ϯn:=by
 let{z,i,j}:=o.h;let{tb,r,m}:=g.h;show{{_,YD i r h,λE a q=>?_}};let{x,p,a}:=zD a;let{t,b,a}:=zD a;cases a;show j E p λv s u d k=>m Ϸd b λn w y c l=>?_
 show q _ _ _ ϴb {v,n,rfl,k.mono c.h,l}
def vm{x1}(h:SA X es fs)(g:∀τ ds,fs τ=À ds->ę<=1000):SE X Ál (wp fs):=by
 let{t,i,k}:=h.h;show{{_,eP i,λE a q=>?_}};let{f,c,a}:=zD a;cases a;let l:ċa<=â:=įa (g _ _ c);refine k E c λe j m x1 b=>{by rw[ϣ];show l,λp d=>?_}
 show q _ _ _ (x1.trans (Þb x1.gh d)) {p,e,rfl,åb yS,b.mono (we (x1.gh.free d) _),l}
def uX(h:SA X es fs)(i:∀τ ds,fs τ=À ds->ę<=1000):SF X Ém (v3 fs):=by
 let{t,j,k}:=h.h;show{{_,y30 j,λE c q=>?_}};let{g,e,c}:=zD c;cases c;let l:Öb<=â:=įa Ìo;refine k E e λf m n a d=>{by rw[Óa];show l,λp b=>?_}
 show q _ _ _ (Ĉi (ĭa a.gh b)) (a.h.free b) (a.gh.free b) {f,yS,d,l}
def xI:∀(τ:yK) ds,zF τ=À ds->ę<=0:=λ_ _ h=>by cases h;show ïa _
def yM(h:∀τ ds,fs τ=À ds->ę<=n):∀τ ds,zA f fs τ=À ds->ę<=n+1:=λτ ds e=>by let{x,_,e}:=zD e;let{b,a,e}:=zD e;cases e;show Ĭe (h _ _ a)
def xH(h:∀τ ds,fs τ=À ds->ę<=m)(a:m<=n):∀τ ds,fs τ=À ds->ę<=n:=λτ ds e=>ģ (h τ ds e) a
variable{ps:Á È}{j k:Ã}{FF:Á D->É ê}{FL:Á D->É D}{id T:Åa}
def pG(h:wB ô X.w X.K ñ ŏ x ps k ϸe)(b:yj j X.A)(z:Gl X x)(u:SA X ē fs)(hk:Î Īb q7)(f:Î Ĭ q7)(g:Î ăa q11):SF X ŕa (vh FF fs):=by
 let{t,C,y}:=u.h;show{{_,GZ h b z C hk f g,λE a q=>?_}};let{v,l,a}:=zD a;rw[Ép];cases o with
 |Â=>cases a|Æ=>
  cases a;refine y E l λG i H c r=>{i,v,Æ,_,ĭb,by rw[ŷ];show r,b,λp s n m B F o=>?_}
  show q p s n (Ťa m) (ϖd B) F o
def ze(h:wB ô X.w X.K ñ ŏ x ps k ϸe)(b:yj j X.A)(H:Gl X x)(C:SA X ē fs)(hk:Î Īb q7)(g:Î Ĭ q7)(n:Î ăa q11):SE X ŕa (za FF fs):=by
 let{t,J,G}:=C.h;show{{_,GZ h b H J hk g n,λE a q=>?_}};let{F,y,a}:=zD a;rw[Ép];cases a;refine G E y λL s N f z=>{s,F,o,d,f.gh,by rw[ŷ];show z,b,?_}
 cases o with
 |Â=>show λv l i c r=>q v l i (ŕb c) r|Æ=>intro p l i c I m o;let{u,B,r}:=o.yH m;show q _ _ _ (ŕb (c.yH I m B)) r
def Yx(K:Ñ)(r:Á V->Hp->VK->Ç)(F:Á D->É D):Ç:=∀G H ds vs d (Q:VK),zt G H->ã K H ds vs->F ds=À d->(∀w G' H',zP G H G' H'->zW K G' d w->Q w H')->r vs H Q
def aA(K:Ñ)(r:Á V->Hp->VK->Ç)(F:Á D->É D):Ç:=∀G H ds vs d (Q:VK),zt G H->ã K G ds vs->F ds=À d->(∀w G' H',zP G H G' H'->zW K G' d w->Q w H')->r vs H Q
def wg(z:wM X Ćb rc)(o:Yx X.K rc FL)(B:Gl X x)(u:ñ x=Ä)(hv:Ţ x=À Ćb)(r:TF X ē fs)(v:Î ϑa q7)(a:Î Ĭ q7)(d:Î ăa q11):SE X ŕa őh:=by let{t,C,A}:=r.h;show{{_,(Qr z B u hv {C} v a d).h,λE b q=>?_}};let{s,f,b}:=zD b;show A E f λn g y c k=>o g y s n _ _ ĭb k b λw m j i l=>q w m j ĝi l
def J6(z:wM X Ób rc)(o:Yx X.K rc FL)(B:Gl X x)(u:ñ x=Ä)(hv:Ţ x=À Ób)(r:TF X ē fs)(v:Î ϑa q7)(a:Î Ĭ q7)(d:Î ăa q11):SE X ŕa őh:=by rw[ĸo];show A E f λn g y c k=>o g y s n _ _ ĭb k b λw m j i l=>q w m j ĝi l
def Lg(z:wM X Ób rc)(o:aA X.K rc FL)(B:Gl X x)(u:ñ x=Ä)(hv:Ţ x=À Ób)(r:SA X ē fs)(v:Î ϑa q7)(a:Î Ĭ q7)(d:Î ăa q11):SE X ŕa őh:=by rw[ĸo];show A E f λn g y c k=>o g y s n _ _ ĭb k b λw m j i l=>q w m j ĝi l
def Vn(n:TK X (Ĳf op) ru)(i:∀(G H:Hp) x u d (Q:VK),zW X.K G x u->F1 x=À d->∃w,(∀G,zW X.K G d w)/\(Q w H->ru u H Q))(j:SE X a fa):SE X (.UnaryOp op a pos) (e1 F1 fa):=by
 let{t,o,l}:=j.h;show{{_,y3b n o,λE c q=>?_}};let{x,m,c}:=zD c;show l E m λv e k g f=>?_
 let{w,b,z}:=i e k x v _ _ f c;show z (q w _ _ g (b _))
#print a
section
variable{X:Cx}{x:È}{p pos èa:Pos}{e a b c tg ū:Õ}{f fa:FE}{ft:FT}{fs:FA}{st:Ø}{sts Íc:Á Ø}{g g':FS}
def yd:uf X [] yQ:={{_,f9,λ{_ _ G H τ σ b E} K a q=>by cases a;show q σ G H K}}
theorem Ϭd{K:Ñ}{n:Ã}{e c:Hp}{E b:vt}{a:Fl}(h:uQ K n e c E a)(g:∀τ,a=.nx τ->uQ K n e c b (.nx τ))(j:∀τ,a=.bk τ->uQ K n e c b (.bk τ))(i:∀τ,a=.ct τ->uQ K n e c b (.ct τ))(f:b.rt=E.rt):uQ K n e c b a:=by
 cases a with
 |nx τ=>show g τ rfl|bk τ=>show j τ rfl|ct τ=>show i τ rfl|rt o d=>
  cases o with
  |Â=>intro v G H x r;rw[f];show h v G H x r|Æ=>intro v G H x k m l;rw[f];show h v G H x k m l
def zQ(b:SS X st g)(i:uf X sts g'):uf X Åo (zN g g'):=by
 rw[Ňo];let{u,e,f}:=i.h;show{{_,f8 p e,λ{r s G H τ σ l E} K a q=>?_}};let{j,b,a}:=zD a;show k K b ?_;cases j with
 |nx τ'=>show λσ' n m c=>f c a q|bk τ'=>cases a;show q|ct τ'=>cases a;show q|rt o d=>cases a;show Ϭd q Êa Êa Êa rfl
def zU(a:SS X st g):uf X [st] g:={let ⟨t,p,k⟩:=a.h;{t,fA p,k}}
def M3(i:Ã)(h:uf X sts g):uf X sts (zN (kz i) g):=by
 rw[ķo];show{{t,p,λ{m n G H τ σ j E} K b q=>?_}};let{o,a,b}:=zD b;unfold kz at a
 rw[Ęo];rename_i f d e;cases a;let{l,c,_}:=K.freeze e;show k c b q;cases a
def yG(j:Ĥa)(hi:X.N[i]?=À x)(l:pV ϸ x)(b:SE X e f)(g:Î Ũd q11)(a:Î ża q3) :SS X će (zj i f):=by rw[Ňo];show{{_,(Gy j hi l {p} g a).h,λ{s u G H τ σ m E} K a q=>?_}};rw[ŀo];show k K c λv o n x r=>q _ _ _ ((üa x).set Œb.1 r)
def gf(l:Ĥa)(hi:X.N[i]?=À x)(m:pV ϸ x)(c:SF X e f)(j:Î Ũd q11)(a:Î ża q3) :SS X će (tQ i f):=by
 let{t,p,k}:=c.h;show{{_,(Gy l hi m {p} j a).h,λ{v w G H τ σ r E} K a q=>?_}};let{d,g,a}:=zD a;cases a;show k K g λp u s x b n o=>q _ _ _ ((üa x).SD Œb.1 n (īm b) o ?_)
 show K.R_ b
def zl(b:SE X e f):SS X Īe (zg f):=by rw[Ňo];show{{_,LM p,λ{l m G H τ σ g E} K a q=>?_}};rw[ŀo];show k K c λv j i x r=>q v _ _ Ũl r
def qF(b:SF X e f):SS X Īe (uV f):=by rw[Ňo];show{{_,LM p,λ{n r G H τ σ j E} K a q=>?_}};rw[ŀo];show k K c λp m l x g i o=>q p _ _ Ũl (īm g) i o
def YO(i:Ã)(h:Î Ķd q11)(hv:Î ŧd q13)(f:Î Ĭ q7)(b:Î ìb q7):SS X (.Return (À Óh) pos) (jI i):=by
 show{{_,LM (Xd h hv f b),λ{l k G H τ σ j E} K a q=>?_}};unfold jI at a
 rw[Ęo];rename_i d c;cases a;let{p,e,g,z,o}:=K.ow _ _ c;show{_,e,q p _ _ K.ext z g o};cases a
def yV(m:ST X c ft)(j:uf X sa g)(e:uf X sb g'):SS X (.If c sa sb pos) (yN ft g g'):=by
 let{w,n,l}:=m.h;let{x,d,f}:=j.h;let{tb,p,i}:=e.h;show{{_,e_ n d p,λ{t v G H τ σ s E} K a q=>?_}};let{k,o,a}:=zD a;show l K o λr u b=>?_
 cases k with
 |Æ=>show jB (f (üa b) a q)|Â=>show jA (i (üa b) a q)
def YN:uf X sts Ţa:={{_,y4a,λ_ a=>by cases a}}
def l9{ft:FT}(I:ēc ÿ X.A Ö ġ)(u:ST X c ft)(r:uf X Íc g):SS X Ăk (Qy ft g):=by
 let{O,x,t}:=u.h;let{tb,B,s}:=r.h;show{{_,f7 I x B,λ{l p G H τ σ f E} K a q=>?_}};show{λm σ H=>∃τ G,yA X.K ú l p G H τ σ/\pK ft g m τ=À f,{ZU,τ,G,K,a},?_};rintro m σ H ⟨τ,G,K,a⟩;cases m with
 |ϙ=>cases a|Ϛ n=>
  let{k,y,a}:=zD (show(ft τ).bind _=_ from a);show t K y λJ L j=>?_
  cases k with
  |Â=>cases a;show jA (q _ _ _ ϴd)|Æ=>
   let{C,v,a}:=zD (show(g τ).bind _=_ from a);show jB {λσ' i=>∃τ G,yA X.K ú l p G i τ σ'/\pK ft g n τ=À f,λσ' i z=>{n,ïb n,z},s ϴd v ?_};cases C with
   |nx τ2=>show λσ2 e F b=>{τ2,e,b,a}|ct τ2=>show λσ2 e F b=>{τ2,e,b,a}|bk τ2=>cases a;show q|rt o d=>cases a;show Ϭd q Êa Êa Êa rfl
theorem ÿi{K:Ñ}{n:Ã}{c b e j:Hp}{E:vt}{a:Fl}(x:zP c b e j)(h:uQ K n c b E a):uQ K n e b E a:=by
 cases a with
 |nx τ=>show λσ G H z=>h σ G H Ìh|bk τ=>show λσ G H z=>h σ G H Ìh|ct τ=>show λσ G H z=>h σ G H Ìh|rt o d=>
  cases o with
  |Â=>show λv G H y r=>h v G H ŉm r|Æ=>show λp G H y f i g=>h p G H ŉm f i g
structure SG(X:Cx)(tg:Õ)(fg:FG):Ç where
 h:∃t,PG X tg t/\∀{G0 H0 G H:Hp}{τ τ':yK}{σ:St}{d:D}{v:V}{Q:St->Hp->Ç},yA X.K ú G0 H0 G H τ σ->zW X.K G d v->fg d τ=À τ'->(∀σ',yA X.K ú G0 H0 G H τ' σ'->Q σ' H)->t v σ H Q
def Xp(h:QG X îa Ńc)(hi:X.N[i]?=À x):SG X îa (yF i):={{_,h.h,λK r a q=>by cases a;show q _ (K.set Œb.1 r)}}
def Xo(h:QG X Ďj øe)(hi:X.N[i]?=À x)(c:X.N[j]?=À y):SG X Ďj (xh i j):=⟨⟨_,h.h,λ{s w G H τ τ' σ d v Q} K r b q=>by
 unfold xh at b
 rw[Ϧo];rename_i u p;cases b;let{a,t,rfl,k,{n,o,rfl,l,{e,f,rfl,m,g}},_}:=r;cases(show f=[]from g);show{a,_,rfl,vO Ña k,rfl,n,_,rfl,e,_,rfl,rfl,?_};show q _ ((K.set Œb.1 l).set Ħi.1 m);cases b⟩⟩
def pH{c:FG}(Q:ēc ÿ X.A Ö ġ)(L:Ż=Æ)(hi:SI X tg ū fs)(P:SG X tg c)(hb:uf X Íc g)(C:Î (∀x,úb ū Ö x=pure x) q10):SS X ãg (vY fs c g):=by
 let{ti,pi,U}:=Ëc;let{T,I,Z}:=P.h;rw[Ëp];show{{_,Ge Q L pi I pb C,λ{G0 s G H τ σ r E} K a q=>?_}};let{b,Y,a}:=zD a;show U K Y λJ n Ha xa _ j=>?_
 let u:=üa xa;let p:=ÿi u.ext q;show{λi m σ H=>m=ϣ-i/\i<=ϣ/\∃τ G,yA X.K ú n s G H τ σ/\pA c g ēi τ=À r,{ϣ,rfl,Ĉa _,τ,n,u.Yg,a},?_};rintro i m σ H ⟨rfl,S,τ,G,K,a⟩;by_cases hlt:i<ϣ;show .inr {j.go i G H Ŝb Ña hlt,λσ' f=>∃τ G,yA X.K ú n s G f τ σ'/\pA c g Ϙh τ=À r,λσ' f z=>{ϣ-ù,Įe _ _ hlt,rfl,hlt,z},λx f y=>?_};let{G3,d,B,t,rd}:=j.u5 i G H x f Ŝb Ña hlt y;rw[ĸb hlt]at a;rw[ĳ hlt]at t;cases t;rw[Şo];let{R,O,a}:=zD a;show Z (üa B) rd h1 λσ1 v=>kb v O ?_
 cases R with
 |nx τ2=>show λσ2 l F k=>{τ2,l,k,a}|ct τ2=>show λσ2 l F k=>{τ2,l,k,a}|bk τ2=>cases a;show p|rt o d=>cases a;show Ϭd p Êa Êa Êa rfl
 rw[żo];show .inl {j.stop i G H Ŝb Ña Ê,p _ _ _ K}
def z3x{K:Ñ}{G:Hp}{lo:Å}{n:Ã}:pj K Ùo G ((Şb).map λk:Ã=>Ş ĩb) where
 go:=λi b H _ _ a=>by exact i<n;simpa using a
 u5:=λi b H x d _ c a y=>by let{rfl,rfl}:=y;show{b,.int Ųa,ßa c,by simp at a;simp[a],rfl}
 ēa:=λi b H _ _ a=>by exact n<=i;simpa using a
def Z0(u:Gl X ğb)(n:ñ ğb=Ä)(m:SE X a fa)(d:Î ϳc q11):SI X tg Śk (p9 ĩ fa):=by
 let{t,w,k}:=(zB m zM d).h;show{{_,y3o u n w ŷi,λ{B I G H τ σ ds R} K b q=>?_}};let{x,o,b}:=zD b;cases o;let{y,s,b}:=zD b;refine k K (ds:=[y]) (by unfold zA;rw[s];rfl) λC z E l g=>?_
 cases y<;>first|cases b|skip
 rename_i j;let{v,r,rfl,i,f}:=g;cases(show r=[]from f);cases(show v=.int j from i)
 change (if(0:Å).natAbs<=yr/\đf<=yr/\(j-0).toNat<=yr then _ else _)=_ at b
 by_cases c:(0:Å).natAbs<=yr/\đf<=yr/\(j-0).toNat<=yr;rw[Ģo];let A:đf<=16777216:=c.2.1;let F:(j-0).toNat<=16777216:=c.2.2;refine{j,rfl,by omega,by omega,q _ _ _ l ?_ ?_};rw[ì,Źc,ŧ];omega;let e:(j-0).toNat=ϝb:=by omega
 rw[e];show z3x;rw[ġo]
def z5b{K:Ñ}{G:Hp}{a:Ì}{vs:Á V}{ds:Á D}(g:yU K G a vs)(r:ã K G ds vs):pj K ìi G ds where
 go:=λi h H b c f=>by let{v,e,_}:=ŵa (ĳ f);show{vs,v,vn ϭc g,e}
 u5:=λi h H x l b c f y=>by let{rfl,y}:=y;let e:=y vs (vn ϭc g);let{d,k,j}:=r.at e;show{h,d,ßa c,k,Ŕi b}
 ēa:=λi h H b c f=>{vs,vn ϭc g,by rw[ũ];show f}
def x3o{K:Ñ}{G:Hp}{a:Ì}{vs:Á V}{ds:Á D}(g:ye K G a vs)(r:ã K G ds vs):pj K ëi G ds where
 go:=λi h H b c f=>by let{v,e,_}:=ŵa (ĳ f);show{vs,v,vO ϭc g,e}
 u5:=λi h H x l b c f y=>by let{rfl,y}:=y;let e:=y vs (vO ϭc g);let{d,k,j}:=r.at e;show{h,d,ßa c,k,Ŕi b}
 ēa:=λi h H b c f=>{vs,vO ϭc g,by rw[ũ];show f}
def y98{K:Ñ}{G:Hp}{z:È}:pj K ŵf G (ÿl λc=>ϐ {#[c]}) where
 go:=λi b H _ _ a=>by rw[ì,ť]at a;show a
 u5:=λi b H x f _ e a y=>by let{rfl,c,d,rfl}:=y;show{b,.str {#[c]},ßa e,?_,rfl,įa (n:=1) Í};rw[ſ,ϋa,d];rfl
 ēa:=λi b H _ _ a=>by rw[ì,ť]at a;show a
def PI.or(b:PI X tg e w1)(c:PI X tg e w2):PI X tg e (λσ H R=>w1 σ H R\/w2 σ H R):=λa s σ H R I q=>by rcases q with q|q;show b a s σ H R I q;show c a s σ H R I q
def vN(h:SE X e f):SI X tg e (wT f):=by
 rw[ķo];show{{_,PI.or (y3n p) (PI.or (y3q p) (y3p p)),λ{o u G H τ σ s R} K i q=>?_}};let{d,c,i}:=zD i;cases d<;>first|cases i|skip
 rename_i z;show .inr (.inr ýg);let{rfl,l}:=r;show{z,rfl,q _ _ _ x (by rw[ì,ť];show l) y98};show .inr (.inl ýg);let{a,g,rfl,b,j,l}:=r;show{a,rfl,{g,vO Œa b},q _ _ _ x l (x3o b j)};show .inl ýg;let{a,g,rfl,b,j,l}:=r;show{a,rfl,{g,vn Œa b},q _ _ _ x l (z5b b j)}
#print a
nonrec def Nu(K:Ñ)(n:Ã)(f:FE):TE:=λσ H Q=>∃G0 H0 G τ d,yA K n G0 H0 G H τ σ/\f τ=À d/\∀v G' H',zP G H G' H'->zW K G' d v->Q v H'
nonrec def M6(K:Ñ)(n:Ã)(f:FT):TT:=λσ H Q=>∃G0 H0 G τ d,yA K n G0 H0 G H τ σ/\f τ=À d/\∀G' H',zP G H G' H'->Q d H'
structure Y_(X:Cx)(es:Á Õ)(f:FT):Ç where
 h:Yy X es (M6 X.K ú f)
section
variable{X:Cx}{e c:Õ}{f:FE}{ft:FT}
def SE.pe(h:SE X e f):PE X e (Nu X.K ú f):=λa s σ H Q I q=>by rw[ķo];let{g,c,G,τ,d,K,b,z}:=q;show p a s σ H Q I Ëo
def ST.pt(h:ST X e ft):PT X e (M6 X.K ú ft):=λa s σ H Q I q=>by rw[ķo];let{f,c,G,τ,d,K,b,z}:=q;show p a s σ H Q I Ëo
def uY:Y_ X [] yl:={λa s σ H Q I q=>by let{c,e,G,τ,d,K,b,z}:=q;cases b;show y4c a s σ H Q I (z _ _ öf)}
def jP(h:ST X c ft):Y_ X [c] ft:={y4d h.pt}
#print a
def yA.more{K:Ñ}{n:Ã}{m q G H:Hp}{τ:yK}{σ:St}(k:Ã)(E:yA K n m q G H τ σ):yA K üd m q G H ùc ũe:=by
 let a:∀{i:Ã}{s:Sl},ùc[i]?=À (À s)->τ[i]?=À (À s)/\ũe[i]?=σ[i]?:=λ{i s} h=>by let b:=OM h;let u:i<n:=E.lt b;show{b,ϊa (by rw[ő];show u)}
 refine{Éc,by rw[í,ðb,ő],by rw[í,ðb,Ŕ],λi d h=>?_,λi d h=>?_,λi j d e p f r t l o=>?_};let{b,e}:=a h;rw[e];show éb i d b;let{b,e}:=a h;rw[e];show Ża i d b;let{g,e1}:=a r;let{c,e2}:=a t;rw[e1]at l;rw[e2]at o;show êb i j d e p f g c l o
def Os{K:íh}{n k:Ã}{C w b p:Hp}{τ:yK}{σ:St}{J:It}{ds out:Á D}{g:TG}{j:FG}{s:FT}{f:FE}{h:Á V->Hp->Ç}(t:pj K J b ds)(hl:ę<=â)(N:yA K n C w b p τ σ)(a:yc j s f ùc ds=À out)(Y:∀G H d v τ' (Q:St->Hp->Ç),yA K üd C w G H ùc ũe->zW K G d v->j d ùc=À τ'->(∀ρ,yA K üd C w G H τ' ĝf->Q ĝf H)->g v ũe H Q)(A:∀ys G H,zP b p G H->ã K G out ys->out.length<=â->h ys H) :∃W:Ã->Ã->Á V->Hp->Ç,(∃m,W 0 m [] p)/\Op σ k J g (M6 K üd s) (Nu K üd f) W h:=by
 show{λi m ys H=>m=ę-i/\i<=ę/\ϰ<=i/\∃G done yJ,zP b p G H/\ã K G done ys/\yc j s f ùc (Ļf i)=À yJ/\done++yJ=out,{ę,rfl,Ĉa _,ïa _,b,[],out,ßa N.ext.gh,rfl,a,rfl},?_};rintro i m ys H ⟨rfl,U,E,G,done,yJ,x,r,a,q⟩;by_cases hlt:i<ę
 .refine .inr {t.go i G H x.g Œa hlt,by omega,λys H=>ϰ<=i+1/\∃G done yJ,zP b p G H/\ã K G done ys/\yc j s f ùc (Ļf ù)=À yJ/\done++yJ=out,λys' B z=>{ę-ù,Įe _ _ hlt,rfl,hlt,z.1,z.2},λv B y=>?_};let{Z,d,c,I,P}:=t.u5 i G H v B x.g Œa hlt y;rw[ĸb hlt]at a;rw[ĳ hlt]at I;cases I;let{τ1,h1,a}:=zD (show(j _ _).bind _=_ from a);let{L,S,a}:=zD a;let K3:=((N.go x).go c).more k;show Y Z B _ v τ1 _ K3 P h1 λρ F=>{{ρ,rfl},_,_,_,_,L,F,S,λG5 H5 o=>?_}
  cases L with
  |Â=>show jA {by omega,G5,done,yJ,Ýd (Ťa o),Äa (Ūn o.g),a,q}|Æ=>let{z,X,a}:=zD (show(f _).bind _=_ from a);let{l,R,a}:=zD a;cases a;refine jB {_,_,_,_,z,F.go o,X,λu T H6 O r6=>{by rw[í];show Ĭe E,T,done++[z],l,Ýd (Ťa (o.trans O)),(Äa (Ūn (o.g.trans O.g))).append (Ęf r6),R,?_}};rw[ř];show q
 let e:Ļf i=[]:=Ťc ıg;rw[e]at a;cases a;rw[ŷ]at q;subst q;refine .inl {t.stop i G H x.g Œa Ê,A ys G H x r ?_};rw[<-ũ];omega
section
variable{X:Cx}{tg ū elt:Õ}{ifs:Á Õ}{Ŀ:Ùa}{cl:Á ϡa}{own:Á È}{pos:Pos}{fs:FA}{fg:FG}{ft:FT}{f:FE}{g:TG}
def NV(xs:Á α)(y:α)(a:Á α)(h:n=ç)(z:α):(xs++y::a).set n z=xs++z::a:=by subst h;rw[Ďg _ _ ċ,ćc];rfl
structure BG(X:Cx)(Ŀ:Ùa)(cl:Á ϡa)(own:Á È)(tg:Õ)(g:TG)(fg:FG):Ç where
 q:∀C s H fp pn,QG Ϯ tg g
 k:∀{G0 H0:Hp}{τ:yK}{σ:St},τ.length=ú->σ.length=ú->∀G H d v τ' (Q:St->Hp->Ç),yA X.K úf G0 H0 G H àl Žc->zW X.K G d v->fg d àl=À τ'->
  (∀ρ,yA X.K úf G0 H0 G H τ' ĝf->Q ĝf H)->g v Žc H Q
def vA(q:∀C s H fp pn,QG (wO X Ŀ cl [x] C s H fp pn) tg Ńc)(hi:i=ú):BG X Ŀ cl [x] tg Ńc (yF i):={q,λ{h g τ σ} f b G H d v τ' Q E r e k=>by cases e;let c:=E.set (i:=i) (v:=v) (by rw[hi];show ïb _) r;let a:(ől).set i Ϥ=σ++[À v]:=NV σ Ä [] (hi.trans şi) Ϥ;exact Q ((ől).set i Ϥ) H;rw[a];show k [À v] ?_;rw[<-a];show c}
def Wz(q:∀C s H fp pn,QG (wO X Ŀ cl Ťb C s H fp pn) tg øe)(hi:i=ú)(g:j=ú+1):BG X Ŀ cl Ťb tg øe (xh i j):=⟨q,λ{z I τ σ} B f G H d v τ' Q E r e k=>by
 unfold xh at e
 split at e;rename_i F w;cases e;let{a,A,rfl,n,{b,u,rfl,o,{c,l,rfl,p,m}},_}:=r;cases(show l=[]from m);let t:=(E.set (i:=i) (v:=b) (by rw[hi];show Nat.lt_add_of_pos_right (îh _)) o).set (i:=j) (v:=c) (by rw[g];show ïb _) p
 let h:(řj).set j ĩi=σ++[À b,À c]:=by
  let e1:(σ++Ŷ 2 Ä).set i (À b)=σ++[À b,Ä]:=NV σ Ä [Ä] (hi.trans f.symm) (À b);rw[e1];let e2:σ++[À b,Ä]=ým++[Ä]:=by simp
  rw[e2,NV ým Ä [] (by rw[í,g,f];rfl) ĩi];simp
 show{a,_,rfl,vO òa n,rfl,b,_,rfl,c,_,rfl,rfl,?_};exact Q ((řj).set j ĩi) H;rw[h];show k [À b,À c] ?_;rw[<-h];show t;cases e⟩
def af(X:Cx)(own:Á È):(xJ X.N own).length=ú+ôb:=by unfold xJ;rw[í,ì]
theorem Io(h:SE Ϯ elt f):PE Ϯ elt (Nu X.K úf f):=by let q:=h.pe;rw[ŋo]
def Ip(h:Y_ Ϯ ifs ft):Yy Ϯ ifs (M6 X.K úf ft):=by let q:=h.h;rw[ŋo]
def wt(a:Ż=Æ)(B:ZR X Ŀ cl own)(hi:SI X tg ū fs)(j:BG X Ŀ cl own tg g fg)(r:∀C s H fp pn,Y_ Ϯ ifs ft)(t:∀C s H fp pn,SE Ϯ elt f)(n:Î (∀x,úb ū Ö x=pure x) q10) :SF X Ϲa Ŀe:=by
 let{N,y,u}:=Ëc;show{{_,eM a B y (ξb (j.q C s H fp pn)) (ιb (r C s H fp pn)) (λC s H fp pn=>Io (t C s H fp pn)) n,λ{O I G H τ σ d Q} K b q=>?_}};let{P,v,b}:=zD b;let{E,A,b}:=zD b;cases b;show u K v λJ R S i l m=>Os m l (üa i) A (j.k K.l2 K.l1) λw F L c o z p e=>?_
 show q p _ _ (i.trans ϕk) (i.h.free (ϖd e)) (êf e) {w,yS,o,z}
def y8z(b:Ż=Æ)(z:Ĥa)(c:X.N[i]?=À x)(L:ĉd x=À .local)(B:ZR X Ŀ cl own)(m:ϊb Ϲa ϗk ŕn Ö=pure Æ)(hi:SI X tg ū fs)(t:BG X Ŀ cl own tg g fg)(I:∀C s H fp pn,Y_ Ϯ ifs ft)(O:∀C s H fp pn,SE Ϯ elt f)(A:Î (∀x,úb ū Ö x=pure x) q10) :SS X Řj (tQ i Ŀe):=by
 let{ti,R,P}:=Ëc;show{{_,f6 b z c L B m R (λC s H fp pn=>(t.q C s H fp pn).h) (ιb (I C s H fp pn)) (μb (O C s H fp pn)) A,λ{G0 H0 G H τ σ Z E} K r q=>?_}};let{d,a,r}:=zD r;cases r;let{ds,Q,a}:=zD a;let{U,T,a}:=zD a;cases a;show P K Q λJ Ga Ha v l w=>Os w l Ĕi T (t.k K.l2 K.l1) λu Y H1 n F S p e=>?_
 let j:=(Ĕi).go n;let y:=j.go (ĭa (o:=.lst u) n.gh e);show q _ _ _ (y.SD Ħi.1 (n.gh.free e) (j.ext.h.free e) {u,yS,F,S} (j.R_ e))
def l8(b:Ż=Æ)(y:Ĥa)(c:X.N[i]?=À x)(I:ĉd x=À .local)(B:ZR X Ŀ cl own)(e:ϊb Ϲa ϗk ŕn Ö=pure Æ)(hi:SI X tg ū fs)(n:BG X Ŀ cl own tg g fg)(F:∀C s H fp pn,Y_ Ϯ ifs ft)(L:∀C s H fp pn,SE Ϯ elt f)(z:Î (∀x,úb ū Ö x=pure x) q10) :SS X Řj (zj i Ŀe):=by
 let{ti,Q,O}:=Ëc;show{{_,f6 b y c I B e Q (ξb (n.q C s H fp pn)) (ιb (F C s H fp pn)) (μb (L C s H fp pn)) z,λ{G0 Z G H τ σ Y E} K m q=>?_}};let{d,a,m}:=zD m;cases m;let{ds,P,a}:=zD a;let{T,S,a}:=zD a;cases a;show O K P λJ Ga Ha u l v=>Os v l (üa u) S (n.k K.l2 K.l1) λt U H1 j A R p r=>?_
 let w:=((üa u).go j).go (Þb (o:=.lst t) j.gh r);show q _ _ _ (w.set Ħi.1 {p,t,rfl,æb yS,Óe (we (j.gh.free r) _),R})
#print a
section
variable{K:Ñ}{n:Ã}{G0 H0 G H:Hp}{τ:yK}{σ:St}
def yA.BY(E:yA K n G0 H0 G H τ σ)(hi:τ[i]?=À žb)(v:σ[i]?=À Āh)(A:wN K G ďc d' p):yA K n G0 H0 G ďc ϩj σ:=by
 let{R,e,g,z,_}:=Ża i d hi;rw[v]at e;cases e
 let ć:∀{l:Hp},l p=Ä->zt l H->zt l ďc:=λ{l} h s b u q=>by rw[zy (t_ q h)];show s _ _ q
 refine{{Ďi,ć z Ķc,ć g òa,űd},ő,by rw[ϋo],λj e h=>?_,λj e h=>?_,λj k e f q a P N O L=>?_};rcases uF h with⟨rfl,w⟩|⟨B,w⟩;cases w;show éb j e w;rcases uF h with⟨rfl,w⟩|⟨B,w⟩;cases w;show{p,v,g,z,A};let{q,C,Q,I,m}:=Ża j e w;show{q,C,Q,I,?_}
 let a:q≠p:=λc=>by subst c;show êb i j d e q (λc=>B ļf) hi w v C
 cases e with
 |lst ds=>let{x,y,r}:=m;show{x,by rw[zy a];show y,r}
 |dic ks ds=>let{x,y,r}:=m;show{x,by rw[zy a];show y,r}
 |_=>show m.elim
 let t:∀{j:Ã}{e:D},ϩj[j]?=À ńd->∃e,τ[j]?=À ńd:=λ{j e} h=>by rcases uF h with⟨rfl,_⟩|⟨_,w⟩;show{_,hi};show{_,w}
 let{e1,F}:=t P;let{e2,J}:=t N;show êb j k e1 e2 q a F J O L
#print a
section
variable{X:Cx}{x:È}{xp pos š Ž:Pos}{e:Õ}{f:FE}
def ge(Q:QE X Ěa áe)(P:SE X e f)(m:Î (Ëa Ěa "append" Ö Çh=ý Ěa Ö) q11)(n:Î éa q11)(w:Î ϊ q11) :SS X (Βe (.Attribute Ěa "append" š)) (qb i j6 f):=by
 let{t,p,k}:=(zB P zM w).h;refine{{_,(fP (Vf Îk PySem.F.slot_list_append PySem.F.type_list_append z6a Q {p} m n (by rw[Ś,w];rfl) Ŧc) rfl).h,λ{Z U G H τ σ T E} K j q=>?_}};unfold qb at j
 split at j;rename_i d A;let{y,R,j}:=zD j;let{O,b,j}:=zD j;cases j;let{a,B,g,z,o}:=K.ow _ _ A;cases d with
 |lst ds=>
  let{v,C,I,l}:=o;refine{_,B,.inl {rfl,v,æb C},k K (ds:=[y]) Äk λus S Y s L=>?_};let{u,r,rfl,N,J}:=L;cases(show r=[]from J)
  change (if ę<yr then À (ϒf (ds++[y]))else Ä)=À O at b
  by_cases c:ę<yr;rw[Ģo];refine{a,v,u,rfl,rfl,s.h _ _ C,by rw[I.length,ŧ];show c,?_};show q _ _ _ ((üa s).BY A B {v++[u],yS,(I.mono s.g).append (Ęf N),?_});rw[í,ŧ];show c;rw[ġo]
 |_=>cases b
 cases j
#print a
section
variable{P:ë}{w:å}{K:Ñ}{mg:È->É Value}{Ë:Heap}
def Ox{α β:Type}{ds:Á α}{k i:Ã}{h:α->É β}{y:β}(e:(ĺf h++Ŷ k Ä)[i]?=À (À y)):∃d,ds[i]?=À d/\h d=À y:=by
 let a:=OM e;rw[ſ]at a;cases q:ds[i]? with
 |Ä=>rw[q]at a;cases a|À d=>rw[q]at a;show{d,rfl,ća a}
def CB{N:Á È}{G H:Hp}{ds:Á D}{vs:Á V}(s:zt G H)(r:ã K G ds vs)(g:ę<=ϗ):yA K ϗ G H G H (μd (ϗ-ę)) ŉh:=by let l:=ũ;show{ßa s,?_,?_,λi d h=>?_,λi d h=>?_,λi j d e p _ f=>?_};unfold Šd;rw[ńo];rw[ńo];let{a,e,z}:=Ox h;cases z;let{v,b,c}:=ŵa e;show{v,?_,c};unfold Šd;rw[ϊa (ξd (Ŭ b)),ſ,b];rfl;let{a,e,z}:=Ox h;cases z;let{a,e,z}:=Ox f;cases z
def Def.nk{x:È}{st:Ø}{N ps:Á È}{k:Ã}{F:Á D->É ê}{b:FS}(d:Def K mg x st ps)(S:zc N ps ľ)(J:ĥ<=ϗ)(i:∀ds r,F ds=À r->ę=ĥ/\yI ϗ b ds=À r)(u:∀(f:Ì)(c:Value)(A:û)(Ā:Á Env)(s:Ï)(H:Hp)(E:XK),yj k æg->uf (ui yu P w K mg Ë N x ľ f c A Ā s H E).t6 ϱ b):wB P w K mg Ë x ps Ĝ ϡd:=by
 show d.ok S (λB H Q E h=>?_) λf c A Ā s H B Q E j h=>?_;let{G,ds,o,C,_,r,e,_}:=h;rw[ũ,Ìo.1];let{G,ds,o,C,m,r,e,q}:=h;let{l,a}:=i _ _ e;let{t,p,I}:=(u f c A Ā s H E j).h;let{n,g,a}:=zD a;refine{t,p,I (CB (N:=N) m r Ê) g ?_};cases n with
 |nx τ=>cases a;show λσ y v z=>q .zG y v z.ext rfl|rt o' d'=>
  cases o' with
  |Â=>cases a<;>show q|Æ=>cases a<;>show q
 |_=>cases a
#print a
section
variable{X:Cx}{K:Ñ}
def YA(h:∀i j,Cb i j=Æ->C i j):u9 K úk (fI Cb g):=λG H x y u v d Q s b e a q=>by
 cases x<;>first|(cases a;done)|skip
 cases y<;>first|(cases a;done)|skip
 rename_i i j
 change (match Cb i j with|Æ=>À (Ş Ŧa)|Â=>Ä)=À d at a
 cases c:Cb i j with
 |Â=>rw[c]at a;cases a|Æ=>rw[c]at a;cases a;show{i,j,b,e,h i j c,q _ _ _ ϫ rfl}
def Va:u9 K ϖn (qT g):=λG H x y u v d Q s b c a q=>by
 cases x<;>first|(cases a;done)|skip
 cases y<;>first|(cases a;done)|skip
 rw[ĳo]
def kW:u9 K ϥm qU:=λG H x y u v d Q s b c a q=>by
 cases x<;>first|(cases a;done)|skip
 cases y<;>first|(cases a;done)|skip
 rw[ĳo]
def dN(h:tJ i=Æ) : -ĥf<i/\i<2 ^ 64:=by unfold tJ at h;rw[Ğ]at h;show{ŭ h.1,ŭ h.2}
def jy:u9 K çg tH:=YA λ_ _ h=>.inl (dN h)
def Qc:u9 K çg Zw:=YA λ_ _ h=>.inr (dN h)
def pC:u9 K Ϲj vx:=YA λ_ _ h=>ŭ h
def L9:u9 K ķj Zv:=YA λ_ _ h=>by rw[Ğ]at h;show{ŭ h.1,ŭ h.2}
def eV(h:qA i j=Æ):Uf i j:=by unfold qA at h;rw[Ğ,Ğ]at h;show{ŭ h.1,ŭ h.2.1,ŭ h.2.2}
def y12:u9 K ŉl Tn:=YA λ_ _ h=>eV h
def kU:u9 K Ýl vy:=YA λ_ _ h=>eV h
def e7:u9 K ōj V8:=YA λ_ _ h=>ŭ h
def vE:qu K Ťk (wZ g):=λH x y u v d Q b c a=>by
 cases x<;>first|(cases a;done)|skip
 cases y<;>first|(cases a;done)|skip
 cases a;show{_,rfl,λq=>{_,_,b,c,q}}
def cv(r:zW K H x u):XR x=decide (u=.zG):=by
 cases x with
 |zG=>cases r;rfl|bl b=>cases r;rfl|int b=>cases r;rfl|str b=>let{rfl,_}:=r;rfl
 |tup b=>let{a,d,rfl,_}:=r;rfl
 |lst b=>let{a,d,rfl,_}:=r;rfl
 |dic b c=>let{a,d,rfl,_}:=r;rfl
 |exc b=>let{a,C,rfl,_}:=r;rfl
 |obj b c e=>let{a,C,f,d,rfl,_}:=r;rfl
def YB:qu K Ŝk jm:=λH x y u v d Q b c a=>by
 cases y<;>first|(cases a;done)|skip
 let e:=cv b;show{XR x,(ća a).symm,λq=>{c,?_}};rw[<-e];show q
def Vb:qu K Ŧj kF:=λH x y u v d Q b c a=>by
 cases y<;>first|(cases a;done)|skip
 let e:=cv b;show{!XR x,(ća a).symm,λq=>{c,?_}};rw[<-e];show q
def JQ:∀(G H:Hp) x u d (Q:VK),zW K G x u->Zx x=À d->∃w,(∀G,zW K G d w)/\(Δd (-i)):=λG H x u d Q r a=>by
 cases x<;>first|(cases a;done)|skip
 rw[ϙo]
def x58:∀(G H:Hp) x u d (Q:VK),zW K G x u->CI x=À d->∃w,(∀G,zW K G d w)/\(Δd ėi):=λG H x u d Q r a=>by
 cases x<;>first|(cases a;done)|skip
 rw[ϙo]
def fV(K:Ñ):R2:=λx y H Q=>∃l b xs zs,x=.ref l/\y=.ref b/\yU K H l xs/\yU K H b zs/\ç+Œn<=â/\∀p,H p=Ä->Q Ů (ηa (xs++zs))
def y1w:yP X ϱc (fV X.K):=by
 intro R s σ H x y v u Q I E J h;let{l,b,T,U,rfl,rfl,A,G,p,q}:=h;cases E;cases J;let{c,n,w,_}:=ű A;let{a,o,L,_}:=ű G;obtain⟨⟨P,B,Y,k⟩,C,g,j,N,d⟩:=w;obtain⟨⟨S,t,O,m⟩,r,i,e,z,f⟩:=L;simp only at j d e f;subst j d e f
 refine éh {_,g,rfl} {_,i,rfl} noFill_list_add seq_list_add PySem.F.slot_list_add PySem.F.entry_list_add (PySem.F.args_list_add_2 _ _)
  (list_addW l b Źh ϣa C r B t k m (by rw[ė,ė,<-ϣb,<-Ġc];show p)) {g,i,?_}
 rw[show Źh++ϣa=(c++a).toArray by simp];show{.ref _,_,I.Rx (t':=Ć) (n.append o) (by rw[í];show p),rfl,q _ ĵc}
def fT(K:Ñ):R2:=λx y H Q=>qD (λi j=>.int (i+j)) x y H Q\/(∃i k,x=.int i/\y=.bl k/\Q ōl H)\/(∃i j,x=.str i/\y=.str j/\Ęb+Ča<=â/\Q ēm H)\/fV K x y H Q\/fW K x y H Q
def xO:yP X ϱc (fT X.K):=y1t.or (y1u.or (y1v.or (y1w.or y1x)))
def xM:u9 K (fT K) yf:=λG H x y u v d Q s t w f q=>by
 cases x<;>first|(cases f;done)|skip
 all_goals (cases y<;>first|(cases f;done)|skip)
 rename_i i b;cases t;cases w;cases f;show .inr (.inl {i,b,rfl,rfl,?_});let e:i+b2i b=i+Ĕd:=by cases b<;>rfl
 rw[e];rw[Àp];cases f;show .inl {_,_,t,w,q _ _ _ ϫ rfl};rename_i i j;let{rfl,I}:=t;let{rfl,F}:=w
 change (if Ęb+Ča<=yr then _ else _)=_ at f
 by_cases c:Ęb+Ča<=yr;rw[Ò c]at f;cases f;let m:Ęb+Ča<=â:=by rw[ŧ];show c
 show .inr (.inr (.inl {i,j,rfl,rfl,m,q _ _ _ ϫ {rfl,by rw[strLen_append];show m}}));rw[Ó c]at f;rw[Ķo]
 change (if Ũn=Â/\Öb+Ϥb<=yr then _ else _)=_ at f
 by_cases c0:Ũn=Â/\Öb+Ϥb<=yr;rw[Ò c0]at f;let c:=c0.2;rw[Őo]
 let E:n≠[]:=λe=>by
  let l:=ϓd;rw[e]at l;cases g with
  |nil=>cases c0.1|ā=>cases l
 refine .inr (.inr (.inr (.inr {a,b,n,A,rfl,rfl,vO s B,vO s C,E,by rw[ϓd,Ġc,ŧ];show c,λe=>?_,λe p r=>?_})));subst e
 let e2:h=[]:=by
  cases h with
  |nil=>rfl|ā=>let{_,_,z,_}:=o;cases z
 subst e2;show q _ _ _ ϫ {a,n,rfl,B,by rw[ŷ];show k,m};show q _ _ _ ϒn {p,n++A,rfl,åb yS,(œm).mono él,m};rw[Ó c0]at f;rw[Ķo]
 change (if Öb+Ϥb<=yr then _ else _)=_ at f
 by_cases c:Öb+Ϥb<=yr;rw[Ò c]at f;rw[Őo]
 refine .inr (.inr (.inr (.inl {a,b,n,A,rfl,rfl,vn s B,vn s C,by rw[ϓd,Ġc,ŧ];show c,λp r=>?_})));show q _ _ _ ϒn {p,n++A,rfl,æb yS,(œm).mono él,m};rw[Ó c]at f;cases f
def oV(h:py xs i=À x):∃j:Ã,xs[j]?=À x/\∀{β:Type}(ys:Á β),ϰ=ç->py ys i=ys[j]?:=by
 unfold py at h;cases e:ixN ç i with
 |Ä=>rw[e]at h;cases h|À j=>rw[e]at h;show{j,h,λys l=>by unfold py;rw[l,e];rfl}
def aP(xs:Á α)(i:Å):py xs i=uh xs i:=by
 unfold py uh ixN;by_cases h:0<=i;rw[Ò h,Ò h];by_cases h2:i<ç;rw[Ò h2];rfl;rw[Ó h2];show(ñb Ê).symm;rw[Ó h,Ó h]
 split<;>rfl
def HM(r:ã K H ds vs)(h:uh ds i=À d):∃v,py vs i=À v/\zW K H d v:=by rw[<-aP]at h;let{j,e,k}:=oV h;let{v,b,a}:=ŵa e;show{v,by rw[k vs ũ];show b,a}
def z0y:D->D->É D
 |.lst xs,.int i=>uh xs i|.tup xs,.int i=>uh xs i|.str z,.int i=>(ėn).bind λc=>À ϑe|_,_=>Ä
def GR:u9 K (HC K) z0y:=λG H x y u v d Q s f k e q=>by
 cases x<;>first|(cases e;done)|skip
 all_goals (cases y<;>first|(cases e;done)|skip)
 rename_i z i;let{rfl,l}:=f;cases k;let{c,o,e}:=zD e;cases e;rw[<-aP]at o;show .inr (.inr {z,i,c,rfl,rfl,l,o,q _ _ _ ϫ {rfl,įa (n:=1) Í}});rw[ĺo];show .inr (.inl {a,m,i,w,rfl,rfl,vO s g,j,q _ _ _ ϫ b});rw[ĺo];show .inl {a,m,i,w,rfl,rfl,vn s g,j,q _ _ _ ϫ b}
def vV:wM X ŧe (Ρc Íg Şh):=sC.or sE
def vX:Yx K (Ρc (yU K H p ys\/ye K H p ys) Şh) xq:=λG H i j d Q s r b q=>by
 match i,b with
 | [.lst xs],b=>cases b;let{v,c,rfl,{a,g,rfl,h,f,_},e}:=r;cases(show c=[]from e);show .inl {a,g,rfl,.inl h,by rw[ċa];rw[Àp]}
 | [.tup xs],b=>cases b;let{v,c,rfl,{a,g,rfl,h,f,_},e}:=r;cases(show c=[]from e);show .inl {a,g,rfl,.inr h,by rw[ċa];rw[Àp]}
 | [.str z],b=>cases b;let{v,c,rfl,{rfl,l},e}:=r;cases(show c=[]from e);show .inr {z,rfl,l,q _ _ _ ϫ rfl}
def y03:Yx K ϛi OA:=λG H e f d Q s r a q=>by
 match e,a with
 | [.int i],a=>cases a;let{v,b,rfl,rfl,c}:=r;cases(show b=[]from c);show .inl {i,rfl,q _ _ _ ϫ rfl}
 | [.bl k],a=>cases a;let{v,b,rfl,rfl,c}:=r;cases(show b=[]from c);show .inr {k,rfl,q _ _ _ ϫ rfl}
#print a
theorem bJ:∀xs ys:Á D,(((Āa (min ç ϰ)).all λj=>wH Żg (ys.getD j .zG))&&ç==ϰ)=ŧb xs ys
 | [],[]=>rfl| [],_::_=>rfl|_::_,[]=>rfl|x::xs,y::ys=>by
  let a:=bJ xs ys;exact _=ķk;rw[<-a,Ď,Ď,Nat.succ_min_succ,List.range_succ_eq_map,Ś,Īm,Bool.and_assoc]
  congr 1
  congr 1
  rw[øc];simp
theorem bB:∀{xs ys:Á D},qz f xs ys=Æ->∀(j:Ã) x y,xs[j]?=À x->ys[j]?=À y->f x y=Æ
 | [],_,_,j,x,y,e,_=>by cases e|x::xs,[],_,j,_,y,_,e=>by cases e|x::xs,y::ys,h,0,_,_,e1,e2=>by cases e1;cases e2;let c:Ŧk=Æ:=h;rw[Ğ]at c;show c.1|x::xs,y::ys,h,j+1,a,b,e1,e2=>by let c:Ŧk=Æ:=h;rw[Ğ]at c;show bB c.2 j a b Ūk ũk
section
variable{X:Cx}{z6:Á ð}{σ:St}{H:Hp}{s:Ï}{K:Ñ}
theorem CD(d:∀d1 d2 v,uC n d1 d2=Æ->zW K H d1 v->zW K H d2 v->wH d1 d2=Æ):∀{xs ys:Á D}{vs:Á V},qz łc xs ys=Æ->ã K H xs vs->ã K H ys vs->ŧb xs ys=Æ
 | [],[],_,_,_,_=>rfl| [],_::_,_,_,r1,r2=>by cases(show _=[]from r1);let{_,_,e,_}:=r2;cases e
 |_::_,[],_,_,r1,r2=>by cases(show _=[]from r2);let{_,_,e,_}:=r1;cases e
 |x::xs,y::ys,_,h,r1,r2=>by let{v,r,rfl,a,b}:=r1;let{j,i,e,f,g}:=r2;cases e;let c:(uC n x y&&qz łc xs ys)=Æ:=h;rw[Ğ]at c;exact ķk=Æ;rw[d x y v c.1 a f,CD d c.2 b g];rfl
def Fw(h:uC ı x y=Æ):(∃xs ys,x=.tup xs/\y=.tup ys/\qz łc xs ys=Æ)\/(∃xs ys,x=.lst xs/\y=.lst ys/\qz łc xs ys=Æ)\/(xV x=Æ/\xV y=Æ):=by
 unfold uC at h
 split at h;show .inl {_,_,rfl,rfl,h};show .inr (.inl {_,_,rfl,rfl,h});rw[Ğ]at h;show .inr (.inr h)
def Xi(h:xV d=Æ)(r:zW K H d v):p6 v=Æ:=by
 cases d<;>first|show Þ h ņ|skip
 rw[űo];rw[űo];rw[űo];cases(show v=_/\_ from r).1;rfl
def Qt(c:xV d1=Æ)(d:xV d2=Æ)(a:zW K H d1 x)(b:zW K H d2 y):qS x y=wH d1 d2:=by
 cases d1<;>first|show Þ c ņ|skip
 all_goals (cases d2<;>first|show Þ d ņ|skip)
 all_goals first
  |(cases(show x=_ from a);cases(show y=_ from b);rfl)
  |(cases(show x=_ from a);cases(show y=_/\_ from b).1;rfl)
  |(cases(show x=_/\_ from a).1;cases(show y=_ from b);rfl)
  |(cases(show x=_/\_ from a).1;cases(show y=_/\_ from b).1;rfl)
theorem O8(I:zE X z6 σ H s):∀(n:Ã)(d1 d2:D)(v:V),uC n d1 d2=Æ->zW X.K H d1 v->zW X.K H d2 v->wH d1 d2=Æ
 |0,_,_,_,h,_,_=>by cases h|n+1,d1,d2,v,h,r1,r2=>by rcases Fw h with⟨j,i,rfl,rfl,h⟩|⟨j,i,rfl,rfl,h⟩|⟨g,o⟩;rw[Œo];cases I.Bc c b;show CD žj h d f;rw[Œo];cases I.Jy c b;show CD žj h d f;rw[<-Qt g o r1 r2];show z0w (Xi g r1)
def cE{α:Type}{xs:Á α}{j:Ã}{x d:α}(h:xs[j]?=À x):xs.getD j d=x:=by rw[Èa,h];rfl
def LX{A:û}{n:Ã}{a c:Ì}{xs b:Á D}{vs us:Á V}(I:zE X z6 σ H s)(t:ďa<ų)(B:SqB X.K H a c vs us)(i:ã X.K H xs vs)(k:ã X.K H b us)(h:qz łc xs b=Æ)(p:∀(d1 d2:D)(x y:V)(u v:Value),uC n d1 d2=Æ->zW X.K H d1 x->zW X.K H d2 y->zw x u->zw y v->Îb Ŵ s u v Őh):ļh A s ŝ ħf (ŧb xs b)/\ëh A s ŝ ħf (!dEqs xs b):=by
 let z:=y5h (A:=A) (e:=λj=>wH Żg ϴl) I t B λj q m g l e1 e2 r w=>by let{d1,d,C}:=i.at e1;let{d2,f,o}:=k.at e2;exact Îb Ŵ s g l (wH Żg ϴl);rw[cE d,cE f];show p d1 d2 q m g l (bB h j d1 d2 d f) C o r w
 rw[Ęb,ϓd,bJ]at z;show z
theorem O7(I:zE X z6 σ H s):∀(n:Ã)(A:û)(d1 d2:D)(x y:V)(u v:Value),ďa+n<ų->uC n d1 d2=Æ->zW X.K H d1 x->zW X.K H d2 y->zw x u->zw y v->Îb A s u v Őh
 |0,_,_,_,_,_,_,_,_,h,_,_,_,_=>by cases h|n+1,A,d1,d2,x,y,u,v,hu,h,r1,r2,rx,ry=>by let q:=h;let m:=r1;let o:=r2;rcases Fw h with⟨z,w,rfl,rfl,h⟩|⟨z,w,rfl,rfl,h⟩|⟨r,p⟩;rw[źo];show žk hac (Τc Ŧm œe).1;rw[źo];show žk hac (Τc Ťm œe).1;rw[<-Qt r p r1 r2];show be rx ry (Xi r r1) (Xi p r2)
#print a
def LQ(K:Ñ)(a:Ð):R2:=λx y H Q=>∃d1 d2 k,zW K H d1 x/\zW K H d2 y/\kE d1 d2=À k/\Q (.bl (if a then !k else k)) H
def yY(a:yj k A):ďa+7<ų:=Àb (ůc (by decide:7<=64) _) a.units
section
variable{X:Cx}{K:Ñ}
def CF(h:kE d1 d2=À k):uC 6 d1 d2=Æ/\k=wH d1 d2:=by
 unfold kE at h
 split at h;cases h;cases h;rw[ĝo];cases h;show{e,rfl};cases h
def iW(h:kE d1 d2=À k)(c:xV d1=Æ)(d:xV d2=Æ)(a:zW K H d1 x)(b:zW K H d2 y):NR x y=Æ/\decide (x=y)=k:=by
 let{_,e}:=CF h;subst e;cases d1<;>first|show Þ c ņ|skip
 all_goals (cases d2<;>first|show Þ d ņ|(cases h;done)|skip)
 all_goals first
  |(cases(show x=_ from a);cases(show y=_ from b);show⟨rfl,by first|rfl|show C3|show C2⟩)
  |(cases(show x=_ from a);cases(show y=_/\_ from b).1;show⟨rfl,rfl⟩)
  |(cases(show x=_/\_ from a).1;cases(show y=_ from b);show⟨rfl,rfl⟩)
  |(cases(show x=_/\_ from a).1;cases(show y=_/\_ from b).1;show⟨rfl,C4⟩)
def bg(I:zE X z6 σ H s)(G:ďa+7<ų)(h:uC 6 d1 d2=Æ)(E:¬ (xV d1&&xV d2)=Æ)(n:zW X.K H d1 x)(o:zW X.K H d2 y)(m:zw x u)(p:zw y v) :ļh A s u v Őh/\ëh A s u v (!wH d1 d2):=by rcases Fw h with⟨t,r,rfl,rfl,h⟩|⟨t,r,rfl,rfl,h⟩|⟨F,C⟩;rw[Čo];show LX I Ê Ŧm j k h λd1 d2 x y u v d l b e i=>O7 I 5 Ŵ d1 d2 x y u v œe d l b e i;rw[Čo];show LX I Ê Ťm j k h λd1 d2 x y u v d l b e i=>O7 I 5 Ŵ d1 d2 x y u v œe d l b e i;show Þ (by rw[F,C];rfl) E
def xP(l:ńa+7<ų):yP X Ϡn (LQ X.K Â):=by rw[ăo];show y1y m s σ H x y v u Q I d g {a,by rw[b];show q};let{n,rfl}:=CF i;show Ęk.1 _ _ _ _ {.bl _,H,I,rfl,q}
def tO(l:ńa+7<ų):yP X Ĳm (LQ X.K Æ):=by rw[ăo];show y26 m s σ H x y v u Q I d g {a,by rw[b];show q};let{n,rfl}:=CF i;show Ęk.2 _ _ _ _ {.bl _,H,I,rfl,q}
def xN:qu K (LQ K Â) zh:=λH x y u v d Q b c a=>by rw[ſo]
def tM:qu K (LQ K Æ) xE:=λH x y u v d Q b c a=>by rw[ſo]
#print a
def z4v{K:Ñ}:œ K Ŷc ěa=À Â/\œ K Ŷc ña=À Â/\œ K Ŷc ła=À Â/\
  œ K śa ěa=À Â/\œ K śa ña=À Â/\œ K śa ła=À Â/\
  œ K Ĝa ěa=À Â/\œ K Ĝa ña=À Â/\œ K Ĝa ła=À Â:=by show{?_,?_,?_,?_,?_,?_,?_,?_,?_}<;>kernel_rfl
def z4w{K:Ñ}:œ K ěa Ĝa=À Â/\œ K ěa śa=À Â/\œ K ěa ña=À Â/\œ K ěa ła=À Â/\
  œ K ña Ĝa=À Â/\œ K ña śa=À Â/\œ K ña ěa=À Â/\œ K ña ła=À Â/\œ K ña ña=À Æ:=by show{?_,?_,?_,?_,?_,?_,?_,?_,?_}<;>first|kernel_rfl|rfl
def z4x{K:Ñ}:œ K ła Ĝa=À Â/\œ K ła śa=À Â/\œ K ła ña=À Â/\œ K ła ěa=À Â:=by show{?_,?_,?_,?_}<;>kernel_rfl
nonrec def x4x:D->Åa
 |.zG => "NoneType"|.bl _ => Æe|.int _ => ϲa|.str _ => ãb|.tup _ => ō|.lst _ => Ġ|.dic _ _ => Ź|.exc _ => "x"|.obj _ _ _ => "x"
def VP{K:Ñ}{T:t9}{d:D}{b:Ð}(h:QN T d=À b):œ K (.type (x4x d)) Şm=À b:=by
 let{n,k,g,m,p,w,u,y,q}:=z4v (K:=K);let{r,j,v,e,f,x,s,t,c}:=z4w (K:=K);let{l,i,o,a}:=z4x (K:=K);cases T<;>cases d<;>cases h
 all_goals first|show z4q|show z4o|show z4p|show z4n|show z4s|show z4r|show z4u|show z4t|assumption
def y54(K:Ñ)(T:t9):Á V->Hp->VK->Ç:=λa H Q=>∃x d b,a=[x,.ty T.nm]/\zW K H d x/\QN T d=À b/\Q ϭa H
def sB(T:t9):wM X Ϧg (y54 X.K T):=by
 intro p s σ H w A Q I r h;let{x,d,b,rfl,i,e,q}:=h;let{u,c,rfl,g,t}:=PH r;cases(show c=ĺh T.nm from t);let f:∀tk,EP X p σ Q ϯh { s with Ċ:=tk }:=λtk=>{.bl b,H,Ų tk,rfl,q}
 cases d with
 |zG=>cases(show x=_ from i);show Od I g .zG (VP (d:=.zG) e) f|bl y=>cases(show x=_ from i);show Od I g (.bl _) (VP (d:=.bl y) e) f|int y=>cases(show x=_ from i);show Od I g (.int _) (VP (d:=.int y) e) f|str y=>cases(show x=_/\_ from i).1;show Od I g (.str _) (VP (d:=.str y) e) f|tup ds=>let{a,v,rfl,k,_}:=i;cases(show u=Ĉ a from g);let{m,_,{o,l,j,_},_}:=ώ k;show ţa Ĥm ŗ {o,l,j} (VP (d:=.tup ds) e) Ća f
 |lst ds=>let{a,v,rfl,k,_}:=i;cases(show u=Ĉ a from g);let{m,_,{o,n,l,j,_},_}:=ű k;show ţa đh ŗ {o,l,j} (VP (d:=.lst ds) e) Ća f
 |dic ks ds=>cases T<;>cases e|exc _=>cases T<;>cases e|obj _ _ _=>cases T<;>cases e
def k_(T:t9)(u:Gl X óc)(g:Gl X x)(o:ñ óc=Ä)(e:ñ x=Ä)(hv:Ţ x=À Şm)(n:SB X a f)(i:Î ϳc q11)(s:Î ϑa q7)(j:Î Ĭ q7):SE X (.Call (.Name óc p) [a,.Name x p1] [] pos) (j5 T f):=by let{t,w,k}:=n.h;refine{{_,(Qr (sB T) u o rT (Gx {w} (Gx (y4s g e hv s j) fO rfl) i) Í Í ϳk).h,λ{B C G H τ σ d Q} E c q=>?_}};let{z,l,c}:=zD c;let{b,m,c}:=zD c;cases c;show k E l λv A y x r=>{v,z,b,rfl,r,m,q _ _ _ x rfl}
#print L3
namespace L3
open ě
theorem PQ{c:FT}{b:FS}:∀{n:Ã}{σ:yK}{fl:Fl}(k:Ã),pK c b n σ=À fl->pK c b üd σ=À fl
 |0,_,_,_,h=>by cases h|n+1,σ,fl,k,h=>by
  rw[Nat.succ_add];unfold pK at h ⊢;cases hc:c σ with
  |Ä=>rw[hc]at h;cases h|À kk=>
   rw[hc]at h;cases kk with
   |Â=>show h|Æ=>
    change (õd).bind _=_ at h
    exact(õd).bind _=_;cases hb:b σ with
    |Ä=>rw[hb]at h;cases h|À f=>
     rw[hb]at h;cases f with
     |nx τ=>show PQ k h|ct τ=>show PQ k h|bk τ=>show h|rt o d=>show h
def i9(n:Ã)(h:pK c b n σ=À fl)(a:Î (n<=ZU) q7):Qy c b σ=À fl:=by let e:=PQ (ZU-n) h;rw[Êl a]at e;show e
def x7h(d:c σ=À Æ)(a:b σ=À ìo):pK c b ı σ=pK c b n σ':=by exact(Þe).bind _=_;rw[d];exact(õd).bind _=_;rw[a];rfl
def mP(a:c σ=À Â):pK c b ı σ=À Ĩf:=by exact(Þe).bind _=_;rw[a];rfl
theorem pB(P:Ã->yK->Ç):∀{ds:Á D}{σ:yK}(n:Ã),P n σ->(∀i d σ,ds[i]?=À d->P (n+i) σ->∃σ1 σ2,g d σ=À σ1/\(b σ1=À ϭh\/b σ1=À (.ct σ2))/\P (n+i+1) σ2)->
  ∃σ',pA g b ds σ=À ìo/\P (n+ę) σ'
 | [],σ,n,h,_=>{σ,rfl,h}|d::ds,σ,n,h,step=>by
  let{σ1,σ2,e1,e2,e}:=step 0 d σ rfl h
  let{σ',c,l}:=pB P (ds:=ds) (σ:=σ2) ı e λi q τ f m=>by let{a,o,p,j,k}:=step ù q τ Ĺg (by rw[show n+ù=n+1+i by omega];show m);show{a,o,p,j,by rw[show n+1+i+1=n+ù+1 by omega];show k}
  show{σ',?_,by rw[Ď,show n+(ę+1)=n+1+ę by omega];show l};exact(Ģf).bind _=_;rw[e1];exact(b σ1).bind _=_;rcases e2 with e2|e2;rw[e2];show c;rw[e2];show c
abbrev wE(j:Ã):Á D:=(Āa j).map λk:Ã=>Ş k
def ku(h:f τ=À Ĭc)(a:ϻh<=1000000):p9 ĩ f τ=À (wE Þd):=by unfold p9;rw[h];exact(if(0:Å).natAbs<=yr/\ϻh<=yr/\(n-0).toNat<=yr then _ else _)=_;rw[Ò {by decide,by exact _<=16777216;omega,by exact _<=16777216;omega},ĭm];simp only[Ĭm]
#print L3
namespace L3
def shx:=
 æ yI.eq_1<|æ zN.eq_1<|æ zj.eq_1<|æ tQ.eq_1<|æ zg.eq_1<|æ uV.eq_1<|æ jI.eq_1<|æ yN.eq_1<|æ yQ.eq_1<|æ kz.eq_1 <|
 æ i8.eq_1<|æ qb.eq_1<|æ vY.eq_1<|æ pA.eq_1<|æ pA.eq_2<|æ e1.eq_1<|æ e2.eq_1<|æ eL.eq_1<|æ eC.eq_1<|æ z0.eq_1<|æ X8.eq_1 <|
 æ zA.eq_1<|æ zF.eq_1<|æ tE.eq_1<|æ k9.eq_def<|æ Z4.eq_1<|æ uw.eq_1<|æ qG.eq_1<|æ Zs.eq_1<|æ Th.eq_1<|æ Tg.eq_1<|æ vC.eq_1 <|
 æ wp.eq_1<|æ v3.eq_1<|æ j5.eq_1<|æ QN.eq_1<|æ g6.eq_1<|æ g6.eq_2<|æ g6.eq_3<|æ g6.eq_4<|æ g6.eq_5<|æ g6.eq_6<|æ g6.eq_7<|æ g6.eq_8<|æ g6.eq_9<|æ t9.sel.eq_1<|æ t9.sel.eq_2<|æ t9.sel.eq_3<|æ t9.sel.eq_4<|æ t9.sel.eq_5<|æ fI.eq_def<|æ qU.eq_def<|æ wZ.eq_def<|æ tH.eq_1<|æ Zw.eq_1<|æ vx.eq_1<|æ Zv.eq_1 <|
 æ Tn.eq_1<|æ vy.eq_1<|æ V8.eq_1<|æ qT.eq_def<|æ Zx.eq_def<|æ xq.eq_def<|æ OA.eq_def<|æ jm.eq_def<|æ kF.eq_def<|æ XR.eq_def <|
 æ yF.eq_1<|æ xh.eq_1<|æ wT.eq_1<|æ za.eq_1<|æ vh.eq_1<|æ xK.eq_1 <|
 æ @Option.bind_some.{0,0} <| æ @Option.bind_none.{0,0} <| æ @List.getElem?_cons_zero.{0} <| æ @List.getElem?_cons_succ.{0} <| æ @List.set_cons_zero.{0} <| æ @List.set_cons_succ.{0} <| æ @List.map_cons.{0,0} <| æ @List.map_nil.{0,0} <|
 æ @List.cons_append.{0} <| æ @List.nil_append.{0} <| æ @List.length_cons.{0} <| æ @List.length_nil.{0} <| æ @List.replicate_zero.{0} <| æ @List.replicate_succ.{0} <| æ Bool.not_true<|æ Bool.not_false <|
 æ @decide_true<|æ @decide_false<|æ Bool.and_self<|æ Ãh ãm
open ě ħ Ģ L2
section
variable{α:Type}
theorem mj:∀{ks:Á zV}{vs:Á α}(k:zV),Ŋ=ü->((ĝa).any λkv=>decide ãi)=vW ks k
 | [],[],_,_=>rfl|k'::ks,v::vs,k,h=>by let a:=mj (ks:=ks) (vs:=vs) k Âb;exact(decide ži||((ĝa).any λkv=>decide ãi))=(decide ži||vW ks k);rw[a]
theorem YU(k:zV):∀{ks:Á zV}{vs:Á V},Ŋ=ü->tS ĝa k=Ĳ ks vs k:=by
 intro ks
 induction ks with
 |nil=>intro vs _;cases vs<;>rfl|ā k' ks ih=>
  intro vs h;cases vs with
  |nil=>cases h|ā v vs=>by_cases e:k'=k;rw[Áb,MH (p:=(k',v)) e];exact _=Če;rw[Ò e];rw[Áb,MF (p:=(k',v)) e,ih Ġi];exact _=Če;rw[Ó e]
theorem x83(k:zV)(v:V):∀(ks:Á zV)(vs:Á V),((ĝa).map λkv=>if kv.1=k then(kv.1,v)else kv)=šf îj:=by
 intro ks
 induction ks with
 |nil=>intro vs;rfl|ā k' ks ih=>
  intro vs;cases vs with
  |nil=>rfl|ā u vs=>rw[Áb,Ň,ih,ůb,Áb];by_cases e:k'=k;rw[Ò e,Ò e];rw[Ó e,Ó e]
theorem Pn(h:Ŋ=ü):uT ĝa k v=(ϧh).zip Ųe:=by unfold uT vk wc;rw[mj k h];by_cases c:vW ks k=Æ;rw[Ò c,Ò c,Ò c,x83 k v];rw[Ó c,Ó c,Ó c,List.zip_append h];rfl
def Qj(h:Ŋ=ü):(ϧh).length=(Ųe).length:=by
 unfold vk wc
 split;rw[ųb,h,Ľa];rw[í,í,h];rfl
def Gg(h:Ŋ=ü):(Ųe).length<=ü+1:=by
 unfold wc
 split;rw[ųb,h,Ľa];show İd _;rw[í];show ïa _
#print a
section
variable{K:Ñ}{H:Hp}
theorem Ŭn:∀{ks:Á zV}{ds:Á D}{vs:Á V}{k:zV}{d:D},ã K H ds vs->Ĳ ks ds k=À d->∃v,Ĳ ks vs k=À v/\zW K H d v
 | [],_,_,_,_,_,e=>by cases e|_::_,[],_,_,_,_,e=>by cases e|k'::ks,d'::ds,_,k,d,r,e=>by
  let{v,h,rfl,a,b}:=r
  change (if k'=k then À d' else L3.getK ks ds k)=À d at e
  rw[Ďo];show{v,by exact Če=_;rw[Ò c],a};rw[Ó c]at e;let{u,f,g}:=Ŭn b e;show{u,by exact Če=_;rw[Ó c];show f,g}
theorem cG{α β:Type}:∀{ks:Á zV}{ds:Á α}{vs:Á β}{k:zV},ę=ü->Ĳ ks ds k=Ä->Ĳ ks vs k=Ä
 | [],_,_,_,_,_=>by unfold Ĳ;rfl|_::_,[],[],_,_,_=>rfl|k'::ks,d'::ds,v::vs,k,h,e=>by
  change (if k'=k then À d' else Ĳ ks ds k)=Ä at e
  exact Ğj=Ä;rw[Ďo];rw[Ó c]at e;rw[Ó c];show cG Âb e
theorem OL:∀{ks:Á zV}{vs:Á α}(k:zV),Ŋ=ü->(Ĳ ks vs k).isSome=vW ks k
 | [],[],_,_=>rfl|k'::ks,v::vs,k,h=>by let a:=OL (ks:=ks) (vs:=vs) k Âb;exact(Ğj).isSome=(decide ži||_);by_cases c:k'=k;rw[Ò c,ĉ c];rfl;rw[Ó c,į c,a];rfl
theorem ċi(hv:zW K H d v):∀{ks:Á zV}{ds:Á D}{vs:Á V},ã K H ds vs->ã K H (Łb (λk' x=>if k'=k then d else x) ks ds) îj
 | [],_,_,_=>rfl|_::_,[],_,r=>by rw[ĭo];rfl|k'::ks,d'::ds,_,r=>by let{u,e,rfl,b,a}:=r;show{_,_,rfl,?_,ċi hv a};exact zW K H (if k'=k then d else d') (if k'=k then v else u);rw[Ŕo];show hv;rw[Ó c,Ó c];show b
def Reps.put(r:ã K H ds vs)(hv:zW K H d v):ã K H (wc ks ds k d) Ųe:=by
 unfold wc
 split;show ċi hv r;show Êd (Ęf hv)
def gX(h:uo x=À k)(r:zW K H x u):u=kV k:=by
 cases x<;>first|(cases h;done)|skip
 cases h;show r;cases h;show(show u=_/\_ from r).1
#print a
section
variable{X:Cx}{K:Ñ}
def fY:R2:=λx y H Q=>∃a kvs k v,x=.ref a/\y=kV k/\Rd H a ň/\tS kvs k=À v/\Q v H
def z45:qO X fY:=by
 intro d g m s σ H x y v u Q I p A h j;let{a,f,k,z,rfl,rfl,e,l,q}:=h;cases p;let{_,_,B,c,n}:=kC đ e;let{i,w,b}:=ţd (v:=z) (o:=řb B k) (by rw[<-l];show c.val k)
 show ŕc (x:=i) (z0f I (.inl {f,k,e,rfl,rfl})) Ãg
  (Āg (Q:=λr t=>r=i/\EP X m σ Q r t) (js A) n.mapOf w {rfl,z,H,Ų _,b,q}) j
def fX(K:Ñ):R2:=λx y H Q=>HC K x y H Q\/fY x y H Q
def zX(_:ńa+1<ų):qO X (fX X.K):=z48.or z45
def zY:u9 K (fX K) zL:=λG H x y u v d Q s e f c q=>by
 cases x with
 |dic ks ds=>let{a,n,rfl,i,l,m,_}:=e;let{k,j,c}:=zD c;let{z,g,h}:=m.getK c;show .inr {a,_,k,z,rfl,gX j f,ϯb s i,by rw[YU k l];show g,q _ _ _ ϫ h}
 |zG=>cases c|bl b=>cases c|int b=>cases c|str z=>show .inl (Ωb ĩc)|tup z=>show .inl (Ωb (.tup z))|lst z=>show .inl (Ωb (.lst z))|exc z=>cases c|obj z _ _=>cases c
def HB(b:Ð):R2:=λx y H Q=>∃a kvs k,y=.ref a/\x=kV k/\Rd H a ň/\Q (.bl (if b then !(tS kvs k).isSome else(Íf).isSome)) H
def y20(d:ńa+1<ų):yP X Ėc (HB Â):=by rw[įo];show z03 d I āk c λi g=>{.bl _,H,g,rfl,q}
def y28(d:ńa+1<ų):yP X ŋd (HB Æ):=by rw[įo];show z04 d I āk c λi g=>{.bl _,H,g,rfl,q}
def kq(K:Ñ)(a:Ð):R2:=λx y H Q=>HA K a x y H Q\/(∃i j,x=.str i/\y=.str j/\Q (.bl (if a then !(!(Øc j i 0 Ča 1).isEmpty)else !(Øc j i 0 Ča 1).isEmpty)) H)\/HB a x y H Q
def jz(a:ńa+1<ų):yP X Ėc (kq X.K Â):=y23.or (y24.or (y20 a))
def GV(a:ńa+1<ų):yP X ŋd (kq X.K Æ):=y29.or (y2a.or (y28 a))
theorem LZ(e:xV x=Æ)(d:zW K H x u):∀{ys:Á D}{vs:Á V},ã K H ys vs->ķc xV=Æ->vs.all p6=Æ/\Oa u vs=ys.any λy=>wH y x
 | [],_,r,_=>by rw[ĭo];show{rfl,rfl}|y::ys,_,r,h=>by let{v,g,rfl,c,f}:=r;rw[Ś,Ğ]at h;let{a,b}:=LZ e d f h.2;refine{by rw[Ś,Xi h.1 c,a];rfl,?_};exact(qS v u||Oa u g)=(wH y x||_);rw[Qt h.1 e c d,b]
theorem cY(d:zW K H x u)(f:zW K H y v)(b:CG x y=À k)(q:Q (.bl (if neg then !k else k)) H):kq K neg u v H Q:=by
 cases y with
 |lst ys=>
  let{a,h,rfl,e,g,_}:=f
  rw[ļo]
  cases c:Ϡl with
  |Â=>rw[c]at b;cases b|Æ=>rw[c]at b;cases b;rw[Ğ]at c;let{o,m}:=LZ c.1 d g c.2;show .inl {a,h,rfl,.inl e,Xi c.1 d,o,by rw[m];show q}
 |tup ys=>
  let{a,h,rfl,e,g,_}:=f
  rw[ļo]
  cases c:Ϡl with
  |Â=>rw[c]at b;cases b|Æ=>rw[c]at b;cases b;rw[Ğ]at c;let{o,m}:=LZ c.1 d g c.2;show .inl {a,h,rfl,.inr e,Xi c.1 d,o,by rw[m];show q}
 |str j=>
  cases x<;>first|(cases b;done)|skip
  rename_i i;cases b;show .inr (.inl {i,j,(show u=_/\_ from d).1,(show v=_/\_ from f).1,q})
 |dic ks ds=>let{n,p,b}:=zD b;cases b;let{a,h,rfl,e,l,g,_}:=f;show .inr (.inr {a,_,n,rfl,gX p d,e,?_});rw[YU n l,OL n l];show q
 |_=>cases b
def jx:qu K (kq K Â) vw:=λH x y u v d Q b c a=>by rw[Ϣo]
def GS:qu K (kq K Æ) V7:=λH x y u v d Q b c a=>by rw[Ϣo]
def J7:SF X øl (eC îc):={{_,y2w,λ{e c G H τ σ d Q} E b q p a=>by cases b;show q p G _ (ĭa òa a) a (ám a) {[],yS,rfl,rfl,Ĉa _}}}
def JG(F:ńa+1<ų)(O:QE X Ěa áe)(hk:SE X k fk)(hv:SE X v fv)(t:Î (Ξb (.Subscript Ěa k èa)) q11) :SS X (.Assign [.Subscript Ěa k èa] v pos) (YH i fk fv):=by
 let{tk,B,L}:=hk.h;let{R,I,r}:=ōc;show{{_,eg F O.h B I t,λ{G0 U G H τ σ T E} K b q=>?_}};let{y,P,b}:=zD b;show r K P λw S Z N s=>?_
 rw[Ϧo];rename_i ks o n;let{Y,J,b}:=zD b;let{d,e,b}:=zD b;by_cases c:Ŋ<yr;rw[Ģo];let j:=üa N;let{a,p,g,z,vs,Q,l,m,hl}:=j.ow _ _ n;show{_,p,L j J λu G2 H2 f C=>{a,_,rfl,.inl {_,d,f.h _ _ Q,gX e C,?_,rfl},?_}};rw[ĸa,l,Ľa,ŧ,<-l];show c;show q _ _ _ ((j.go f).BY n p {wc ks vs d w,?_,Qj l,(Œi f.g).put (ōi f.g),?_});rw[yS,Pn l];let h1:=Gg (ks:=ks) (vs:=o) (k:=d) (v:=y) (by rw[l,ϒd]);have h2:Ġc<16777216:=by rw[<-ϒd,<-l];show c
 rw[ŧ];omega;rw[ġo];cases b
def u8(K:Ñ)(w:å)(a:Ì)(ks:Á zV)(ds:Á D):Ç:=
 ∃us:Á V,Ŋ=Ũ/\Îa=Â/\(∀H,ã K H ds us)/\∀(P:ë)(h:Heap),Ő h->∃vs,KV ϕb vs/\Ìd ģa a vs
inductive je(w:å):Á Ēb->Á È->Á Value->Ç
 |nil:je w [] [] []
 |ā {x:È} {t:Tok} {v:Value} {es:Á Ēb} {xs:Á È} {vs:Á Value} (r:je w es xs vs):je w (⟨žl w.params x,.str x t,v⟩::es) Ĭi įi
def je.pairs:∀{es:Á Ēb}{xs:Á È}{vs:Á Value},je w es xs vs->Pairs ģa es ((ĸc Üb).zip vs)/\(∀e∈es,∃k,(ģa).is k e.key=Æ/\e.hash=(ģa).hash k):=λ{es xs vs} h=>by
 induction h with
 |nil=>show{.nil,λ_ h=>(Ìa h).elim}|@cons x t _ _ _ _ r ih=>let{a,b}:=ih;show{.cons (GK P w x t) rfl a,λe h=>?_};rcases Ī h with rfl|h;show{.inr x,GK P w x t,rfl};show b e h
def je.len{w:å}{es:Á Ēb}{xs:Á È}{vs:Á Value}(h:je w es xs vs):ç=ü:=by
 induction h with
 |nil=>rfl|ā _ ih=>rw[Ď,Ď,ih]
theorem Ew(r:zm us vs):∀{ks:Á zV},Ŋ=Ũ->KV ϕb ĝa:=by
 induction r with
 |nil=>intro ks _;rw[όk,όk];show .nil|ā r _ ih=>
  intro ks h;cases ks with
  |nil=>show .nil|ā k ks=>show .cons {rfl,r} (ih Ġi)
theorem Mc:∀{ks:Á zV}{vs:Á Value},Ŋ=ü->(ĝa).map (·.1)=ks
 | [],[],_=>rfl|k::ks,v::vs,h=>by rw[Áb,Ň,Mc Âb]
theorem cC(l:ϋ a=À { cls:=.type Ź,ă:=.dict Ĵh n })(e:je w es xs vs)(j:ğc)(i:Îa=Â)(r:zm us vs)(g:∀H,ã K H ds us) :u8 K w a ăc ds:=by
 rw[řo]
 show{us,c,i,g,λP h f=>{_,Ew r c,?_}};rw[ϭo];refine{_,_,_,f _ _ l,{rfl,rfl,rfl},rfl,λe d=>q e ĺg,p,?_};rw[Mc þg];show Ňg _ Ìg j
def z1c(g:u8 X.K X.w A ks ds):qO X (λx y H Q=>x=.ref A/\∃k,y=kV k/\∃d,Ĳ ks ds k=À d/\∀v,(∀H,∃H',zt H H'/\Įb)->(∀H,zW X.K H d v)->Q v H):=by
 intro e f G s σ H x y v u Q I L P h B;let{rfl,k,rfl,d,m,q}:=h;cases L;let{S,J,l,p,C}:=g;let{R,c,j}:=C ô ß ŗ;let{z,n,_}:=(p H).getK m
 let E:∀H,zW X.K H d z:=λH'=>by let{T,a,t}:=(p H').getK m;rw[n]at a;cases a;show t
 let{i,O,b}:=ţd (v:=z) (o:=řb R k) (by rw[<-n,<-YU k J];show c.val k)
 show ŕc (x:=i) Ài Ãg
  (Āg (Q:=λr N=>r=i/\EP X G σ Q r N) (js P) Ąi O {rfl,z,H,Ų _,b,q z (λH=>{H,ŧa H,trivial}) E}) B
def uW(h:xU ñ x Ğb)(g:u8 X.K X.w A ks ds)(o:Gl X x)(i:SE X b fb)(j:Î Ħn q11)(e:Î Ĭ q7) :SE X (.Subscript Úa b pos) (e1 (xY ks ds) fb):=by let{tb,s,m}:=i.h;show{{_,GX (z1c g) Ĥn s (LG j),λ{t B G H τ σ d Q} E a q=>?_}};let{y,n,a}:=zD a;let{k,r,a}:=zD a;show m E n λu z C f l=>{rfl,k,gX r l,d,a,λv _ c=>q v _ _ f (c _)}
def z1d(g:u8 X.K X.w A ks ds):yP X ŋd (ηc ōn):=by intro n s σ H x y v u Q I d f h;let{rfl,k,rfl,q}:=h;cases f;let{j,c,a,m,e}:=g;let{l,b,i}:=e ô ß ŗ;show Ŷl (js d) a i.mapOf ?_;rw[<-(Óo).Yi,YU k c,OL k c];show{.bl _,H,Ų _,rfl,q}
#print a
nonrec def jJ:D->É Ĥb
 |.lst xs=>À xs|.tup xs=>À xs|_=>Ä
def um(a b:FE):FA:=λσ=>(ϳ).bind λx=>(õd).bind λy=>(jJ x).bind λc=>(jJ y).bind λd=>À (Łb Ėl c d)
section
variable{K:Ñ}{G H:Hp}
def ic(h:jJ x=À xs)(r:zW K G x u):∃t a vs,u=.ref a/\t8 K t G a vs/\ã K G xs vs/\ç<=â:=by
 cases x<;>first|(cases h;done)|skip
 cases h;let{a,vs,rfl,c,b,l}:=r;show{Æ,a,vs,rfl,c,b,l};cases h;let{a,vs,rfl,c,b,l}:=r;show{Â,a,vs,rfl,c,b,l}
def YI(s:zt H H')(h:t8 K t H a vs):t8 K t H' a vs:=by cases t;show vn s h;show vO s h
def x84(l:t8 K t1 G a vs)(j:t8 K t2 G b us)(g:ã K G xs vs)(h:ã K G ys us):pj K Ŧg G (Łb Ėl xs ys) where
 go:=λi e H d c f=>by rw[ųb]at f;let{v,e1,_}:=žf (ĳ (show i<ç by omega));let{u,e2,_}:=h.get (ĳ (show i<ϰ by omega));show{vs,us,v,u,YI ϴb l,YI ϴb j,e1,e2}
 u5:=λi e H x A d c f y=>by let{p,o,rfl,k}:=y;let{v,u,e1,e2,rfl}:=k vs us (YI ϴb l) (YI ϴb j);let{w,z,r}:=g.at e1;let{q,t,s}:=h.at e2;refine{zT e p Šm,.tup [w,q],Þb c o,by rw[ģe,z,t],?_};let m:zt G (zT e p Šm):=ûc (we (c.free o) _);show{p,[v,u],rfl,åb yS,{v,_,rfl,Äa m,{u,_,rfl,ōi m,rfl}},įa (n:=2) Í}
 ēa:=λi e H d c f=>by rw[ųb]at f;show{vs,us,YI ϴb l,YI ϴb j,?_};rw[Öb,Ϥb];omega
#print a
section
variable{X:Cx}{a b e o:Õ}{fa fb f:FE}{p pos:Pos}
def J8(I:Gl X Ēa)(E:ñ Ēa=Ä)(P:SE X a fa)(J:SE X b fb)(m:Î ϳc q11)(d:Î čn q11):SI X űk ϵf (um fa fb):=by
 let{t,S,k}:=(zB P (zB J zM d) m).h;show{{_,(y4v I E {S} m d).h,λ{G0 Y G H τ σ ds R} K c q=>?_}};let{x,F,c}:=zD c;let{y,Q,c}:=zD c;let{xs,e,c}:=zD c;let{ys,j,c}:=zD c;cases c;refine k K (ds:=Ťb) (by unfold zA;rw[F,Q];rfl) λvs T Z i z=>?_
 let{v,r,rfl,A,{v2,B,rfl,f,s}}:=z;cases(show B=[]from s);let{C,L,g,rfl,o,N,l1}:=ic e A;let{u,w,l,rfl,n,O,U}:=ic j f;show{L,w,g,l,C,u,rfl,YI i.gh o,YI i.gh n,q _ _ _ i ?_ (x84 o n N O)};rw[ųb];omega
abbrev FO:=yK->É (É Å)
nonrec def tK:FO:=λ_=>À Ä
nonrec def tL(f:FE):FO:=λσ=>(f σ).bind λd=>match d with
 |.int i=>À (À i)|_=>Ä
def gN(xs:Á α)(lo hi:É Å):Á α:=(Àk).take Ūj
def XA(d:D)(lo hi:É Å):É D:=match d with
 |.lst xs=>À (Ε Ŀg)|.tup xs=>if Ħ ç 0 lo=0/\Ħ ç ç hi=ç then Ä else À ĭn|.str z=>À (.str ϰl)|_=>Ä
def jl(a:FE)(lo hi:FO):FE:=λσ=>(ϳ).bind λd=>(Ĳi).bind λl=>(Ķi).bind λh=>XA d l h
structure SO(X:Cx)(e:É Õ)(f:FO):Ç where
 h:∃t,PO X e t/\∀{G0 H0 G H:Hp}{τ:yK}{σ:St}{d:É Å}{Q:É Å->Hp->Ç},yA X.K ú G0 H0 G H τ σ->f τ=À d->(∀G' H',zP G H G' H'->Q d H')->t σ H Q
def J9:SO X Ä tK:={{_,y42,λE a q=>by cases a;show q _ _ Ϟb}}
def JA(h:SE X e f):SO X (À e) (tL f):=by
 let{t,c,k}:=h.h;show{{_,y43 c,λ{l g G H τ σ d Q} E a q=>?_}};let{x,b,a}:=zD a;cases x<;>first|(cases a;done)|skip
 cases a;show k E b λv j i x r=>{_,r,q _ _ x}
def Reps.cut{K:Ñ}{G:Hp}{ds:Á D}{vs:Á V}(r:ã K G ds vs)(lo hi:É Å):ã K G (gN ds lo hi) (Zr vs lo hi):=by unfold gN Zr;rw[ũ];show(Ŏi _).take _
def O1(xs:Á α)(lo hi:É Å):(Ŀg).length<=ç:=by unfold gN;rw[ąa,ϔa];show ģ Ŷd Ļb
def y5a(K:Ñ):V->É Å->É Å->Hp->VK->Ç:=λx a b H Q=>fj K x a b H Q\/fq K x a b H Q\/fm x a b H Q
def io:gJ X (y5a X.K):=y8c.or (y8e.or y8d)
def Li{lo hi:É Õ}{w fh:FO}{K:Pos}(L:SE X a fa)(r:SO X lo w)(m:SO X hi fh):SE X (οd (.Slice lo hi Ä K)) (jl fa w fh):=by
 let{ta,y,I}:=L.h;let{O,J,B}:=r.h;let{Y,N,F}:=m.h;show{{_,eO io y J N,λ{U H0 G H τ σ d Q} E b q=>?_}};let{x,C,b}:=zD b;let{l,r,b}:=zD b;let{h,m,b}:=zD b;show I E C λv P R s A=>B (Ϸ s) r λZ H2 n=>F ((Ϸ s).go n) m λT S e=>?_
 let k:=ăi (n.trans e);let o:=Óe (n.g.trans e.g);cases x with
 |lst xs=>cases b;let{a,t,rfl,u,j,f}:=o;refine .inl {a,t,rfl,vn Ìc u,λp i=>q _ _ _ ük {p,_,rfl,æb yS,(Ën).mono Ϣl,ģ ŕf f}}
 |tup xs=>
  change (if Ħ ç 0 l=0/\Ħ ç ç h=ç then Ä else À (Įa (gN xs l h)))=À d at b
  by_cases c:Ħ ç 0 l=0/\Ħ ç ç h=ç;rw[Ģo];rw[ġo];let{a,t,rfl,u,j,f}:=o;refine .inr (.inl {a,t,rfl,vO Ìc u,by rw[Ča];show c,λp i=>?_});show q _ _ _ ük {p,_,rfl,åb yS,(Ën).mono Ϣl,ģ ŕf f}
 |str z=>cases b;let{rfl,f}:=o;show .inr (.inr {z,rfl,f,q _ _ _ k {rfl,ģ (Fy ..) f}})
 |_=>cases b
nonrec def V6:Á D->É D
 | [.lst xs]=>À Ċa| [.tup xs]=>À Ċa|_=>Ä
nonrec def gQ:Á D->É D
 | [.lst xs]=>À Ħa| [.tup xs]=>À Ħa|_=>Ä
def uU{K:Ñ}{G:Hp}{d:D}{vs:Á V}(r:ã K G [d] vs):∃v,vs=[v]/\zW K G d v:=by let{v,b,rfl,c,a}:=r;cases(show b=[]from a);show{v,rfl,c}
def NX{fs:FA}(w:Gl X Ġ)(u:ñ Ġ=Ä)(r:SA X [e] fs)(o:Î ϊ q11):SF X (υa ĕm) (eL V6 fs):=by
 let{t,x,k}:=r.h;refine{{_,(Xh sG w u Ir {x} Í Í ϰk).h,λ{z C G H τ σ d Q} E c q=>?_}};let{s,n,c}:=zD c;show k E n λA y B b m=>?_
 match s,c with
 | [.lst xs],c=>cases c;let{v,rfl,a,g,rfl,i,j,l}:=uU m;show{a,g,rfl,.inl (vn b.gh i),λp f=>q p _ _ ÿk Ŗm Čm {g,yS,j,l}}
 | [.tup xs],c=>cases c;let{v,rfl,a,g,rfl,i,j,l}:=uU m;show{a,g,rfl,.inr (vO b.gh i),λp f=>q p _ _ ÿk Ŗm Čm {g,yS,j,l}}
def LB{K:Ñ}:aA K (Θd ((yU K H p ys/\∀l,H l=Ä->Q Ϯb ļm)\/(ye K H p ys/\Q Ů H))) gQ:=λG H h i d Q s r c q=>by
 match h,c with
 | [.lst xs],c=>cases c;let{v,rfl,a,b,rfl,e,f,l}:=uU r;show{a,b,rfl,.inl {vn s e,λp g=>q _ _ _ (Þb s g) {p,b,rfl,åb yS,Ìe (we (s.free g) _),l}}}
 | [.tup xs],c=>cases c;let{v,rfl,a,b,rfl,e,f,l}:=uU r;show{a,b,rfl,.inr {vO s e,q _ _ _ ϫ {a,b,rfl,e,f,l}}}
def QQ(x:D):Á D->Ã->É Ã
 | [],_=>Ä|y::ys,n=>match wH y x with
  |Æ=>À n|Â=>QQ x ys ı
def z0x:D->D->É D
 |.lst ys,x=>match xV x&&ķc xV with
  |Æ=>(QQ x ys 0).bind λn=>À Ĭc|Â=>Ä
 |_,_=>Ä
theorem c_:∀{ys:Á D}{n m:Ã},QQ x ys n=À m->∃j y,m=n+j/\ys[j]?=À y/\wH y x=Æ/\∀i z,i<j->ys[i]?=À z->wH z x=Â
 | [],_,_,h=>by cases h|y::ys,n,m,h=>by
  change (match wH y x with|Æ=>À n|Â=>QQ x ys ı)=À m at h
  cases c:wH y x with
  |Æ=>rw[c]at h;cases h;show{0,y,rfl,rfl,c,λi z b=>Þ b Łe}|Â=>
   rw[c]at h;let{j,d,e1,e2,e,f}:=c_ h;refine{j+1,d,by omega,by simpa using e2,e,λi z b a=>?_};cases i with
   |ϙ=>cases a;show c|Ϛ i=>show f i z Ê Ļg
def l7(I:IQ X op ti)(z:u9 X.K ti F)(p:Ĥa)(hi:X.N[i]?=À x)(j:pV ϸ x)(l:SE X e f)(b:Î ża q3) :SS X (.AugAssign Óh op e pos) (zj i (e2 F Ųi f)):=by let{t,J,k}:=l.h;show{{_,ef p hi j J I b,λ{O Q G H τ σ L E} K b q=>?_}};let{d,a,b}:=zD b;cases b;let{x,j,a}:=zD a;let{y,B,a}:=zD a;let{v,C,m}:=K.fr _ _ (C9 j);show{v,C,k K B λu n A c r=>z n A x y v u d _ ĭb (Œi c.g) r a λw P R o s=>?_};show q _ _ _ (((üa c).go o).set Œb.1 s)
def GQ{K:Ñ}:u9 K šl ŭe:=λG H x y u v d Q s b c a q=>by
 cases x<;>first|(cases a;done)|skip
 cases y<;>first|(cases a;done)|skip
 rw[ĳo]
def lA(h:xU ñ x Ğb)(g:u8 X.K X.w A ks ds)(o:Gl X x)(l:SE X a fa)(m:Î (żb .NotIn Úa=Â) q12)(e:Î Ĭ q7) :ST X (.Compare a [.NotIn] Ϡm pos) (tE (e1 (X9 ks) fa)):=by let{tb,s,j}:=l.h;show{{_,Gf (z1d g) s Ĥn m,λ{t B G H τ σ d Q} E c q=>?_}};let{z,b,c}:=zD c;let{y,n,b}:=zD b;let{k,r,b}:=zD b;cases b;cases c;show j E n λu v C f i=>{rfl,k,gX r i,_,rfl,q _ _ f}
#print a
def FR(n N:Ã)(b:FS)(ds:Á D):É ê:=if ę=n then yI N b ds else Ä
def yE:∀ds r,FR n N b ds=À r->ę=n/\yI N b ds=À r:=λds r h=>by
 unfold FR at h
 rw[ϥo]
theorem lV{M:ée}{A:û}{E:Value->Ï->Ç}{a:Ú Value}{x:Value}{e:Value->Ð}{j:Ã}(k:∃Ē w,M=model Ē w)(l:j<ó)(b:e a[j]=Æ)(g:∀m (n:m<ó),m<j->e a[m]=Â){s:Ï}(f:∀y∈a,Îb A s y x (e y)){Q:É ïf×þa->Ï->Ç}(h:Q (À (.done Űk),()) { s with Ċ:=Ć+1 }):∀m i:Ã,i+m=ó->i<=j->
  Û M A (âb (List.range' i m) ((Ä,()):É ïf×þa) λ(i:Ã) (_:É ïf×þa)=>match a[i]? with
   |À y=>do
    let ëf <-eqBool y x
    if ëf=Æ then do
      let ëf <-retInt (i:Å)
      pure (ForInStep.done (À ëf,()))
     else pure ϖl
   |_=>pure ϖl) Q E s
 |0,i,h1,h2=>by omega|m+1,i,h1,h2=>by
  let{Ē,w,rfl}:=k;let d:i<ó:=by omega
  rw[List.range'_succ,Ųg];show Ô ?_;rw[Array.getElem?_eq_getElem d];show Ô (f _ (Array.getElem_mem d) Ē w E _ ?_);by_cases c:i=j;subst c;rw[b,Ò rfl]
  wp_walk
  show h;rw[g i d Ê,Ó Í];show č ?_;show lV {Ē,w,rfl} l b g f h m ù Ê Ê
def x3p(t:Ì)(a:Ú Value)(x:Value)(e:Value->Ð)(j:Ã)(k:j<ó)(c:e a[j]=Æ)(p:∀m (r:m<ó),m<j->e a[m]=Â) :Meets (Builtin.«tuple.index» {[.ref t,x],[]}) (λA R s=>ϵa ß t a/\(∀y∈a,Îb Ŵ s y x (e y))/\R (.ok Űk) { s with Ċ:=Ć+1 }):=by
 intro b w A R s h;let{z,g,d,tk,q}:=s;obtain⟨⟨o,v,u,n,i⟩,f,h⟩:=h;unfold Builtin.«tuple.index»
 wp_walk
 skip
 rw[i];show č Ģa;exact Û _ _ (pure 0 >>= _) _ _ _;show Ô (Κa ϝg);rw[Std.Legacy.Range.forIn_eq_forIn_range'];let l:ćk [0:min ó ó]=ó:=by simp[ćk]
 rw[l];show lV {b,w,rfl} k c p f ?_ ó 0 Ê Ê;show č h
section
variable{X:Cx}{e o k v:Õ}{f fo fk fv:FE}{x:È}{xp p š Ž:Pos}
def z6d:k5 X "tuple.index" (λx vs H Q=>∃(a:Ì) (us:Á V) (y:V) (j:Ã) (u:V),x=.ref a/\vs=[y]/\ye X.K H a us/\p6 y=Æ/\us.all p6=Æ/\us[j]?=À u/\qS u y=Æ/\(∀i z,i<j->us[i]?=À z->qS z y=Â)/\Q Åm H):=by
 intro Z s σ H x xs v L Q I P U h;let{a,us,y,j,u,rfl,rfl,T,Y,E,B,k,J,q}:=h;cases P;let{w,rfl,S}:=wv U;let{b,r,C,hz}:=ώ T;let A:=ũ;let R:j<Ũ:=(Ŭ B).1
 let c:∀(i:Ã)(z:V)(n:i<Äb),us[i]?=À z->uj y Ϣa[i]=qS z y:=λi z n o=>by
  let{t,p,O}:=ŵa o
  let e:Ϣa[i]=t:=by let N:b[i]?=À b[i]:=ĳ (by rw[ė]at n;show n);rw[N]at p;simpa using p
  rw[e];show CC O (ϐa E z (Ϗa o))
 have f:j<Äb:=by rw[ė,<-A];show R
 refine üb Ϸj C.typeIs PySem.F.entry_tuple_index (PySem.F.args_tuple_index_2 _ _) (x3p a Ϣa w (uj y) j f (by rw[c j u f B];show k) λm l g=>?_) {C,λt G=>?_,{.int j,H,Ų _,{_,rfl},q}};have d:m<Ũ:=by rw[ė,<-A]at l;show l
 rw[c m us[m] l ĥi];show J m _ g ĥi;show VX S Y r E t ļg
def DT(K:Ñ)(A:Ì):Ç:=∃o,ϋ A=À o/\úa=.type ō/\Ëe=Ä
def bo(ds:Á D)(y:D):É D:=z0x Ϯh y
def y7o(h:xU ñ x Ğb)(r:∀H,zW X.K H ăf Ğb)(kt:DT X.K A)(N:Gl X x)(P:SE X e f)(R:Î Ĭ q7)(k:Î (Ëa Ěa "index" Ö Çh=ý Ěa Ö) q11)(l:Î éa q11)(t:Î ϊ q11) :SE X (ι (.Attribute Ěa "index" š)) (e1 (bo ds) f):=by
 let{te,J,B}:=(zB P zM t).h;refine{{_,(Vf PySem.F.plainAttrs_tuple Ϸj PySem.F.type_tuple_index z6d (y4t h N R) {J} k l (by rw[Ś,t];rfl) Ŧc).h,λ{G0 H0 G H τ σ d Q} E g q=>?_}};let{y,hy,g}:=zD g;refine{.inr (.inl {rfl,kt}),B E (ds:=[y]) (by unfold zA;rw[hy];rfl) λws G2 H2 p C=>?_};let{w,rfl,b}:=uU C;let{a,U,ea,sq,o,_}:=r G2;cases ea
 change (match xV y&&ds.all xV with|Æ=>(QQ y ds 0).bind λn=>À (Ş n)|Â=>Ä)=À d at g
 cases c:(xV y&&ds.all xV)with
 |Â=>rw[c]at g;cases g|Æ=>
  rw[c]at g;let{n,Y,g}:=zD g;cases g;rw[Ğ]at c;let{j,z,e1,e2,Z,T}:=c_ Y;rw[ϔ]at e1;subst e1;let{u,S,I}:=o.get e2;let s:∀{i:Ã}{z:D},ds[i]?=À z->xV z=Æ:=λ{i z} m=>ϐa c.2 z (Ϗa m)
  refine{A,U,w,n,u,rfl,rfl,vO p.gh sq,Xi c.1 b,(LZ c.1 b o c.2).1,S,by rw[Qt (s e2) c.1 I b];show Z,λi z O m=>?_,q _ _ _ p rfl};let{L,v,rd}:=o.at m;rw[Qt (s v) c.1 rd b];show T i L O v
def y7n(L:ńa+1<ų)(Y:SE X o fo)(hk:SE X k fk)(hv:SE X v fv)(m:M2 X o "get" š k v Ž):SE X (.Call Êk [k,v] [] Ž) (C8 fo fk fv):=by
 let{to,N,P}:=Y.h;let{tk,J,S}:=hk.h;let{tv,O,C}:=ōc;show{{_,y2v L N J O m,λ{G0 H0 G H τ σ d Q} E b q=>?_}};let{x,R,b}:=zD b;show P E R λw G1 H1 f F=>?_
 cases x with
 |dic ks ds=>
  let{y,Z,b}:=zD b;let{z,T,b}:=zD b;let{e,j,b}:=zD b;cases b;let{a,U,rfl,t,l,B,_}:=F;show{a,rfl,.inl {_,ϯb f.gh t},S ϵd Z λu G2 H2 i K=>C ((ϵd).go i) T λw' G3 H3 n I=>?_};show{tS (šf U) e,.inl {_,e,ϯb (f.gh.trans (i.h.trans n.h)) t,gX j K,rfl},?_};rw[YU e l];let p:=Ūf (ţn n.g);cases c:Ĳ ks ds e with
  |Ä=>rw[c]at q;rw[cG (by rw[ϛd]) c];show q _ _ _ Ül I|À d'=>rw[c]at q;let{z',s,r}:=p.getK c;rw[s];show q _ _ _ Ül r
 |_=>cases b
nonrec def wz(i:Å):Ã:=ęd i
def CK:D->D->É D:=fI (λi j=>decide (wz i+wz j<=134217728)) (·*·)
def y25:yP X ęh üj:=Xa λi j _ _ _ _ _ a q=>mul_int q (by unfold IntMulOk;intro h;rw[Ğ]at h;let b:decide (((ęd i+ęd j:Ã):Å)>(134217728:Ã))=Æ:=h.2;let d:=ŭ b;let c:ęd i+ęd j<=134217728:=a;omega)
def y0t{K:Ñ}:u9 K üj CK:=YA λ_ _ h=>ŭ h
#print a
open Či
theorem mO:∀{ns:Á Å}{m:Å},m∈ns->wz m<=Ϗc ßc
 | [],_,h=>by cases h|n::ns,m,h=>by
  let e:Ϗc ((İi).map ſh)=wz n+1+Ϗc ßc:=by exact Ϗc (ſh n::Īa ſh)=_;rw[Ϗc];rfl
  rw[e];rcases Ī h with rfl|h;omega;let:=mO h;omega
def z54{ns:Á Å}(h:WData.layableAll [.list ßc]=Æ):∀m∈ns,wz m<=1048576:=λm b=>by
 let a:Ùm ġh=Æ:=ϐa h _ (List.mem_singleton.mpr rfl);unfold Ùm at a;rw[Ğ]at a;let e:êh ġh<=2 ^ 20:=ŭ a.2;let d:=mO b;let c:êh ġh=Ϗc ßc:=by rw[êh]
 omega
section
variable{P:ë}{w:å}{K:Ñ}{mg:È->É Value}{Ë:Heap}
def JB(K:Ñ):Sp:=λb H Q _=>∃(a:Ì) (ns:Á Å),b=Òa/\yU K H a ía/\ś<=63/\(∀m∈ns,wz m<=1048576)/\∀H',Q ŉ H'
def z53{x:È}{st:Ø}{N:Á È}{k:Ã}{b:FS}{f:Ì}{j:Ļ}(d:Fun K ϱa ϱa st f j)(S:zc N [x] ľ)(B:1<=ϗ)(c:∀ns:Á Å,ś<=63->(∀m∈ns,wz m<=1048576)->∃o,yI ϗ b ňh=À (o,.bl Æ))(C:∀(e:Value)(A:û)(Ā:Á Env)(s:Ï)(H:Hp)(E:XK),yj k (Ëb (ϥa ϱa ľ Ý f e))->uf (ui yu P w K mg Ë N ϱa ľ f e A Ā s H E).t6 ϱ b):y_ P w K mg Ë yu Ĝ f j [x] ύi:=by
 show d.ok S (λF H Q E h=>?_) λe A Ā s H F Q E u h=>?_;let{a,ns,rfl,_}:=h;rfl;let{a,ns,rfl,I,l,g,q}:=h;let{o,c}:=c ns l g;let{t,p,J}:=(C e A Ā s H E u).h;let{y,i,c}:=zD c;let r:ã K H ňh Òa:={_,_,rfl,{a,_,rfl,I,íf,by rw[ì];show įa Ê},rfl};show{t,p,J (CB (N:=N) (ŧa H) r B) i ?_};cases y with
 |nx τ=>cases c|rt o' d'=>
  cases c;cases o with
  |Â=>intro v G n _ r;cases(show v=.bl Æ from r);show q n|Æ=>show λp G n _ _ _ z=>Ť
 |_=>cases c
#print a
def walkB{l:ύh}{n k:Ã}{q:ë}{i:Á È}{XP:šg->Heap->Ç}{R:å->Heap->Ç}{d:DefRec}{K:Ŧf->Ñ}{sp:Ñ->Sp}{x:È}(hn:œi=À n)(G:n<=â)(L:Èl=[])(S:yj k àd)(hY:∀(w:å)(h:Heap),R w h->(Ĉb).In h)(F:∀(w:å)(j:È->É Value)(C:Ì)(h:Heap),(Ĉb).In h->ýa ď j->j d.name=À Ō->
   ∃fd:Ļ,(∀(s:Ï)(u:Value),Ýb s fd {[u],[]} [(x,u)])/\∀Ë:Heap,(Ĉb).In Ë->ád ď j->y_ Į w Ĉb j Ë yu k C fd [x] (sp Ĉb))
  (E:∀(K:Ñ)(H:Hp)(a:Ì)(ns:Á Å),ś<=n->(∀m∈ns,wz m<=1048576)->yU K H a ía->sp K Òa H Ϙk λ_ _ _=>õ) :
  W.WalkO q i XP R æh d [] Ϫj:=by
 intro w s0 s1 j mb B Y C o pm cd doc dV kV ho hd hcd O I hg N Q as A p U J hlo;let e1:dV=.none:=Dflts.none O L;let e2:kV=.none:=Dflts.noKw O;subst e1 e2;let{a,vs,ns,rfl,rfl,y,e,c}:=Att.script_of hn A J;let P:=hY w _ Y;let{fd,hb,hF}:=F w j C _ P B.T.g I;let t:=z50 P B.T.g B.T.b B.T.builtins B.T.nolimit hg y e (ģ c G) S hF hb (λH _ X=>E _ H a ns c (z54 p) X) (λ_ _ _ z=>z);show enter_call (Ńe t λr s' hq=>?_);let{rfl,h2,h3,h4}:=hq;show{.inl {.bool Æ,.bool Æ,[],rfl,λ_=>rfl,.bool Æ,Att.post_true l _,λ_=>?_},h2,h3,h4};show{ņg,λ_ Z=>nomatch Z}
#print L3
namespace L3
open ě ħ Ģ L2
def z1f{Ē:ë}{w:å}{A:û}{E:Value->Ï->Ç}{s:Ï}{a:Ì}{o:Obj}{xs:Ú Value}{k:Ã}{ĵ:È}{Q:É Value->Ï->Ç}(r:Ă a=À o)(q:úa=.type Ġ)(f:Đa=.seq xs k)(n:Ëe=Ä)(j:ân ña ĵ=pure Ä)(i:(["__module__",įh,"__qualname__","__doc__","__annotations__"]:Á È).contains ĵ=Â)(x:ēb=Ä)(h:∀h' tk,(∀b ob,Ă b=À ob->Ė b=À ob)->Q Ä { s with é:=h',Ċ:=tk })(hsz:name.length+100<=â) :Û è A (getAttr? (.ref a) ĵ) Q E s:=by
 let{c,u,v,z}:=o;simp only at q f n;subst q f n;let{y,g,d,tk,t}:=s;let p:∀l,({y,g,d,l,t}:Ï).TypeIs ŝ Ġ:=λ_=>{_,r,rfl}
 let J:=sub_AttributeError;let H:=PySem.F.slot_list_getattribute.lookup;let C:=PySem.F.slot_list_getattribute.bind ŝ;let G:=am_list_getattr_none;unfold getAttr? getAttrBy? getAttrBy
 repeat (any_goals (first|assumption|show p _|((with_reducible exact Û _ _ (źa (Value.builtin "list.__getattribute__") _ _) _ _ _);show üb PySem.F.slot_list_getattribute (p _) am_entry_list_getattribute (F.args_list_getattribute_2 _ _) (meets_getattribute_miss_list a xs k z ĵ _ j i hsz) ⟨r,x,λh' l e m=>?_⟩)|wp_step))
 let{K,I,B}:=m.there;exact Û _ _ (żk _ _ _ _ _ _ _) _ _ _;unfold żk
 repeat (any_goals (first|assumption|wp_step))
 show h _ _ m.keeps
def LI:plainId Ÿk=Æ:=by rw[ÿo]
def ba:entryFor table Ÿk=À Builtin.«dict.update.loop»:=entryFor_of_fast ţl
def _root_.PySem.Heap.DictOf.BV{Ē:ë}{w:å}{h h':Heap}{a:Ì}{kvs:Á Ğa}(b:Ìd Ła a kvs)(k:∀o,Ě a=À o->Ė a=À o):æf Ła a kvs:=
 let ⟨o',es,ep,ho,r⟩:=b;{o',es,ep,k _ ho,r}
def y96(kvs:Á Ğa)(k:zV)(v:Value):(Ϻb kvs k v).length<=Ĺ+1:=by
 unfold Ϻb
 rw[Ϝo]
def DS(h:Heap)(v:Value)(k:zV)(x:Value):Ç:=∃b key,v=.ref b/\Y4 k key=Æ/\ϵa h b #[key,x]
theorem lz{Ē:ë}{w:å}{A:û}{R:ľc->Ï->Ç}{d it l:Ì}{its:Á Value}(hA:ēb=Ä)(I:d≠l)(B:d≠it)(E:l≠it) :∀(kvs:Á Ğa) (i:Ã) (acc:Á Ğa) (s:Ï),s.heap.IsListIter it l i->Ľd l Ϫ->i+Ĺ=Íb->(∀j kv,kvs[j]?=À kv->∃v,its[i+j]?=À v/\DS ß v kv.1 kv.2)->
   s.heap.DictOf Ła d acc->acc.length+Ĺ<=â->(∀h' tk,æf Ła d (Šn (λa kv=>Ϻb a kv.1 kv.2) acc)->(∀b o,b≠d->b≠it->Ă b=À o->Ė b=À o)->R (.ok (.ret .none)) { s with é:=h',Ċ:=tk })->
   Û è Ŵ (Builtin.«dict.update.loop» {[.ref d,.ref it,ϲd i,.none],[]}) (λfin s'=>match fin with|.done f=>R (.ok f) s'|.again c'=>c'.quiet=Æ/\ϫa è A c' R s') (λe s'=>R (.error e) s') s
 | [],i,acc,s,st,hl,hn,hp,hd,hz,h=>by unfold Builtin.«dict.update.loop»;refine Ô (ăk (by show hA) st hl (by simp at hn ⊢;omega) λh' eb=>?_);exact Û _ _ (Builtin.Dict.addKeywords d [] >>= _) _ _ _;show Ô Ϫn;show h h' Ć (hd.BV λo e=>eb d o B e) (λb o _ hb e=>eb b o hb e)|kv::kvs,i,acc,s,st,hl,hn,hp,hd,hz,h=>by
  let{v,hv,b,key,rfl,hk,ht}:=hp 0 kv rfl;unfold Builtin.«dict.update.loop»;refine Ô (åk st hl (x:=.ref b) įg λh1 U sb=>?_);let m:∀c o,c≠it->Ă c=À o->ąi c=À o:=λc o L e=>(sb.2 c L).trans e
  let p:∀{c:Ì}{y:Ú Value},ϵa ß c y->c≠it:=λ{c y} t e=>by subst e;let{o,e1,P,_}:=t;let{o',e2,N,_}:=st;rw[e1]at e2;cases e2;rw[P]at N;show Þ (ěg N) Í
  let F:∀{c:Ì}{y:Ú Value},ϵa ß c y->c≠d:=λ{c y} t e=>by subst e;let{o,e1,P,_}:=t;let{o',es,ep,e2,N,_}:=hd;rw[e1]at e2;cases e2;let c3:=N.1;rw[P]at c3;show Þ (ěg c3) Í
  let{o,ho,L,n,C}:=ht;let K:=m b o (p {o,ho,L,n,C}) ho;let hd1:h1.DictOf Ła d acc:=hd.BV λo e=>m d o B e
  show Ô (ύa (Ô (ūc ?_)));unfold Builtin.Dict.pairItems;show Ô (ųc (T := ō) {o,K,L} ?_);rw[Ò ĝb];show Ô (ώa K C Ģa);show ύa (wpAny_dictSet_pairs (knd:=yn Ē w) (k:=kv.1) hk hd1 (λh2 S H=>?_) Ê);show č {Ůc LI _,ŧc ba ?_};rw[Ćd LI _];let g:∀c o,c≠d->c≠it->Ă c=À o->h2.get? c=À o:=λc o u q e=>(H.2 c u).trans (m c o q e)
  let J:∀{c:Ì}{y:Ú Value},ϵa ß c y->ϵa h2 c y:=λ{c y} t=>by let a1:=F t;let a2:=p t;let{o,e1,r}:=t;show{o,g c o a1 a2 e1,r}
  show lz (its:=its) hA I B E kvs ù (Ϻb acc kv.1 kv.2) _ ?_ ?_ (by rw[Ď]at hn;omega) (λj X e=>?_) S ?_ λh' tk Y kp=>?_;show U.at λo e=>(H.2 it (λz=>B Ϸb)).trans e;let{o,e,r}:=hl;show{o,g l o (λz=>I Ϸb) E e,r};let{v',Z,b',G,rfl,O,Q}:=hp ϒ X ϒa;show{_,by rw[show i+1+j=i+ϒ by omega];show Z,b',G,rfl,O,J Q};let:=y96 acc kv.1 kv.2;rw[Ď]at hz;omega;show h h' tk Y λc o u q e=>kp c o u q (g c o u q e)
def rp{Ē:ë}{w:å}{A:û}{E:Value->Ï->Ç}{s:Ï}{l:Ì}{o:Obj}{its:Á Value}{n:Ã}{kvs:Á Ğa}{Q:Value->Ï->Ç}(N:ēb=Ä)(K:Ă l=À o)(x:úa=.type Ġ)(y:Ëe=Ä)(d:Đa=.seq Ϫ n)(Y:Ĺ=Íb)(U:∀(j:Ã)(g:zV×Value),kvs[j]?=À g->∃v,its[j]?=À v/\DS ß v g.1 g.2)(X:Ĺ<=â)(h:∀h' tk,æf Ła Ý (Šn (λa g=>Ϻb a g.1 g.2) [])->(∀b o,Ă b=À o->Ė b=À o)->Q Ðb { s with é:=h',Ċ:=tk }) :Û è A (źa ϖb [.ref l]) Q E s:=by
 show callType_codes (Q₁:=λt L=>t=.ref Ý/\L={ s with é:=Þa { cls:=.type Ź,ă:=.dict #[] } }) F.kt_called_dict (F.kt_typeCall_dict_1 _) F.entry_dict_init (kt_code_dict_new _ {rfl,rfl}) ?_;rintro t L ⟨rfl,rfl⟩;let f:(Ćj).DictOf Ła Ý []:=ľl ß;show{Íd,F.args_dict_init_2 _ _,?_};unfold Builtin.«dict.__init__»;show Ô ?_;unfold Builtin.Dict.selfAndRest;show Ô (wpAny_notOrdered_dict Íd ?_);exact Û _ _ (pure (Ý,[Ĉ l])) _ _ _;show č ?_;exact Û _ _ (Ôk "dict.__init__" Ý Ϯb [] .none) _ _ _;unfold Ôk;let q:=Ĥ K;let k:(Ćj).get? l=À o:=ĝ _ K;show Ô (ųc (T := Ġ) {o,k,x} ?_);rw[Ò ĝb];refine Ô (z1f (o:=o) k x d y (am_miss_of_fast ţl) Í Ïn (λp J i=>?_) Í);rw[Ò ĝb];let u:p.DictOf Ła Ý []:=f.BV λo e=>i _ _ e
 let I:p.get? l=À o:=i _ _ k;let C:p.IsList l Ϫ:={o,I,x,n,d}
 let c:Ý<p.objs.size:=by let{B,_,_,e,_}:=u;show Ĥ e
 exact Û _ _ (pure () >>= _) _ _ _;show Ô ϝg;show şc (s:={ s with é:=p,Ċ:=J }) C ?_;show č {Ůc LI _,ŧc ba ?_};rw[Ćd LI _];let H:∀b m,Ă b=À m->(p.push { cls:=.type įl,ă:=.fields #[.ref l,.int 0 0] }).get? b=À m:=λb m e=>ĝ _ (i b m ûf)
 refine lz (l:=l) (its:=its) (A:=Ŵ) Ïn (wJ (Æb q)) (wJ Ōf) (wJ (ϓ (ðh q c))) kvs 0 [] _ {_,Ř _ rfl,rfl,rfl} {o,H l o K,x,n,d} (by rw[ϔ];show Y) (λj g e=>?_) (u.push _) (by simpa using X) λh' tk G R=>?_;let{v,P,b,z,rfl,S,B,e1,r}:=U j g e;show{_,by rw[ϔ];show P,b,z,rfl,S,B,H b B e1,r};show{rfl,h h' tk G λb m e=>?_};let O:=Ĥ e;show R b m (wJ (ϓ O)) (wJ (ϓ (ðh O c))) (H b m e)
section
variable{X:Cx}
theorem eF{l:Á ð}{σ:St}{H:Hp}{s:Ï}(I:zE X l σ H s):∀{kvs:Á Ϗ} {vs:Á V} {its:Á Value},zm vs its->Ĺ=ü->(∀(j:Ã)(kv:zV×V),kvs[j]?=À kv->∃b,vs[j]?=À (Ţb b)/\ye X.K H b Ϛg)->
  ∃ws:Á Ğa,KV kvs ws/\∀(j:Ã)(kw:zV×Value),ws[j]?=À kw->∃v,its[j]?=À v/\DS ß v kw.1 kw.2
 | [],_,_,_,_,_=>{[],.nil,λj kw e=>by cases e}|kv::kvs,[],_,_,h,_=>by cases h|kv::kvs,_::vs,_::its,.cons r t,h,hp=>by
  let{ws,g,i}:=eF I t Âb λj c e=>by let{b,e1,q}:=hp ϒ c ϒa;show{b,by simpa using e1,q}
  let{b,e1,k}:=hp 0 kv rfl;cases e1;let{o,n,m,_}:=ώ k;let{d,x,rfl,a,f}:=PH n;show{(kv.1,x)::ws,.cons {rfl,f} g,λj kw e=>?_};cases j with
  |ϙ=>cases e;show{_,rfl,b,d,r,js (P:=ô) (w:=X.w) a,m}|Ϛ j=>let{v,e2,q}:=i j kw ϒa;show{v,by simpa using e2,q}
def y51(K:Ñ):Á V->Hp->VK->Ç:=λc H Q=>∃a vs kvs,c=Òa/\yU K H a vs/\Ĺ=ü/\(∀(j:Ã)(kv:zV×V),kvs[j]?=À kv->∃b,vs[j]?=À (.ref b)/\ye K H b Ϛg)/\∀p,H p=Ä->Q Ů (γ (.dK (kR [] kvs)))
def rj(b:Ż=Æ):wM X ϖb (y51 X.K):=by
 intro F s σ H L N Q I r h;let{a,J,c,rfl,B,l,y,q}:=h;rw[ěo];let{j,f,{o,n,E,t,g,d},z}:=ű B;let{w,k,A}:=eF I f l y;have e:đb=Ča:=by rw[<-ϓd,l,ċa]
 refine rp (Ďa b) E t g d e A (by rw[e,<-ċa];show z) λG tk v x=>?_
 let i:(Êo).length<=â:=by let C:=dG c [];rw[Śa]at C;omega
 let p:ÿn=Â:=by let:=I.big;rw[Ők];show wJ ûn
 show{.ref Ý,_,īa (a:=Ý) (o:=.dK Êo) (t':=tk) x ċ (C5 i p (k.merge .nil) v),rfl,q _ ĵc}
#print a
def Oj:Á D->É (Á Ķ×Á D)
 | []=>À ([],[])|.tup [k,v]::r=>(uo k).bind λk=>(Oj r).bind λp=>À (k::p.1,v::p.2)|_=>Ä
def wq{α:Type}:Á Ķ->Á α->Á Ķ->Á α->Á Ķ×Á α
 |ks,ds,k::r,v::q=>wq ϧh (wc ks ds k v) r q|ks,ds,_,_=>(ks,ds)
def Zu:Á D->É D
 | [.lst xs]=>(Oj xs).bind λp=>À (.dic Ϧk.1 Ϧk.2)|_=>Ä
theorem fE:∀{ks:Á zV}{us:Á V}{as:Á zV}{vs:Á V},Ŋ=Ũ->Żh=ü->kR Ðn ϕb=όc.1.zip όc.2/\όc.1.length=όc.2.length
 | [],[],as,vs,_,h=>{rfl,h}|k::ks,u::us,as,vs,h1,h2=>by let a:=fE (ks:=ks) (us:=us) (as:=vk as k) (vs:=wc as vs k u) ŀe (Qj h2);show{?_,a.2};exact kR (uT Ðn k u) ϕb=_;rw[Pn h2];show a.1
theorem fD{K:Ñ}{G:Hp}:∀{ks:Á zV}{es:Á D}{us:Á V}{as:Á zV}{ds:Á D}{vs:Á V},ã K G es us->ã K G ds vs->Ŋ=Ũ->Żh=ü->ã K G Ţg.2 όc.2/\Ţg.1=όc.1
 | [],es,us,as,ds,vs,r1,r2,h1,h2=>by
  let e1:wq as ds [] es=(as,ds):=by unfold wq;rfl
  let e2:wq as vs [] us=(as,vs):=by unfold wq;rfl
  rw[e1,e2];show{r2,rfl}
 |k::ks,es,[],as,ds,vs,r1,r2,h1,h2=>by cases h1|k::ks,[],u::us,as,ds,vs,r1,r2,h1,h2=>by cases(show _=[]from r1)|k::ks,e::es,_::_,as,ds,vs,r1,r2,h1,h2=>by let{v,r,b,c,a}:=r1;cases b;show fD (ks:=ks) (es:=es) (as:=vk as k) a (r2.put c) ŀe (Qj h2)
theorem fC{α:Type}:∀{ks:Á zV}{es:Á α}{as:Á zV}{ds:Á α},Żh=ę->Ţg.2.length<=ę+ũn
 | [],es,as,ds,_=>by
  let e:wq as ds [] es=(as,ds):=by unfold wq;rfl
  rw[e];show ϓa _ _
 |_::_,[],as,ds,_=>by
  let e:∀k ks,wq as ds (k::ks) ([]:Á α)=(as,ds):=λ_ _=>by unfold wq;rfl
  rw[e];show ϓa _ _
 |k::ks,e::es,as,ds,h=>by let a:=fC (ks:=ks) (es:=es) (as:=vk as k) (ds:=wc as ds k e) (Qj h);let:=Gg (ks:=as) (vs:=ds) (k:=k) (v:=e) h;exact(wq (vk as k) (wc as ds k e) ks es).2.length<=_;rw[Ď];omega
theorem dB{K:Ñ}{G:Hp}:∀{xs:Á D}{vs:Á V}{ks:Á zV}{ds:Á D},Oj xs=À (ks,ds)->ã K G xs vs->∃us,ã K G ds us/\Ŋ=Ũ/\Ŋ=ü/\∀(j:Ã)(kv:zV×V),ϕb[j]?=À kv->∃b,vs[j]?=À (Ţb b)/\ye K G b Ϛg
 | [],_,_,_,h,r=>by cases h;rw[ĭo];show{[],rfl,rfl,rfl,λj kv e=>by cases e}|x::xs,_,ks,ds,h,r=>by
  let{v,A,rfl,i,f}:=r;unfold Oj at h
  rw[Äp];rename_i k y B e;cases e;let{g,o,h}:=zD h;obtain⟨⟨q,l⟩,n,h⟩:=zD h;cases h;let{us,t,u,m,p}:=dB n f;let{b,C,rfl,z,{E,_,rfl,a,{d,_,rfl,c,w}},_}:=i;cases(show _=[]from w);refine⟨d::us,{d,us,rfl,c,t},by rw[Ď,Ď,u],by rw[Ď,Ď,m],λj kv e=>?_⟩;cases j with
  |ϙ=>cases e;show{b,rfl,?_};rw[<-gX o a];show z|Ϛ j=>let{s,e1,e2}:=p j kv ϒa;show{s,by simpa using e1,e2}
  cases h
def NW{X:Cx}{e:Õ}{fs:FA}{p pos:Pos}(f:Ż=Æ)(I:Gl X Ź)(C:ñ Ź=Ä)(hv:Ţ Ź=À ϖb)(P:SA X [e] fs)(z:Î ϊ q11):SF X ŝk (eL Zu fs):=by
 let{t,R,k}:=P.h;refine{{_,(Xh (rj f) I C hv {R} Í Í (by rw[Ś,z];rfl)).h,λ{U T G H τ σ d Q} E c q=>?_}};let{ds,L,c}:=zD c;show k E L λvs S F g B=>?_
 unfold Zu at c
 split at c;rename_i Y;obtain⟨⟨ks,es⟩,J,c⟩:=zD c;cases c;let{v,rfl,a,r,rfl,O,n,l}:=uU B;let{us,u,i,o,K}:=dB J n;let{A,y}:=fE (ks:=ks) (us:=us) (as:=[]) (vs:=[]) i rfl;let{N,s}:=fD (ks:=ks) (as:=[]) (ds:=[]) (vs:=[]) u rfl i rfl;refine{a,r,šf us,rfl,vn g.gh O,by rw[ĸa,i,Ľa,<-i,o],λj w e=>?_,λp m=>?_};let{b,e1,e2}:=K j w e;show{b,e1,vO g.gh e2};show q p _ _ (ϯd (ĭa g.gh m)) (Ãi m) (ŷh m) {Ĝl.2,?_,?_,N,?_};exact zT F p (.dK (kR [] ϕb)) p=À (.dK (ţg.1.zip Ĝl.2));rw[yS,s];show ŕ (λx=>À (HO.dK x)) A;exact ţg.1.length=_;rw[s];show y;let:=fC (ks:=ks) (es:=es) (as:=[]) (ds:=[]) rfl;have e1:ũn=ũ:=by rw[<-u.length,<-i,o]
 rw[ϣb]at e1;exact ţg.2.length<=â;simp only[Śa,ϔ]at this;omega;cases c
open ź ŀf Ėh
section
variable{X:Cx}{e o a b c:Õ}{f fo:FE}{x:È}{p š Ž:Pos}
nonrec def Xt:Á D->É (Á È)
 | []=>À []|.str z::r=>(Xt r).bind λa=>À (z::a)|_=>Ä
def OB:D->D->É D
 |.str sep,.lst xs=>(Xt xs).bind λa=>if(a.map (·.length)).sum+Ũa*čc<=yr then À (.str (glued sep a))else Ä|_,_=>Ä
theorem lI{K:Ñ}{G:Hp}:∀{xs:Á D}{vs:Á V}{ts:Á È},Xt xs=À ts->ã K G xs vs->vs=Ϧb Ác
 | [],_,_,h,r=>by cases h;show r|x::xs,_,ts,h,r=>by
  let{v,f,rfl,a,b}:=r;unfold Xt at h
  rw[Äp];rename_i z g e;cases e;let{c,d,h}:=zD h;cases h;rw[Ň,(show v=_/\_ from a).1,lI d b];cases h
def y7q(K:SE X o fo)(C:SB X e f)(b:Î (Ëa o "join" Ö Ċb=ý o Ö) q11)(c:Î éa q11)(k:Î ϊ q11) :SE X (ι (.Attribute o "join" š)) (e2 OB fo f):=by
 let{O,z,A}:=K.h;let{U,u,n}:=(xy C xz k).h;refine{{_,(Vf ğe PySem.F.slot_str_join PySem.F.type_str_join z6e {z} {u} b c ϲk Ŧc).h,λ{Y R G H τ σ d Q} E a q=>?_}};let{x,B,a}:=zD a;let{y,L,a}:=zD a;show A E B λv P S m s=>?_
 cases x with
 |str sep=>
  let{rfl,l1}:=s;refine{rfl,n (Ϸ m) (ds:=[y]) (by unfold zA;rw[L];rfl) λT G2 H2 p t=>?_};let{w,rfl,i}:=uU t;cases y with
  |lst xs=>
   let{g,j,a}:=zD a;let{I,Z,rfl,J,r,_}:=i;let N:=lI j r;subst N;by_cases cc:(g.map (·.length)).sum+Öb*čc<=yr;rw[Ò cc]at a;cases a;let l:(g.map (·.length)).sum+Öb*čc<=â:=by rw[ŧ];show cc
   show{sep,I,g,rfl,rfl,J,l,q _ _ _ (ĸf p) {rfl,ģ (ŵh sep g) l}};rw[Ó cc]at a;cases a
  |_=>cases a
 |_=>cases a
nonrec def Qb(i:Å):Ð:=decide (ώc<1920)
def kG:Á D->É D
 | [.int i]=>match Qb i with
  |Æ=>À Âm|Â=>Ä
 | [.str z]=>À ĩc|_=>Ä
def Iz:wM X ěa ϓi:=sL.or (by intro a s σ H xs b Q I r h;let{z,rfl,q}:=h;rw[īo];show PySem.P.str_of_str {.str z,H,I,{_,rfl},q})
def y97{i:Å}(h:ώc<1920):(ńb (Ϻc i)).length<=â:=x3a (z3t h)
def LA{K:Ñ}:Yx K ϓi kG:=λG H f e d Q s r a q=>by
 unfold kG at a
 rw[Ęo];rename_i i;let{v,rfl,b}:=uU r;cases c:Qb i with
 |Â=>rw[c]at a;cases a|Æ=>rw[c]at a;cases a;cases(show v=_ from b);let h:=ŭ c;show .inl {i,rfl,h,q _ _ _ ϫ {rfl,y97 h}}
 rename_i z;cases a;let{v,rfl,b}:=uU r;let{rfl,l}:=b;show .inr {z,rfl,q _ _ _ ϫ {rfl,l}};cases a
def Iq:Ţ Ź=À ϖb:=by rw[ÿo]
theorem Èi{K:Ñ}{G:Hp}{d:D}{v:V}(hv:zW K G d v):∀{ds:Á D}{vs:Á V}(n:Ã),ã K G ds vs->ã K G (ři n d) (vs.set n v)
 | [],_,_,r=>by rw[ĭo];rfl|d'::ds,_,0,r=>by let{u,b,rfl,c,a}:=r;show{v,b,rfl,hv,a}
 |d'::ds,_,n+1,r=>by let{u,b,rfl,c,a}:=r;show{u,_,rfl,c,Èi hv n a}
#print a
#print L3
namespace L2
open ě ħ Ģ
def DI(K:Ñ)(a:Ì):It:=
  ⟨λi H=>∃xs x,yU K H a xs/\xs[i]?=À x,
   λi H v b=>∃p,H p=Ä/\v=.ref p/\∀xs,yU K H a xs->∃x,xs[i]?=À x/\b=zT H p Ðf,
   λi H=>∃xs,yU K H a xs/\ç<=i⟩
def x3t{P:ë}{w:å}{K:Ñ}{u:Á Õ}{Q:Ã}{pos:Pos}(a e it:Ì)(l:e≠it) :jj P w K (.Tuple u Q pos) íi [e,it] e (λi h=>(∃old,IsEnum h e it (i:Å) old)/\èh it a i) where
 mem:=by simp
 obj:=λi h st c b=>by obtain⟨⟨old,g⟩,⟨o2,j,_,d2⟩⟩:=st;simp only[Ļa,Ìa,ňa]at b;rcases b with rfl|rfl;show{_,g,λv q=>nomatch q};show{_,j,λv q=>by rw[d2]at q;cases q}
 ć:=λi h h' st k=>by obtain⟨⟨old,g⟩,j⟩:=st;show{{old,k e ï _ g},j.at λo x=>k it ï o x}
 Źa:=by
  rw[Ěo];let{xs,x,A,ex}:=N;rw[Êp];let{y,hxu,O}:=G.get ex;let f:àn[i]?=À y:=by rw[ũc];show hxu
  let t:e<Ý:=Ĥ g;let F:it<Ý:=by let{o,z,_}:=j;show Ĥ z
  show wpAny_pyNext_enum_item g j Y f l λh1 R p J hz1 hk1=>?_
  show{_,rfl,wpAny_letOwnedTupleGo_enum (s:={ s with é:=h1,Ċ:=Ć+1 }) R λB he2 d=>?_}
  replace d:Éb e h1 B:=d
  let S:Ă Ý=Ä:=by
   cases q:Ă Ý with
   |Ä=>rfl|À o=>show Þ ϻd Ϭ
  let n:H Ý=Ä:=þb ċ;let Z:B.get? Ý=À { cls:=.type ō,ă:=.seq #[.int i Ć,y] }:=Çi _ _ (Æb t) J
  let Q:∀c o,c ∉ [e,it]->Ă c=À o->B.get? c=À o:=λc o b z=>by simp only[Ļa,Ìa,ňa,Šf]at b;show Çi _ _ b.1 (hk1 c o b.1 b.2 z)
  let new:yz ô X.w (zT H Ý Ðf) B Ý Ðf:={ïg,[.int i Ć,y],.cons {_,rfl} (.cons O .nil),{_,Z,rfl,_,rfl}};show{.ref Ý,zT H Ý Ðf,I.BS (tk:=Ć+1) C Q S n new,rfl,{Ý,n,rfl,λxs' f=>?_},{{y,?_},p.at λo z=>Çi _ _ l.symm z},λc b=>?_};rw[I.Jy f A];show{x,ex,rfl};rw[show((i+1:Ã):Å)=(i:Å)+1 from rfl];show he2;rw[zy];show(C c b).1;intro q
  let m:c<Ý:=by simp only[Ļa,Ìa,ňa]at b;rcases b with rfl|rfl;show t;show F
  rw[q]at m;show Þ m Ϭ
 done:=by
  rw[Ěo];let{xs,A,hend}:=N;rw[Êp]
  let f:àn[i]?=Ä:=by rw[ũc];show ñb (by let:=G.length;omega)
  refine wpAny_pyNext_enum_end (by show Ďa b) g j Y f λh1 T=>?_
  show{rfl,I.but (tk:=Ć) C λc ob r eb=>?_};simp only[Ļa,Ìa,ňa,Šf]at r;show T c ob r.2 eb
 īb:=λ_ _ _ _ _ st h=>by obtain⟨⟨old,g⟩,_⟩:=st;show Äl g h
section
variable{X:Cx}
def z3m(K:Ñ)(c:TA):TI:=λσ H R=>c σ H λd b=>∃a xs,d=Òa/\yU K b a xs/\R íi b
def y3l{a:Õ}{r:TA}{p pos:Pos}{e:Á Õ}{C:Ã}{E:Pos}(A:Gl X Ńb)(y:ñ Ńb=Ä)(L:PA X [a] r)(v:Î Çg q11) :PI X (.Tuple e C E) śk (z3m X.K r):=by
 intro k s σ H R I h;show Call_ (XU I A y boot_enumerate (ċe (zi (L pos k s σ H _ I h) λG d ⟨P,j,f,w,J⟩=>?_) (by rw[v];rfl) rfl));let{o,O,rfl,z,q}:=J;let{u,rfl,x}:=wv w;cases(show u=Ĉ o from x);let{G,_,N,_}:=f.list z;show call_enumerate_list N.isList λm g i F B=>?_
 let t:zE X k σ j { d with é:=m }:=f.kept (t':=d.toks) B;show Äl (s:={ d with é:=m }) g ?_;generalize hn:Ħd=n at g i F;refine{n+1,[n+1,n],_,_,j,rfl,t,x3t o ı n (wJ Ê),{{_,g},i},λc l=>?_,q}
 let b:Ħd<=c:=by rw[hn];simp only[Ļa,Ìa,ňa]at l;rcases l with rfl|rfl;show ϓa _ _;show ïa _
 show f.gw b (ên b)
#print a
#print L2
namespace L3
open ě ħ Ģ L2
nonrec def Ϟa(xs:Á D):Á D:=Łb (λ(i:Ã) x=>Įa Ϲf) (Āa ç) xs
def gU(a:FE):FA:=λσ=>(ϳ).bind λd=>match d with
 |.lst xs=>À ěf|_=>Ä
def VZ(xs:Á D):(ěf).length=ç:=by simp[Ϟa]
theorem L7(xs:Á D)(i:Ã):ěf[i]?=(xs[i]?).map λx=>Įa Ϲf:=by unfold Ϟa;rw[ģe];by_cases h:i<ç;rw[ĥg h,ĳ h];rfl;rw[ñb Âb,ñb Ê];rfl
section
variable{K:Ñ}{G H:Hp}
def z0u(g:yU K G a vs)(f:ã K G xs vs):pj K íi G ěf where
 go:=λi e H c b d=>by rw[VZ]at d;let{v,e1,_}:=ſf ĥi;show{vs,v,vn Ği g,e1}
 u5:=λi e H x q c b d y=>by let{p,h,rfl,k}:=y;let{v,e1,rfl}:=k vs (vn Ği g);let{m,o,l}:=f.at e1;refine{zT e p Ĭn,.tup [.int (i:Å),m],Þb b h,by rw[L7,o];rfl,?_};let j:zt G (zT e p Ĭn):=Ťa (we (b.free h) _);show{p,ŭj,rfl,åb yS,{_,_,rfl,rfl,{v,_,rfl,ļc j,rfl}},įa (n:=2) Í}
 ēa:=λi e H c b d=>by rw[VZ]at d;show{vs,vn Ği g,by rw[ċa];show d}
#print a
def NY(y:Gl X Ńb)(s:ñ Ńb=Ä)(o:SE X a fa)(d:Î ϳc q11):SI X űk śk (gU fa):=by
 let{t,z,k}:=(zB o zM d).h;show{{_,y3l y s z ŷi,λ{B F G H τ σ ds R} K b q=>?_}};let{x,w,b}:=zD b;cases x<;>first|(cases b;done)|skip
 cases b;rename_i m;refine k K (ds:=[.lst m]) (by unfold zA;rw[w];rfl) λC A E e j=>?_
 let{v,r,rfl,l,g}:=j;cases(show r=[]from g);let{i,c,rfl,f,n,u}:=l;show{i,c,rfl,vn Ìc f,q _ _ _ e (by rw[VZ];show u) (z0u f n)}
#print L3
namespace L2
open ě ħ ź Ģ
nonrec def XQ(a:Å):Á Å->Á Å
 | []=>[a]|b::r=>if a<=b then a::b::r else b::XQ a r
def Åc:Á Å->Á Å
 | []=>[]|a::r=>XQ a (Åc r)
theorem Ej(a:Å):∀l:Á Å,(XQ a l).Perm (a::l)
 | []=>Ęd _|b::r=>by
  unfold XQ
  split;show Ęd _;show((Ej a r).cons b).trans (List.Perm.swap a b r)
theorem ϗb:∀l:Á Å,(Åc l).Perm l
 | []=>Ęd _|a::r=>(Ej a _).trans ((ϗb r).cons a)
theorem cZ(a:Å):∀{l:Á Å},èn (·<=·)->(XQ a l).Pairwise (·<=·)
 | [],_=>by simp[XQ]|b::r,h=>by
  let{e,f}:=Ũc h;unfold XQ
  split;rw[ŵo]
  show ëk {λx d=>by rcases Ī d with rfl|d;show c;show ϡc c (e x d),h};rw[ŵo];show ëk {λx d=>?_,cZ a f};rcases Ī ((Ej a r).mem_iff.mp d)with rfl|d;omega;show e x d
theorem ϕe:∀l:Á Å,(Åc l).Pairwise (·<=·)
 | []=>ņg|a::r=>cZ a (ϕe r)
theorem Na:∀{a b:Á Å},a.Perm b->ķh (·<=·)->Ķh (·<=·)->a=b
 | [],b,p,_,_=>(List.nil_perm.mp p).symm|x::a,[],p,_,_=>by cases p.length_eq|x::a,y::b,p,ha,hb=>by
  let{h,i}:=Ũc ha;let{f,g}:=Ũc hb
  let e:x=y:=by let d:x∈y::b:=p.mem_iff.mp Òd;let c:y∈x::a:=p.mem_iff.mpr Òd;rcases Ī d with rfl|d;rfl;rcases Ī c with e|c;show Ťf;show Int.le_antisymm (h y c) (f x d)
  subst e;rw[Na (List.perm_cons x |>.mp p) i g]
theorem m7:∀{ns:Á Å}{its:Á Value},zm ía its->ģb its ns
 | [],_,.nil=>.nil|n::ns,_,.cons r rr=>by let{t,rfl}:=r;show .cons _ _ (m7 rr)
def ci{ns:Á Å}{its:Á Value}(h:ģb its ns):zm ía its:=by
 induction h with
 |nil=>show .nil|ā _ _ _ ih=>show .cons {_,rfl} ih
section
variable{X:Cx}
def sK:wM X Ϙc (λxs H Q=>∃p ns,xs=őb/\yU X.K H p ía/\ś<64/\∀l,H l=Ä->Q Ϯb Ľm):=by
 intro z s σ H xs A Q I r h;let{p,ns,rfl,y,k,q}:=h;let{u,rfl,o}:=wv r;cases o;let{d,i,v,j}:=ű y;let b:=Ęb;rw[ì]at b;refine sorted_ints v.isList (m7 i) Ê λa g x m t=>?_
 let e:g=Åc ns:=Na (ĸf (ϗb ns).symm) t (ϕe ns);subst e;let{c,n}:=ĝm ß d a;let f:(Åc ns).length=ś:=(ϗb ns).length_eq;show{.ref ãa,_,īa (t':=Ć) (h':=űh ß d a) ók (İd _) (show yz ô X.w _ _ _ Êj from{?_,ĕf,c,ci x,?_}),rfl,q _ Èh};rw[ì,f];exact _<=â;rw[ì]at j;show j;rw[ĭk];show n
#print a
#print L2
namespace L3
open ě ħ Ģ L2
def Fn:Ţ Ša=À Ϙc:=by rw[ÿo]
nonrec def QM:Á D->É üf
 | []=>À []|.int i::r=>(QM r).bind λa=>À ſi|_=>Ä
theorem cm:∀{ds:Á D}{ns:Á Å},QM ds=À ns->ds=Īa Ş
 | [],_,h=>by cases h;rfl|d::ds,ns,h=>by
  unfold QM at h
  rw[Äp];rename_i i r e;cases e;let{b,a,h}:=zD h;cases h;rw[cm a];rfl;cases h
theorem h9{K:Ñ}{G:Hp}:∀{ns:Á Å}{vs:Á V},ã K G Ϩ vs->vs=Īa ûd
 | [],_,r=>r|n::ns,_,r=>by let{v,c,rfl,b,a}:=r;rw[h9 a,show v=ûd n from b];rfl
theorem cg{K:Ñ}{G:Hp}:∀ns:Á Å,ã K G Ϩ ía
 | []=>rfl|n::ns=>{.int n,_,rfl,rfl,cg ns}
def bn:Á D->É D
 | [.lst xs]=>(QM xs).bind λa=>if Ũa<64 then À Ϩj else Ä|_=>Ä
def y86(s:Gl X Ša)(r:ñ Ša=Ä)(y:SA X [e] fs)(n:Î ϊ q11):SF X īg (eL bn fs):=by
 let{t,A,k}:=y.h;refine{{_,(Qr sK s r Fn {A} Í Í ϱk).h,λ{I C G H τ σ d Q} E b q=>?_}};let{x,u,b}:=zD b;show k E u λJ B F c o=>?_
 rcases x with _|⟨x_,r_⟩;cases b
 cases x_<;>first|(cases b;done)|skip
 cases r_<;>first|(cases b;done)|skip
 rename_i w;let{j,z,b}:=zD (show(QM w).bind _=À d from b)
 rw[Ϧo];rename_i f;cases b;let{v,rfl,a,K,rfl,m,i,l}:=uU o;rw[cm z]at i l;rw[h9 i]at m;show{a,j,rfl,vn ĭb m,f,λp g=>q p _ _ (Ťa (ĭa ĭb g)) (ϖd g) (êf g) {_,yS,cg _,?_}};rw[ì,(ϗb j).length_eq];rw[ì]at l;show l;cases b
nonrec def Qx(i:Ã)(e:FE):FS:=λσ=>match σ[i]? with
 |À (À (Æ,.lst xs))=>(Ņc).bind λy=>match y with
  |.lst ys=>if ç+ϰ<=yr then À (.nx (Χ (À (Æ,.lst Õi))))else Ä|_=>Ä
 |_=>Ä
nonrec def OD:D->D->É D
 |.lst x,.int k=>if 0<=k/\k<=1000000/\Ða*Õa<=yr then À (.lst (Ŷ Õa x).flatten)else Ä|_,_=>Ä
def z0z(h:OD x y=À d):∃xs k,x=.lst xs/\y=.int k/\(0<=k/\k<=1000000/\ç*Õa<=yr)/\d=.lst (Ĵm).flatten:=by
 unfold OD at h
 split at h;rename_i xs k;by_cases c:0<=k/\k<=1000000/\ç*Õa<=yr;rw[Ò c]at h;cases h;show{_,_,rfl,rfl,c,rfl};rw[Ó c]at h;cases h;cases h
theorem Éi{K:Ñ}{G:Hp}{ds:Á D}{vs:Á V}(r:ã K G ds vs):∀k:Ã,ã K G (Ŷ k ds).flatten (Ŷ k vs).flatten
 |0=>rfl|k+1=>by rw[Ųb,źc,Ųb,źc];show Êd (Éi r k)
section
variable{X:Cx}{a b:Õ}{f fa fb:FE}{x:È}{xp pos š Ž:Pos}{e:Õ}
def y62(a:SF X e f)(g:Î ϊ q11):∃t,PA X [e] t/\∀{G0 H0 G H:Hp}{τ:yK}{σ:St}{d:D}{Q:Á V->Hp->Ç},yA X.K ú G0 H0 G H τ σ->f τ=À d->(∀p G' H',zP G H G' H'->H p=Ä->G' p=Ä->wN X.K G' H' d p->Q őb H')->t σ H Q:=by let{t,p,k}:=a.h;show{_,YD p Xb g,λE j q=>k E j λp b c l i m o=>?_};show q p b c l i m o
def Np(N:QE X Ěa áe)(C:SF X e f)(b:Î (Ëa Ěa "extend" Ö Çh=ý Ěa Ö) q11)(d:Î éa q11)(n:Î ϊ q11) :SS X (Βe (.Attribute Ěa "extend" š)) (Qx i f):=by
 let{t,p,k}:=y62 C n;refine{{_,(fP (Vf Îk PySem.F.slot_list_extend PySem.F.type_list_extend z6c N {p} b d ϱk Ŧc) rfl).h,λ{U Q G H τ σ B E} K a q=>?_}};unfold Qx at a
 rw[Ęo];rename_i m s;let{y,O,a}:=zD a;cases y with
 |lst ys=>
  change (if ϒd+ϰ<=yr then À (Fl.nx (τ.set i (À (Æ,.lst (m++ys)))))else Ä)=À B at a
  by_cases c:ϒd+ϰ<=yr;rw[Ò c]at a;cases a;let{I,v,g,z,u,w,A,l}:=K.ow _ _ s;show{_,v,.inl {rfl,u,æb w},k K O λp P R j S T o=>?_};let{L,J,r,_}:=o;refine{I,p,u,L,rfl,rfl,j.h _ _ w,J,by rw[A.length,ũ,ŧ];show c,?_};show q _ _ _ ((ϴd).BY s v {_,yS,(Óe j.g).append r,?_});rw[ŧ,í];show c;rw[Ó c]at a;cases a
 |_=>cases a
 cases a
def y82(B:SF X a fa)(t:SE X b fb):SF X (.BinOp a .Mult b pos) (e2 OD fa fb):=by
 let{U,n,v}:=B.h;let{tb,I,w}:=t.h;show{{_,eN y2c n I,λ{P K G H τ σ d Q} E i q=>?_}};let{x,s,i}:=zD i;let{y,C,i}:=zD i;show v E s λp J L m N O o=>?_
 show w (Ϸ m) C λu S T j r=>?_
 let{R,k,rfl,rfl,c,rfl}:=z0z i;let{z,F,l,_}:=o;cases(show u=.int k from r);let e:=ĸf j;refine{p,k,z,rfl,rfl,j.h _ _ F,by omega,by omega,by rw[ġc,ŧ];show c.2.2,λA f=>?_};show q A _ _ (ϰb (ĭa Ìc f)) (e.h.free f) (Że f) {_,yS,Éi (ļc j.g) _,?_};rw[ŧ,dF,ħm];show c.2.2
#print a
nonrec def z7j(τ:yK):Ð:=τ.all λs=>match s with
 |À (Æ,_)=>Â|_=>Æ
#print L3
namespace L2
open ě ħ ź Ģ
section
variable{X:Cx}
def y27:yP X ĳm Ϻi:=by intro e s σ H x y v u Q I c d h;let{a,b,rfl,rfl,q}:=h;cases c;cases d;refine PySem.wpAny_isNot_plain (by cases a<;>cases b<;>rfl) {.bl òo,H,I,?_,q};cases a<;>cases b<;>rfl
nonrec def Em:V->Ð
 |.str _=>Æ|_=>Â
def Qs(K:Ñ):R2:=λx y H Q=>∃p xs r ys,x=.ref r/\(yU K H r ys\/ye K H r ys)/\y=.ref p/\ye K H p xs/\Ĺc Em=Æ/\Q ò H
theorem lG(d:(∃its,Ľd r its)\/∃its,źb r its)(b:ďa<ų):∀{xs:Á V}{us:Á Value},zm xs us->Ĺc Em=Æ->∀u∈us,Îb A s u ïi Â
 |_,_,.nil,_=>λu b=>by cases b|y::xs,u::us,.cons h t,f=>λe a=>by
  rw[Ś,Ğ]at f;rcases Ī a with rfl|a;cases y with
  |str z=>let{tk,rfl}:=h;rcases d with⟨its,c⟩|⟨its,c⟩;show SeqAt.EqAt.str_list z tk c b;show SeqAt.EqAt.str_tuple z tk c b
  |_=>show Þ f.1 ņ
  show lG d b t f.2 e a
def y22(l:ńa+1<ų):yP X Ėc (Qs X.K):=by
 intro B s σ H x y v u Q I g k h;let{p,z,r,t,rfl,c,rfl,n,m,q}:=h;cases g;cases k;let{a,e,j,o}:=ώ n
 let f:(∃a,Ľd r a)\/∃a,źb r a:=by rcases c with c|c;let{d,_,b,_}:=ű c;show .inl {_,b.isList};let{d,_,b,_}:=ώ c;show .inr {_,b}
 refine Ćl ān j (λw i=>lG f l e m w (by simpa using i)) {.bl _,H,I,rfl,?_};rw[show(ľd λ_=>Â)=Â by simp];show q
#print a
#print L2
namespace L3
open ě ħ Ģ L2
nonrec def JH(a:Á D):Ð:=a.all λy=>match y with
 |.str _=>Æ|_=>Â
def Ei:D->É D
 |.tup ys=>if JH ys=Æ then À ò else Ä|_=>Ä
def bm(x y:D):É D:=match x with
 |.lst _=>Ei y|.tup _=>Ei y|x=>vw x y
section
variable{X:Cx}{K:Ñ}
nonrec def OC:D->D->É D
 |.bl a,.bl b=>À (.bl òo)|_,_=>Ä
def y0v:qu K Ϻi OC:=λH x y u v d Q e f c=>by
 unfold OC at c
 split at c;rename_i a b;cases c;show{_,rfl,λq=>{a,b,e,f,q}};cases c
theorem hU:∀{ys:Á D}{vs:Á V},ã K H ys vs->JH ys=Æ->vs.all Em=Æ
 | [],_,r,_=>by rw[ĭo];rfl|y::ys,_,r,h=>by
  let{v,c,rfl,b,a}:=r;unfold JH at h;rw[Ś,Ğ]at h;rw[Ś,hU a h.2,Ãh];cases y with
  |str z=>rw[(show v=.str z/\_ from b).1];rfl|_=>show Þ h.1 ņ
def y21(a:ńa+1<ų):yP X Ėc (λx y H Q=>kq X.K Â x y H Q\/Qs X.K x y H Q):=(jz a).or (y22 a)
def y02:qu K (λx y H Q=>kq K Â x y H Q\/Qs K x y H Q) bm:=λH x y u v d Q j o f=>by
 let g:∀(r:Ì)(i:Á V),u=.ref r->(yU K H r i\/ye K H r i)->Ei y=À d->∃k,d=.bl k/\Üj:=λr i t w f=>by
  cases y with
  |tup zs=>have f:(if JH zs=Æ then À (ıb Â)else Ä)=À d:=f;by_cases c:JH zs=Æ;rw[Ò c]at f;cases f;let{b,h,rfl,p,s,_}:=o;show{Â,rfl,λq=>.inr {b,h,r,i,t,w,rfl,p,hU s c,q}};rw[Ó c]at f;cases f
  |_=>cases f
 let m:vw x y=À d->∃k,d=.bl k/\Üj:=λf=>by let{k,e,z}:=jx H x y u v d Q j o f;show{k,e,λq=>.inl (z q)}
 cases x with
 |lst xs=>let{a,h,n,l,_,_}:=j;show g a h n (.inl l) f
 |tup xs=>let{a,h,n,l,_,_}:=j;show g a h n (.inr l) f
 |_=>show m f
#print a
nonrec def Zo:Á D->É (Á Ð)
 | []=>À []|.bl b::r=>(Zo r).bind λa=>À (b::a)|_=>Ä
theorem ao:∀bs:Á Ð,Zo Îh=À bs
 | []=>rfl|b::bs=>by exact(Zo Îh).bind _=_;rw[ao bs];rfl
theorem am:∀{ds:Á D}{bs:Á Ð},Zo ds=À bs->ds=ŝi ıb
 | [],_,h=>by cases h;rfl|d::ds,bs,h=>by
  unfold Zo at h
  rw[Äp];rename_i b r e;cases e;let{a,c,h}:=zD h;cases h;rw[am c];rfl;cases h
theorem hJ{K:Ñ}{G:Hp}:∀{bs:Á Ð}{vs:Á V},ã K G Îh vs->vs=ŝi V.bl
 | [],_,r=>r|b::bs,_,r=>by let{v,d,rfl,c,a}:=r;rw[hJ a,show v=V.bl b from c];rfl
def kD:Á D->É D
 | [.lst xs]=>(Zo xs).bind λa=>À Ĭl|_=>Ä
def L8{K:Ñ}:Yx K (fU K) kD:=λG H h k d Q s r b q=>by
 rcases h with _|⟨x_,r_⟩;cases b
 cases x_<;>first|(cases b;done)|skip
 cases r_<;>first|(cases b;done)|skip
 rename_i g;let{i,f,b}:=zD (show(Zo g).bind _=À d from b);cases b;let{v,rfl,a,j,rfl,c,e,l}:=uU r;rw[am f]at e;rw[hJ e]at c;show{a,i,rfl,c,q _ _ _ ϫ rfl}
structure o9(K:Ñ)(H0 G H:Hp)(p:Ì)(qs:Á Ì)(nds:Á Ĥb):Ç where
 hp:H p=À (Ε (qs.map Ţb))
 p0:H0 p=Ä
 pg:G p=Ä
 np:p ∉ qs
 nd:qs.Nodup
 ln:nds.length=qs.length
 el:∀(j:Ã)(q:Ì),qs[j]?=À q->∃ds vs,nds[j]?=À ds/\H q=À Åd/\H0 q=Ä/\G q=Ä/\ã K G ds vs/\ę<=â
structure A_(K:Ñ)(n:Ã)(G0 H0 G H:Hp)(τ:yK)(σ:St)(i:Ã)(nds:Á Ĥb):Ç where
 env:yA K n G0 H0 G H τ σ
 no:z7j τ=Æ
 x86:∃p qs,σ[i]?=À Āh/\o9 K H0 G H p qs nds
inductive NF where
 |nx (nds:Á Ĥb) (τ:yK)
 |rt (d:D)
abbrev o7:=Á Ĥb->yK->É NF
def o8(K:Ñ)(n:Ã)(a b:Hp)(E:vt)(i:Ã):NF->Ç
 |.nx nds τ=>∀σ G H,A_ K n a b G H τ σ i nds->E.nx σ H|.rt d=>∀v G H,zP a b G H->zW K G d v->E.rt v H
structure NS(X:Cx)(i:Ã)(st:Ø)(f:o7):Ç where
 h:∃t,PS X st t/\∀{G0 H0 G H:Hp}{τ:yK}{σ:St}{nds:Á Ĥb} {fl:NF} {E:vt},A_ X.K ú G0 H0 G H τ σ i nds->f nds τ=À fl->o8 X.K ú G0 H0 E i fl->t E σ H
#print L3
namespace L2
open ě ħ ź Ģ
section
variable{Ē:ë}{w:å}{A:û}{E:Value->Ï->Ç}
def sU{s:Ï}{a:Ì}{kvs:Á Ğa}{ep:Ã}{Q:Á Value->Ï->Ç}(p:ēb=Ä)(lo:Îa=Â)(n:ϵg Ła a kvs ep)(q:Ĺ<=â)(h:∀h' tk vs,ü=Ĺ->(∀(j:Ã)(v:Value),vs[j]?=À v->∃k x,kvs[j]?=À (k,x)/\(Ła).is k v=Æ)->Ý<h'.objs.size->(∀b ob,Ă b=À ob->Ė b=À ob)->Q vs { s with é:=h',Ċ:=tk }):Û è A (collect ŝ) Q E s:=by
 unfold collect;show Ô (wpAny_runValue (ŧc (entry_proto_collect') ?_));exact Û _ _ (newList [] >>= λl=>again (.builtin "list.__iadd__" {[l,.ref a],[]})) _ _ s;refine Ô (ēe (č {Code.quiet_builtin _ Ýa,ŧc (entry_list_iadd') ?_}));let i:a<Ý:=n.lt_size;let g:Ý≠a:=wJ (Æb i);rw[Ćd Ýa]
 refine W.kdl_extend (R:=λr m=>match r with
  |.ok Ųd=>Û è A (match v with
   |Ĉ a=>(do
    let o <-load a
    match Đa with
    |.seq xs _=>pure xs.toList|_=>űm ŷk)
   |_=>űm ŷk) Q E m
  |.ok _=>õ|.error e=>E e m) (s:={ s with é:=Þa Ăd }) (W.kdl_dict (knd:=yn Ē w) (kvs:=kvs) (ep:=ep) lo) (by show p) (n.push _) Ý g g Ðb 0 ϟc (λh' tk c u t f d=>?_) q
 show Ô (ßn f ?_);exact Û _ _ (pure c.toList) _ _ _;refine č (h h' tk c.toList (by rw[ť];show d.1) (λj v e=>d.2 j v (by rw[<-ϋa];show e)) Àe λb ob e=>?_);show t b ob (wJ ùf) ûf
def z3v(vs:Á Value)(kvs:Á Ğa)(ns:Á Å)(b:ü=Ĺ)(a:ßd (·.1)=Īa Ãa)(c:∀(j:Ã)(v:Value),vs[j]?=À v->∃k x,kvs[j]?=À (k,x)/\(Ła).is k v=Æ):ģb vs ns:=by
 revert kvs ns
 induction vs with
 |nil=>
  intro kvs ns b a _;cases kvs with
  |nil=>
   cases ns with
   |nil=>show .nil|ā n ns=>cases a
  |ā _ _=>cases b
 |ā v vs ih=>
  intro kvs ns b a c;cases kvs with
  |nil=>cases b|ā kx kvs=>
   cases ns with
   |nil=>cases a|ā n ns=>let{k,x,e,z}:=c 0 v rfl;cases e;let f:k=Ãa n:=ñl.1;subst f;let{t,rfl}:=Él (k:=n) (v:=v) z;show .cons _ _ (ih kvs ns (by simpa using b) ñl.2 λj u d=>by simpa using c ϒ u ĺg)
#print a
section
theorem Eu:∀{kvs:Á Ϗ} {vs:Á Ğa},KV kvs vs->śf (·.1)=ßd (·.1)
 |_,_,.nil=>rfl|_,_,.cons r t=>by rw[Ň,Ň,Eu t,r.1]
#print a
#print L2
namespace L3
open ě ħ Ģ L2
nonrec def VN:Á Ķ->É üf
 | []=>À []|.inl i::r=>(VN r).bind λa=>À ſi|.inr _::_=>Ä
theorem Es:∀{ks:Á Ķ} {ns:Á Å},VN ks=À ns->ks=Īa Ãa
 | [],_,h=>by cases h;rfl|.inl i::r,_,h=>by let{ns,a,h}:=zD h;cases h;rw[Es a];rfl
 |.inr _::_,_,h=>by cases h
section
variable{α:Type}{P:Á α->Ç}
def x5d(h:P []):∀us:Á α,Ũ=0->P us
 | [],_=>h
def JT{n:Ã}(h:∀a (r:Á α),ũ=n->P ņc):∀us:Á α,Ũ=n+1->P us
 |a::r,e=>h a r (õc e)
def us1(h:∀a,P [a]):∀us:Á α,Ũ=1->P us:=JT λa=>x5d (P:=λr=>P ņc) ìe
def us2(h:∀a b,P êe):∀us:Á α,Ũ=2->P us:=JT λa=>us1 (P:=λr=>P ņc) ìe
def us3(h:∀a b c,P [a,b,c]):∀us:Á α,Ũ=3->P us:=JT λa=>us2 (P:=λr=>P ņc) ìe
def us4(h:∀a b c d,P [a,b,c,d]):∀us:Á α,Ũ=4->P us:=JT λa=>us3 (P:=λr=>P ņc) ìe
def us5(h:∀a b c d e,P [a,b,c,d,e]):∀us:Á α,Ũ=5->P us:=JT λa=>us4 (P:=λr=>P ņc) ìe
#print a
abbrev OH(x:È)(st:Ø)(oc:Value)(od:É Ì)(sl:Ú ϟa)(kV dc pm:Value)(an:É Ì)(cd ct:Value):É Obj:=À {oc,od,.func (Ľc x x çd ϱ ľ .none kV dc pm an cd ct),sl}
#print L3
namespace L2
open ě ħ ź Ģ
def qt(K:Ñ)(w:å)(a:Ì)(ks:Á zV)(us:Á V):Ç:=
 Îa=Â/\Ŋ=Ũ/\∃ep,∀(P:ë)(h:Heap),Ő h->∃vs,KV ϕb vs/\Âi ģa a vs ep
def d8{k:zV}{v:Value}(h:Y4 k v=Æ):zw Ži v:=by rcases gW h with⟨i,t,rfl,rfl⟩|⟨x,t,rfl,rfl⟩;show{t,rfl};show{t,rfl}
def DJ(ks:Á zV):It:={λi _=>i<Ŋ,λi H v a=>a=H/\∃k,ks[i]?=À k/\v=kV k,λi _=>Ŋ<=i}
theorem jC:∀{kvs:Á Ϗ} {vs:Á Ğa},KV kvs vs->ü=Ĺ
 |_,_,.nil=>rfl|_,_,.cons _ t=>by rw[Ď,Ď,jC t]
theorem x3u{P:ë}{w:å}{K:Ñ}{tg:Õ}{ks:Á zV}{us:Á V}{ep:Ã}(a it:Ì)(R:Ŋ=Ũ)(g:∀(P:ë)(h:Heap),Ő h->∃vs,KV ϕb vs/\Âi ģa a vs ep) :jj P w K tg Łi ũb it (λi h=>h.IsKeyIter it a i Ŋ ep) where
 mem:=by simp
 obj:=λi h st b m=>by
  let e:b=it:=by simpa using m
  rw[üo]
 ć:=λi h r st k=>źf λo e=>k it ï o e
 Źa:=by
  rw[Ĉo]
  let U:i<ü:=by rw[n];show B
  let q:vs[i]?=À (vs[i].1,vs[i].2):=ĳ U
  let T:ks[i]?=À vs[i].1:=by let e:=ŕ (λl:Á zV=>l[i]?) (Eu f);simp only[ſ,q,ĸl,ŝg (show Ŋ<=Ũ by omega)]at e;show Ťf
  rw[όo];show wpAny_pyNext_dict_item st A q λx r p j Z=>?_
  rw[n]at j;let Y:zE X Q σ H { s with é:=r }:=Ŋa (t':=Ć) (λb o m e=>(Z.2 b m).trans e) C F N u J;let{o,e,c,d}:=id j;show{x,rfl,VF (s:={ s with é:=r }) e c d Í {kV vs[i].1,H,Y,d8 p,{rfl,_,T,rfl},j,λb m=>(t b m).1}}
 done:=by
  rw[Ĉo]
  let q:vs[i]?=Ä:=ñb (by rw[n];show B);rw[όo];show wpAny_pyNext_dict_end Ĝi st A q λr S=>{rfl,Ŋa (t':=Ć) (λb o m e=>S b o m e) C F N u J}
 īb:=λ_ _ _ _ _ st h=>wpAny_pyIter_keyiter st h
def z3n(ks:Á zV):TI:=λ_ H R=>R Łi H
def y3m{X:Cx}{tg:Õ}{x:È}{p:Pos}{A:Ì}{ks:Á zV}{us:Á V}(h:xU ñ x Ğb)(g:qt X.K X.w A ks us)(B:Gl X x)(m:Î Ĭ q7):PI X tg Úa (z3n ks):=by
 intro u s σ H R I r;let{c,k,C,j}:=g;show zi (YF (pos:=p) h B m u s σ H (λv i=>v=.ref A/\i=H) I {rfl,rfl}) λv a ⟨y,i,d,q,e1,e2⟩=>?_
 subst e1 e2;cases(show v=Ĉ A from q);let{t,f,z}:=j ô a.heap d.xD;let l:čf=Ŋ:=by rw[jC f,ĸa,k,Ľa]
 show wpAny_pyIter_dict c z ?_;rw[l];show{Ąa,[Ąa],_,_,i,rfl,d.kept (t':=îd) λb o e=>ĝ _ e,x3u A _ k j,{_,Ř _ rfl,rfl,rfl},λb n=>?_,r};let e:b=Ąa:=by simpa using n
 subst e;show d.gw ċ ϋn
#print L2
namespace L3
open ě ħ ź Ģ L2
nonrec def VM:zV->D
 |.inl i=>.int i|.inr x=>.str x
nonrec def kT:zV->Ð
 |.inl _=>Æ|.inr x=>decide (Ða<=yr)
def iG(ks:Á zV):FA:=λ_=>À (êd VM)
def d9{K:Ñ}{G:Hp}{k:zV}(h:kT k=Æ):zW K G (VM k) Ži:=by
 cases k with
 |inl i=>rfl|inr x=>show{rfl,by rw[ŧ];show ŭ h}
def z1m{K:Ñ}{G:Hp}{ks:Á zV}(h:Ţf kT=Æ):pj K Łi G (êd VM) where
 go:=λi b H _ _ a=>by rw[ì]at a;show a
 u5:=λi b H x f e d a y=>by let{rfl,k,c,rfl}:=y;show{b,VM k,ßa d,by rw[ſ,c];rfl,d9 (ϐa h k (Ϗa c))}
 ēa:=λi b H _ _ a=>by rw[ì]at a;show a
def NZ(h:xU ñ x Ğb)(g:qt X.K X.w A ks us)(d:Gl X x)(hk:Ţf kT=Æ)(a:Ŋ<=1000)(b:Î Ĭ q7):SI X tg Úa (iG ks):=
 {{_,y3m h g d b,λ{i f G H τ σ e R} K c q=>by cases c;show q _ _ _ öf (by rw[ì,ŧ];show ģ a Í) (z1m hk)}}
def z1e{K:Ñ}{w:å}{a:Ì}{es:Á Ēb}{n:Ã}{xs:Á È}{vs:Á Value}{us:Á V}(l:ϋ a=À { cls:=.type Ź,ă:=.dict Ĵh n })(e:je w es xs vs)(i:ğc)(g:Îa=Â)(r:zm us vs) :qt K w a ăc us:=by
 rw[řo]
 show{g,c,n,λP h f=>{_,Ew r c,?_}};rw[ϭo];refine{_,_,f _ _ l,{rfl,rfl,rfl},rfl,λe d=>q e ĺg,p,?_};rw[Mc þg];show Ňg _ Ìg i
#print L3
namespace L2
open ě ħ ź Ģ
def aH(r d:Ì)(h:Heap):Ç:=h.IsValuesView r d
abbrev TM(r d:Ì):HO:=.ext (aH r d)
section
variable{X:Cx}{A:Ì}{ks:Á zV}{us:Á V}{x:È}{p š Ž:Pos}
def lP(A:Ì):TE:=λ_ H Q=>∀r,H r=Ä->Q ïi (zT H r (TM r A))
def y3c(h:xU ñ x Ğb)(g:qt X.K X.w A ks us)(P:Gl X x)(R:Î Ĭ q7)(d:Î ϧf q11)(f:Î éa q11) :PE X Ùj (lP A):=by
 intro N s σ H Q I L;let{i,S,T,G}:=g;show Ñg d f (zi (YF (pos:=p) h P R N s σ H (λv r=>v=.ref A/\r=H) I {rfl,rfl}) λv c ⟨y,r,m,J,e1,e2⟩=>?_);subst e1 e2;cases(show v=Ĉ A from J);let{u,E,O}:=G ô Ïe m.xD;let j:Ϻg Ņb A u:=O.dictOf
 let C:∀b,Ĉ A=.ref b->∃l,Ϧc b=À l/\l.dict=Ä:=λb q=>by cases q;let{l,_,_,B,t,_}:=j;show{l,B,t.2.1}
 show{Ź,_,Ěe,Ėe,ϵj,Ài,C,Śc rfl ðg};show Ĝd Ėe Ài ϣj Ťj (Æl Ņb A i) {{u,j},?_};let n:aH ðc A (Œd { cls:=.type ϲg,ă:=.fields #[.ref A] }):={_,Ř _ rfl,rfl,rfl};show{.ref ðc,_,m.laid (a:=ðc) (o:=TM ðc A) (t':=Ĩb) ĵg ċ {n,?_,λB t z k=>?_},rfl,L _ m.fresh};let{o,e,_}:=n;show{o,e};let{o,e,z}:=z;show{o,k _ e,z}
def y56(A:Ì)(us:Á V):Á V->Hp->VK->Ç:=λa H Q=>∃r,a=[.ref r]/\H r=À (TM r A)/\∀p,H p=Ä->Q Ů (γ (.lst us))
theorem dD:∀{kvs:Á Ϗ} {vs:Á Ğa},KV kvs vs->zm (ßd (·.2)) (śf (·.2))
 |_,_,.nil=>.nil|_,_,.cons r t=>.cons r.2 (dD t)
def sF(c:Ż=Æ)(g:qt X.K X.w A ks us)(t:Ũ<=1000):wM X ña (y56 A us):=by
 intro O s σ H S P Q I r h;let{a,rfl,N,q}:=h;let{u,rfl,E}:=wv r;cases(show u=Ĉ a from E);let{p,L,ep,z}:=g;let{n,f,G}:=z ô ß ŗ;let y:ϣb=Ũ:=by rw[jC f,ĸa,L,Ľa]
 let{C,_}:=(show yz ô X.w H ß a (TM a A)from đ a _ N);refine W.kdl_call (W.kdl_values (knd:=yn ô X.w) (d:=A) (r:=a) (kvs:=n) (ep:=ep)) (Ďa c) {C,G} (by rw[y,ŧ];show ģ t Í) λR tk b F J B i=>?_
 let{l,m}:=i
 let e:Ģc=n.map (·.2):=by
  show Ŏe λj=>?_
  cases hj:Ģc[j]? with
  |Ä=>have:=List.getElem?_eq_none_iff.mp hj;rw[ť,l]at this;rw[ſ,ñb this];rfl|À v=>let{k,e}:=m j v (by rw[<-ϋa];show hj);rw[ſ,e];rfl
 let x:zm us Ģc:=by rw[e];let:=dD f;rw[Ċl (show Ũ<=Ŋ by omega)]at this;rw[đo]
 show{.ref Ý,_,īa (a:=Ý) (o:=.lst us) (t':=tk) J ċ {?_,Ģc,F,x,?_},rfl,q _ ĵc};rw[ŧ];show ģ t Í;rw[B]
#print a
#print L2
namespace L3
open ě ħ ź Ģ L2
def ii(a:Ż=Æ)(f:Gl X Ġ)(i:ñ Ġ=Ä)(h:xU ñ x Ğb)(g:qt X.K X.w A ks us)(y:Gl X x)(m:∀H,ã X.K H ds us)(k:ę<=1000)(s:Î Ĭ q7)(b:Î (Ëa ýh "values" Ö (ý ýh Ö)=ý ýh Ö) q11)(c:Î éa q11) :SF X (.Call ĕm [.Call Đj [] [] Ž] [] pos) (eC Ϯh):=by
 let u:Ũ<=1000:=by rw[(m Ţa).length];show k
 let v:QE X (.Call Đj [] [] Ž) (lP A):={y3c h g y s b c};refine{{_,(Xh (p:=p) (pos:=pos) (sF a g u) f i Ir (Gx v fO) Í Í).h,λ{C B G H τ σ d Q} E z q=>?_}};cases z;intro r n;show{r,rfl,yS,λl j=>?_};let e:=ĭa (o:=TM r A) òa n;let t:=ϰb (ĭa (o:=.lst us) Ìc j);show q l _ _ t (e.h.free j) (Że j) {us,yS,m _,by rw[ŧ];show ģ k Í}
#print L3
namespace L2
open ě ħ ź Ģ
section
variable{Ē:ë}{w:å}{A:û}{E:Value->Ï->Ç}{s:Ï}
open HT in
def z1g{t f:Ì}{a:Ú Value}{k l:Value}{lo hi:É Å}{Q:Value->Ï->Ç}(b:ϵa ß t a)(i:Ŗe f k l .none)(pl:ßb k lo)(p:ßb l hi)(j:sIx ó 0 lo=0/\sIx ó ó hi=ó)(h:Q īc s):Û è A (Ĳc īc İ) Q E s:=by
 let{n,g,d,m}:=id i;let e:ĕb İ ϩd:={n,g,d};unfold Ĳc
 try with_reducible show ύa ?_
 first|show Ô Ģa|skip
 refine Ô (Ãl Îd Í ?_)
 show Ô (Řc (ĵ:=ńb ϴg) Îd āe
  (Ůb āe Îd ŏk ?_ Èk))
 exact Û _ _ ôj _ _ s;show Ô (Ím b ?_);show Ô (ųc e ?_);rw[Ò Í];show Ô (ip i pl p ?_)
 let c:ϛf=Æ:=by rw[j.1,j.2,Ħm];simp
 exact Û _ _ ϝj _ _ s;rw[Ò c];let o:ĕb īc ō:=Îd;unfold Builtin.Tuple.tupleIsExact;show Ô (Ô (ųc o (Κa (Ēe (č {_,rfl,č h})))))
#print a
def y5b(K:Ñ):V->É Å->É Å->Hp->VK->Ç:=λx b c H Q=>∃a xs,x=.ref a/\ye K H a xs/\
 (Ħ ç 0 b=0/\Ħ ç ç c=ç)/\Q ŝ H
def y8f:gJ X (y5b X.K):=by
 intro u s σ H x v p t n w m Q I e f i l h;let{a,j,rfl,k,g,q}:=h;cases e;let{c,r,d,o}:=ώ k;let b:ϖg=Ča:=by rw[ė];show Óm
 show{ō,_,ēj,Æi,?_};show z1g d f i l (by rw[b];show g) {.ref a,H,I,rfl,q}
#print L2
namespace L3
open ě ħ ź Ģ L2
def XB(d:D)(lo hi:É Å):É D:=match d with
 |.tup xs=>À ĭn|d=>XA d lo hi
def Zt(a:FE)(lo hi:FO):FE:=λσ=>(ϳ).bind λd=>(Ĳi).bind λl=>(Ķi).bind λh=>XB d l h
def sv{α:Type}{xs:Á α}{lo hi:É Å}(c:Ħ ç 0 lo=0/\Ħ ç ç hi=ç):gN xs lo hi=xs:=by unfold gN;rw[c.1,c.2,Ħm,όl,ħd]
theorem y7u{X:Cx}{a:Õ}{w:FE}{pos:Pos}{lo hi:É Õ}{y fh:FO}{L:Pos}(N:SE X a w)(t:SO X lo y)(o:SO X hi fh):SE X (οd (.Slice lo hi Ä L)) (Zt w y fh):=by
 let{ta,A,J}:=N.h;let{P,K,C}:=t.h;let{Z,O,I}:=o.h;show{{_,eO (io.or y8f) A K O,λ{Y H0 G H τ σ d Q} E b q=>?_}};let{x,F,b}:=zD b;let{l,t,b}:=zD b;let{h,o,b}:=zD b;show J E F λv R S u B=>C (Ϸ u) t λG2 H2 r=>I ((Ϸ u).go r) o λU T e=>?_
 let n:=Āi (r.trans e);let s:=Ūf (r.g.trans e.g);cases x with
 |lst xs=>cases b;let{a,k,rfl,m,i,f}:=s;refine .inl (.inl {a,k,rfl,vn Ìc m,λp j=>q _ _ _ ûk {p,_,rfl,æb yS,(Ìn).mono ϡl,ģ ŕf f}})
 |tup xs=>cases b;let{a,k,rfl,m,i,f}:=s;by_cases c:Ħ ç 0 l=0/\Ħ ç ç h=ç;refine .inr {a,k,rfl,vO Ìc m,by rw[Ęb];show c,?_};rw[sv c]at q;show q _ _ _ n {a,k,rfl,m,i,f};refine .inl (.inr (.inl {a,k,rfl,vO Ìc m,by rw[Ęb];show c,λp j=>?_}));show q _ _ _ ûk {p,_,rfl,åb yS,(Ìn).mono ϡl,ģ ŕf f}
 |str z=>cases b;let{rfl,f}:=s;show .inl (.inr (.inr {z,rfl,f,q _ _ _ n {rfl,ģ (Fy ..) f}}))
 |_=>cases b
#print L3
namespace L2
open ě ħ ź Ģ
section
variable{X:Cx}{z6:Á ð}{σ:St}{H:Hp}{s:Ï}{a:Ì}{o:Obj}{kvs:Á Ϗ}
def zE.swap(I:zE X z6 σ H s)(e:H a=À u)(m:∀x,u≠.own x)(t:∀xs,u≠.tup xs)(j:∀ps,ϰa a≠À žd)(B:∀ob v,ϰa a≠À Ŕh)(k:∀xs,ϰa a≠À Ħa)(h:yz ô X.w ϵm ß a u'):zE X z6 σ ϵm s:=by
 let f:∀b,H b=Ä->b≠a:=λb d z=>by subst z;rw[e]at d;cases d
 show{I.ok,Îc,ůa,{űe,ŗd,λb ob q n o=>?_,ŉd,λb xs q=>?_,λb ob v q=>?_,λb ps q=>?_},ça,Ĭa,?_,λx c q=>?_,λp A=>?_,λb v q=>?_,çb};let:=ϒc b ob q n o;rw[zy (f b this)];rw[đo];let d:b≠a:=λz=>by subst z;show k xs q
 rw[zy d];show ůd b xs q;let d:b≠a:=λz=>by subst z;show B ob v q
 rw[zy d];show Ůd b ob v q;let d:b≠a:=λz=>by subst z;show j ps q
 rw[zy d];show Űd b ps q;rw[zy (f _ Ůa)];show Ůa;rw[zy (f _ (İb x c q))];show İb x c q;let{r,i,l}:=İa p A;show{r,by rw[zy (f _ i)];show i,l};by_cases d:b=a;subst d;rw[yS]at q;cases q;show h;rw[zy d]at q;show(đ b v q).ZM (λc w _ z=>z) (λc z=>?_) λc xs z=>?_;let g:c≠a:=λy=>by subst y;rw[e]at z;cases z;show m _ rfl
 rw[zy g];show z;let g:c≠a:=λy=>by subst y;rw[e]at z;cases z;show t _ rfl
 rw[zy g];show z
def zE.WH(I:zE X z6 σ H s)(e:H a=À ň):(∀ps,ϰa a≠À žd)/\(∀ob v,ϰa a≠À Ŕh)/\∀xs,ϰa a≠À Ħa:=by show{λps z=>?_,λob v z=>?_,λxs z=>?_};let{_,q}:=Űd a ps z;rw[e]at q;cases q;let q:=Ůd a ob v z;rw[e]at q;cases q;let q:=ůd a xs z;rw[e]at q;cases q
def zE.up(I:zE X z6 σ H s)(e:H a=À ň):∃o,zE X z6 σ Ϣe s:=by let{i,f,h}:=I.WH e;let{z,y,k,r,b,j,d,g,c}:=(show yz ô X.w H ß a ň from đ a _ e);show{b,I.swap e Êa Êa i f h {g,z,y,k,r,b,j,d,g,c}}
def zE.dn(I:zE X z6 σ H s)(e:H a=À ž)(n:(∀ps,ϰa a≠À žd)/\(∀ob v,ϰa a≠À Ŕh)/\∀xs,ϰa a≠À Ħa):zE X z6 σ ōd s:=by let{h,d,f}:=n;let{_,z,y,j,r,ob,i,b,g,c}:=(show yz ô X.w H ß a ž from đ a _ e);show I.swap e Êa Êa h d f {z,y,j,r,ob,i,b,g,c}
#print a
def vt.dn(D:vt)(a:Ì)(o:Obj)(kvs:Á Ϗ):vt:=
 {λσ H=>H a=À ž/\œa σ ōd,λv H=>H a=À ž/\D.rt v ōd,λσ H=>H a=À ž/\D.bk σ ōd,λσ H=>H a=À ž/\D.ct σ ōd}
def y61(i:Ã)(t:TS):TS:=λD σ H=>∃a,σ[i]?=À źd/\((∃o kvs,H a=À ž/\t D σ H)\/∃kvs,H a=À ň/\∀o,t (D.dn a o kvs) σ Ϣe)
def y48{X:Cx}{st:Ø}{t:TS}{i:Ã}(h:PS X st t):PS X st (y61 i t):=by
 intro k s σ H D I d;obtain⟨a,p,⟨_,_,_,d⟩|⟨m,e,d⟩⟩:=d;show h k s σ H D I d
 .let{o,l}:=I.up e;show zi (h k s σ _ _ l (d o)) λf n g=>?_
  cases f with
  |next=>let{σ',j,c,b,q}:=g;show{σ',_,c.dn b Ϥd,q}
  |brk=>let{σ',j,c,b,q}:=g;show{σ',_,c.dn b Ϥd,q}
  |Ĭb=>let{σ',j,c,b,q}:=g;show{σ',_,c.dn b Ϥd,q}
  |ret u=>let{v,σ',j,c,r,b,q}:=g;show{v,σ',_,c.dn b Ϥd,r,q}
def y9z(i:Ã)(t:TE):TE:=λσ H Q=>∃a,σ[i]?=À źd/\((∃o kvs,H a=À ž/\t σ H Q)\/∃kvs,H a=À ň/\∀o,t σ Ϣe λv b=>b a=À ž/\Q v (zT b a ň))
def y39(h:PE X e t):PE X e (y9z i t):=by intro c s σ H Q I b;obtain⟨a,m,⟨_,_,_,b⟩|⟨f,e,b⟩⟩:=b;show h c s σ H Q I b;let{o,d}:=I.up e;show zi (h c s σ _ _ d (b o)) λu k ⟨v,l,j,r,g,q⟩=>{v,_,j.dn g Ϥd,r,q}
def V9(ok:xg P w H h)(e:H a=À ž)(d:Đa=.dict es ep):Îa=Â/\∃vs,KV kvs vs/\Âi ģa a vs ep:=by let{g,z,y,vs,r,j,b,i,f,c}:=(show yz P w H h a ž from ok a _ e);rw[g]at f;cases f;show{y,vs,r,o,b,g,c.1,?_,c.2.2};let e1:=c.2.1;rw[d]at e1;cases e1;show d
theorem Ev:∀{kvs:Á Ϗ} {vs:Á Ğa} {i:Ã} {k:zV} {x:Value},KV kvs vs->vs[i]?=À (k,x)->∃u,kvs[i]?=À (k,u)/\zw u x
 |_,_,_,_,_,.nil,e=>by cases e|_,_,0,_,_,.cons r t,e=>by cases e;let{b,a}:=r;show{_,ŕ À (Prod.ext b rfl),a}
 |_,_,i+1,_,_,.cons _ t,e=>Ev (i:=i) t ϒa
#print L2
namespace L3
open ě ħ ź Ģ L2
structure Tw(a:Ì)(kvs:Á Ϗ)(G G':Hp):Ç where
 ne:∀b,b≠a->G' b=G b
 l:Rd G a ň
 r:Rd G' a ň
section
variable{K:Ñ}{a:Ì}{o:Obj}{kvs:Á Ϗ}{G G' H H' G0 H0:Hp}
def Rd.tw(t:Tw a kvs G G')(c:∀ob v,u≠.yH ob v)(h:Rd G b u):Rd G' b u:=by
 rw[Đo]
 let e:u=.dK kvs:=by rcases h with h|⟨ob,h⟩<;>rcases t.l with l|⟨oc,l⟩<;>rw[l]at h;cases h;rfl;cases h;show Þ rfl (c oc _);cases h;cases h;rfl
 rw[e];show t.r;rcases h with h|⟨ob,h⟩;show .inl (by rw[ϫo]);show .inr {ob,by rw[ϫo]}
theorem Tw.at{b:Ì}{u:HO}(t:Tw a kvs G G')(h:G b=À u)(c:u≠.dK kvs)(d:∀o,u≠.yH o ň):G' b=À u:=by rw[Đo];rcases t.l with l|⟨oc,l⟩<;>rw[l]at h;cases h;show Þ rfl c;cases h;show Þ rfl (d oc);rw[ϫo]
theorem zW.tw(t:Tw a kvs G G'):∀{d:D}{v:V},zW K G d v->zW K G' d v:=λ{d}=>by show ϓf (P:=λd=>∀v,zW K G d v->zW K G' d v) Ān ĺm ĸm ķm ?_ ?_ ?_ ?_ ?_ d _;rw[Ņo];rcases q with q|q;show .inl ťl;show .inr q;rw[Ņo];rcases q with q|q;show .inl ťl;show .inr q;rintro k g c v ⟨b,f,e,q,z,r,l⟩;show{b,f,e,Rd.tw t ğj q,z,ϧa c r,l};rintro x v ⟨b,C,e,n,h⟩;show{b,C,e,n,t.at h Ća Êa};rintro x m g c v ⟨b,C,j,f,e,n,h,l,r⟩;show{b,C,j,f,e,n,t.at h Ća Êa,l,ϧa c r}
theorem Reps.tw(t:Tw a kvs G G')(h:ã K G ds vs):ã K G' ds vs:=ϧa (λ_ _ _=>zW.tw t) h
theorem wN.tw(t:Tw a kvs G G')(f:H' p=H p)(b:wN K G H d p):wN K G' H' d p:=by
 cases d with
 |lst ds=>let{c,e,r,l}:=b;show{c,by rw[f];show e,r.tw t,l}
 |dic ks ds=>let{c,e,z,r,l}:=b;show{c,by rw[f];show e,z,r.tw t,l}
 |_=>show b.elim
def Nz(e:G a=À ň):Tw a kvs G Ŏd:={λb c=>zy c,.inl e,.inr {o,yS}}
def MB(e:G a=À ž):Tw a kvs G (zT G a ň):={λb c=>zy c,.inr {o,e},.inl yS}
nonrec def YS(a:Ì)(f:HO)(H0:Hp):Hp:=λb=>if b=a then(H0 a).bind λ_=>À f else H0 b
def lu(h:b≠a):YS a f H0 b=H0 b:=Ó h
def ME:YS a f H0 b=Ä↔H0 b=Ä:=by
 unfold YS;by_cases h:b=a;subst h;rw[Ò rfl];cases H0 b with
 |Ä=>show{λ_=>rfl,λ_=>rfl}|À u=>show{λz=>(nomatch z),λz=>(nomatch z)}
 rw[Ó h]
theorem x5c(h:YS a f H0 a=À u):u=f:=by
 unfold YS at h;rw[Ò rfl]at h;cases e:H0 a with
 |Ä=>rw[e]at h;cases h|À w=>rw[e]at h;cases h;rfl
def yA.up(E:yA K n G0 H0 G H τ σ)(e:G a=À ň):yA K n Ŏd Ïh Ŏd Ϣe τ σ:=by
 let t:=Nz (o:=o) e;show{{ŧa _,λb u h=>?_,Qz òa,λ_ h=>.inl h},ő,Ŕ,λi d h=>?_,λi d h=>?_,êb};rw[Đo];rw[yS,x5c h];rw[lu hb]at h;rw[zy hb];show Ķc _ _ h;let{v,c,r}:=éb i d h;show{v,c,r.tw t};let{p,c,g,z,j}:=Ża i d h;let f:p≠a:=λz=>by subst z;rw[e]at g;cases g
 show{p,c,by rw[zy f];show g,ME.mpr z,j.tw t (zy f)}
def zP.Yd(x0:zP G0 H0 G H)(e:G a=À ň)(x:zP Ŏd Ïh G' H'):G' a=À ž/\H' a=À ž/\zP G0 H0 Ăm Ām:=by let c:G' a=À ž:=x.g _ _ yS;show{c,Œa _ _ c,x0.rebase {λb u h=>?_,λb u h=>?_,Qz Œa,λp h=>?_}};rw[Đo];rw[e]at h;cases h;show yS;rw[zy hb];show x.g _ _ (by rw[zy hb];show h);rw[Đo];let:=x0.h _ _ h;rw[x0.gh _ _ e]at this;cases this;show yS;rw[zy hb];show x.h _ _ (by rw[lu hb];show h);by_cases hb:p=a;subst hb;show .inl ąe;rw[zy hb]at h;rcases ňc p h with z|z;rw[zy hb]at z;show .inl z;show .inr (ME.mp z)
theorem yA.Yd(E:yA K n G0 H0 G H τ σ)(e:G a=À ň)(b:yA K n Ŏd Ïh G' H' τ' σ'):H' a=À ž/\yA K n G0 H0 Ăm Ām τ' σ':=by
 let{f,l,x}:=E.ext.Yd e b.ext;let t:=MB f;show{l,x,b.l1,b.l2,λi d h=>?_,λi d h=>?_,b.ap};let{v,c,r}:=b.fr i d h;show{v,c,r.tw t};let{p,c,g,z,k}:=b.ow i d h;let j:p≠a:=λz=>by subst z;rw[f]at g;cases g
 show{p,c,by rw[zy j];show g,ME.mp z,k.tw t (zy j)}
#print a
def Kn(K:Ñ)(i:Ã)(τ:yK)(σ:St)(G:Hp):Ç:=∃a o ks ds vs,τ[i]?=À ăg/\σ[i]?=À źd/\G a=À Ŕg/\Ŋ=ü/\ã K G ds vs/\ę<=â
structure aE(X:Cx)(i:Ã)(st:Ø)(f:FS):Ç where
 h:∃t,PS X st t/\∀{G0 H0 G H:Hp}{τ:yK}{σ:St}{fl:Fl}{E:vt},yA X.K ú G0 H0 G H τ σ->Kn X.K i τ σ G->f τ=À fl->uQ X.K ú G0 H0 E fl->t E σ H
structure aD(X:Cx)(i:Ã)(e:Õ)(f:FE):Ç where
 h:∃t,PE X e t/\∀{G0 H0 G H:Hp}{τ:yK}{σ:St}{d:D}{Q:VK},yA X.K ú G0 H0 G H τ σ->Kn X.K i τ σ G->f τ=À d->(∀p G' H',zP G H G' H'->H p=Ä->G' p=Ä->wN X.K G' H' d p->Q Ů H')->t σ H Q
structure IU(X:Cx)(i:Ã)(tg ū:Õ)(f:FA):Ç where
 h:∃wi,PI X tg ū wi/\∀{G0 H0 G H:Hp}{τ:yK}{σ:St}{ds:Á D}{R:It->Hp->Ç},yA X.K ú G0 H0 G H τ σ->Kn X.K i τ σ G->f τ=À ds->(∀J G' H',zP G H G' H'->ę<=â->pj X.K J G' ds->R J H')->wi σ H R
def ZT(i:Ã)(f:yK->É α):Ç:=∀τ x,f τ=À x->∃ks ds,τ[i]?=À ăg
def y90{X:Cx}{i:Ã}{st:Ø}{f:FS}(h:aE X i st f)(hk:ZT i f):SS X st f:=by
 let{t,Q,k}:=h.h;show{{_,y48 (i:=i) Q,λ{S R G H τ σ N E} K u q=>?_}};let{F,J,j}:=hk _ _ u;let{v,m,a,I,rfl,P,B,y,C}:=K.fr i _ j;show{a,m,?_};rcases P with e|⟨o,e⟩;rw[Âp];let L:=K.up (o:=o) e;show k L {a,o,F,J,I,j,m,yS,B,y.tw (Nz e),C} u ?_;cases N with
 |nx τ'=>show λσ' b c z=>let ⟨h1,h2⟩:=K.Yd e z;{h1,q σ' _ _ h2}|bk τ'=>show λσ' b c z=>let ⟨h1,h2⟩:=K.Yd e z;{h1,q σ' _ _ h2}|ct τ'=>show λσ' b c z=>let ⟨h1,h2⟩:=K.Yd e z;{h1,q σ' _ _ h2}|rt w d=>
  cases w with
  |Â=>intro v b c x r;let{g,n,l}:=K.ext.Yd e x;show{n,q v _ _ l (r.tw (MB g))}
  |Æ=>
   intro p b c x O s w;let{g,n,l}:=K.ext.Yd e x;let A:p≠a:=λz=>by subst z;rw[g]at s;cases s
   show{n,q p _ _ l (ME.mp O) (by rw[zy A];show s) (w.tw (MB g) (zy A))}
 show .inl {o,_,Ña _ _ e,k K {a,o,F,J,I,j,m,e,B,y,C} u q}
def y83(h:aD X i e f)(hk:ZT i f):SF X e f:=by
 let{t,S,k}:=h.h;show{{_,y39 (i:=i) S,λ{Y U G H τ σ d Q} K A q=>?_}};let{l,L,r}:=hk _ _ A;let{v,y,a,m,rfl,P,F,B,I}:=K.fr i _ r;show{a,y,?_};rcases P with e|⟨o,e⟩;rw[Âp];let N:=K.up (o:=o) e;show k N {a,o,l,L,m,r,y,yS,F,B.tw (Nz e),I} A λp C O x J j T=>?_
 let R:H a=À _:=Ña _ _ e;let n:C a=À (.yH o ϋg):=x.g _ _ yS
 let s:H p=Ä:=by by_cases z:p=a;subst z;rw[n]at j;cases j;rw[zy z]at J;show J
 let E:p≠a:=λz=>by subst z;rw[n]at j;cases j
 show{Œa _ _ n,q p (zT C a ϋg) (zT O a ϋg) {λb u c=>?_,λb u c=>?_,Qz Œa,λb c=>?_} s (by rw[zy E];show j) (T.tw (MB n) (zy E))};rw[Ϛo];rw[e]at c;cases c;show yS;rw[zy z];show x.g _ _ Ľk;rw[Ϛo];rw[R]at c;cases c;show yS;rw[zy z];show x.h _ _ Ľk;rw[Ϛo];show .inl ąe;rw[zy z]at c;rcases ňc b c with w|w;rw[zy z]at w;show .inl w;rw[zy z]at w;show .inr w;show .inl {o,_,Ña _ _ e,k K {a,o,l,L,m,r,y,e,F,B,I} A q}
def y8y(P:ēc ÿ X.A Ö ġ)(I:Ż=Æ)(hi:IU X i tg ū fs)(O:SG X tg fg)(hb:uf X Íc g)(B:Î (∀x,úb ū Ö x=pure x) q10):aE X i ãg ŋm:=by
 let{ti,pi,U}:=Ëc;let{S,F,Z}:=O.h;rw[Ëp];show{{_,Ge P I pi F pb B,λ{G0 r G H τ σ p E} K T a q=>?_}};let{b,Y,a}:=zD a;show U K T Y λJ l Ha xa _ f=>?_
 let t:=üa xa;let n:=ÿi t.ext q;show{λi m σ H=>m=ϣ-i/\i<=ϣ/\∃τ G,yA X.K ú l r G H τ σ/\pA fg g ēi τ=À p,{ϣ,rfl,Ĉa _,τ,l,t.Yg,a},?_};rintro i m σ H ⟨rfl,R,τ,G,K,a⟩;by_cases hlt:i<ϣ;show .inr {f.go i G H Ŝb Ña hlt,λσ' c=>∃τ G,yA X.K ú l r G c τ σ'/\pA fg g Ϙh τ=À p,λσ' c z=>{ϣ-ù,Įe _ _ hlt,rfl,hlt,z},λx c y=>?_};let{G3,d,v,s,rd}:=f.u5 i G H x c Ŝb Ña hlt y;rw[ώo];let{τ1,h1,a}:=zD (show(fg _ τ).bind _=_ from a);let{Q,L,a}:=zD a;show Z Ĕi rd h1 λσ1 u=>kb u L ?_
 cases Q with
 |nx τ2=>show λσ2 k C j=>{τ2,k,j,a}|ct τ2=>show λσ2 k C j=>{τ2,k,j,a}|bk τ2=>cases a;show n|rt o d=>cases a;show Ϭd n Êa Êa Êa rfl
 rw[żo];show .inl {f.stop i G H Ŝb Ña Ê,n _ _ _ K}
def z0b(h:ZT i fs):ZT i ŋm:=λτ x b=>by let{a,c,_}:=zD b;show h τ a c
#print L3
namespace L2
open ě ħ ź Ģ
nonrec def DN(a:Ì)(o:Obj)(kvs:Á Ϗ):It:={λi H=>H a=À ž/\i<Ĺ,λi H v b=>b=H/\∃k,kvs[i]?=À (k,v),λi H=>H a=À ž/\Ĺ<=i}
def x3s{P:ë}{w:å}{K:Ñ}{tg:Õ}{kvs:Á Ϗ}{o:Obj}{es:Ú Ēb}{ep:Ã}(a it:Ì)(d:Đa=.dict es ep) :jj P w K tg Ŝm ũb it (λi h=>h.IsValIter it a i Ĺ ep) where
 mem:=by simp
 obj:=λi h st b l=>by
  let e:b=it:=by simpa using l
  rw[üo]
 ć:=λi h q st k=>źf λo e=>k it ï o e
 Źa:=by
  rw[čo];let S:i<Öb:=by rw[m];show n.2
  let p:g[i]?=À (g[i].1,g[i].2):=ĳ S;let{u,R,O}:=Ev f p;let{A,B,Y,J,t,F}:=r it ï;rw[<-m]at st;show wpAny_pyNext_values_item st y p λq j U=>?_
  rw[m]at j;let T:zE X N σ H { s with é:=q }:=Ŋa (t':=Ć) (λb o l e=>(U.2 b l).trans e) A B J t F;let{o,e,c,d}:=id j;show{g[i].2,rfl,VF (s:={ s with é:=q }) e c d Í {u,H,T,O,{rfl,_,R},j,λb l=>(r b l).1}}
 done:=by rw[čo];let p:g[i]?=Ä:=ñb (by rw[m];show n.2);let{A,B,Y,J,t,F}:=r it ï;rw[<-m]at st;show wpAny_pyNext_values_end (Ďa L) st y p λq Q=>{rfl,Ŋa (t':=Ć) (λb o l e=>Q b o l e) A B J t F}
 īb:=λ_ _ _ _ _ st h=>wpAny_pyIter_valiter st h
def z3l(i:Ã):TI:=λσ H R=>∃a o kvs,σ[i]?=À źd/\H a=À ž/\R Ŝm H
def y3k{X:Cx}{tg:Õ}{x:È}{p h f:Pos}{i:Ã}(P:X.N[i]?=À x)(hv:pf ϸ x)(T:Î Ĭ q7)(C:Î ìb q7)(j:Î ϧf q11)(k:Î ϳj q11) :PI X tg (.Call (.Attribute Úa "values" h) [] [] f) (z3l i):=by
 intro E s σ H R I A;let{a,o,m,Y,e,A}:=A;show Ñg j k (zi (Xd (pos:=p) P hv T C E s σ H (λv l=>v=.ref a/\l=H) I {_,Y,rfl,rfl}) λv c ⟨y,l,z,Q,e1,e2⟩=>?_);subst e1 e2;cases(show v=Ĉ a from Q);let{g,_,_,_,_,o',es,ep,J,_,d,_}:=(show yz ô X.w l Ïe a (.yH o (.dK m))from z.zb a _ e);rw[g]at J;cases J;let{L,B,u,G}:=V9 z.zb e d;let K:ϛd=ϒd:=jC u;let n:Ϻg Ņb a B:=G.dictOf
 let O:∀b,Ĉ a=.ref b->∃r,Ϧc b=À r/\r.dict=Ä:=λb q=>by cases q;let{r,_,_,Z,S,_}:=n;show{r,Z,S.2.1}
 show{Ź,_,Ěe,Ėe,ϵj,n.typeIs,O,Śc rfl ðg};show Ĝd Ėe n.typeIs ϣj Ťj (Æl Ņb a L) {{B,n},?_};let t:zE X E σ l { c with é:=Œd { cls:=.type ϲg,ă:=.fields #[.ref a] } }:=z.kept (t':=Ĩb) λb o e=>ĝ _ e
 show wpAny_pyIter_values (knd:=yn ô X.w) (s:={ c with é:=Œd { cls:=.type ϲg,ă:=.fields #[.ref a] } }) {_,Ř _ rfl,rfl,rfl} (G.push _) ?_;rw[K];show{_,[_],_,_,l,rfl,t.kept (t':=Ĩb) λb o e=>ĝ _ e,x3s a _ d,{_,Ř _ rfl,rfl,rfl},λb U=>?_,A};let e:=Üa U;subst e;show t.gw ċ (t.zb.fresh ċ)
#print L2
namespace L3
open ě ħ ź Ģ L2
nonrec def VJ(i:Ã):FA:=λτ=>match τ[i]? with
 |À (À (Â,.dic _ ds))=>À ds|_=>Ä
def z0e(i:Ã):ZT i (VJ i):=λτ x a=>by
 unfold VJ at a
 rw[Ÿo]
def ml{ks:Á zV}{vs:Á V}{i:Ã}{k:zV}{v:V}(h:ĝa[i]?=À (k,v)):ks[i]?=À k/\vs[i]?=À v:=by rw[List.getElem?_zip_eq_some]at h;show h
def z0r{K:Ñ}{G:Hp}{a:Ì}{o:Obj}{ks:Á zV}{ds:Á D}{vs:Á V}(j:Ŋ=ü)(e:G a=À Ŕg)(h:ã K G ds vs):pj K (DN a o ĝa) G ds where
 go:=λi g H b c f=>{c _ _ Ôo,by rw[ĸa,j,Ľa,Ϥb];show f}
 u5:=λi g H x p b c f y=>by let{rfl,k,n}:=y;let{d,m,l}:=h.at (ml n).2;show{g,d,ßa c,m,ļc b}
 ēa:=λi g H b c f=>{c _ _ Ôo,by rw[ĸa,j,Ľa,Ϥb];show f}
def y8b(k:X.N[i]?=À x)(hv:pf ϸ x)(j:Î Ĭ q7)(d:Î ìb q7)(b:Î ϧf q11)(c:Î éa q11):IU X i tg Ùj (VJ i):=by show{{_,y3k k hv j d b c,λ{u y G H τ σ w R} K g f q=>?_}};let{a,o,t,m,v,h,l,e,n,s,r}:=g;unfold VJ at f;rw[h]at f;cases f;show{a,o,_,l,Ña _ _ e,q _ _ _ öf r (z0r n e s)}
def z0d(h:ZT i fs):ZT i (xK n fs fg ft f):=λτ x b=>by let{a,c,_}:=zD b;show h τ a c
section
variable{X:Cx}{i:Ã}{tg ū elt:Õ}{ifs:Á Õ}{Ŀ:Ùa}{cl:Á ϡa}{own:Á È}{pos:Pos}{fs:FA}{fg:FG}{ft:FT}{f:FE}{g:TG}
def y81(a:Ż=Æ)(B:ZR X Ŀ cl own)(hi:IU X i tg ū fs)(m:BG X Ŀ cl own tg g fg)(t:∀C s H fp pn,Y_ Ϯ ifs ft)(u:∀C s H fp pn,SE Ϯ elt f)(o:Î (∀x,úb ū Ö x=pure x) q10) :aD X i Ϲa Ŀe:=by
 let{P,A,w}:=Ëc;show{{_,eM a B A (ξb (m.q C s H fp pn)) (λC s H fp pn=>Ip (t C s H fp pn)) (μb (u C s H fp pn)) o,λ{R N G H τ σ d Q} K v b q=>?_}};let{S,y,b}:=zD b;let{I,F,b}:=zD b;cases b;show w K v y λJ T U j l n=>Os n l ϴd F (m.k K.l2 K.l1) λz L O c r E p e=>?_
 show q p _ _ (j.trans ϕk) (j.h.free (ϖd e)) (êf e) {z,yS,r,E}
#print a
#print L3
namespace L2
open ě ħ ź Ģ
def DK(a:Ì)(o:Obj)(kvs:Á Ϗ):It:={λi H=>H a=À ž/\i<Ĺ,λi H v b=>∃p k u,H p=Ä/\v=.ref p/\kvs[i]?=À (k,u)/\b=zT H p ϊg,λi H=>H a=À ž/\Ĺ<=i}
def x3r{P:ë}{w:å}{K:Ñ}{C:Á Õ}{O:Ã}{pos:Pos}{kvs:Á Ϗ}{o:Obj}{es:Ú Ēb}{ep:Ã}(a it:Ì)(d:Đa=.dict es ep) :jj P w K (.Tuple C O pos) ŝm ũb it (λi h=>∃ok ov,IsItemIter h it a i Ĺ ep ok ov) where
 mem:=by simp
 obj:=λi h st b hb=>by
  let e:b=it:=by simpa using hb
  subst e;let{ok,ov,g}:=st;show{_,g,λv q=>nomatch q}
 ć:=λi h h' st k=>by let{ok,ov,g}:=st;show{ok,ov,k it ï _ g}
 Źa:=by
  rw[Ćo];let hi:i<ċa:=by rw[r];show y.2
  let F:f[i]?=À (f[i].1,f[i].2):=ĳ hi;let{u,hk,ru}:=Ev j F;let p:it<Ý:=Ĥ g;rw[<-r]at g;show wpAny_pyNext_items_item g N F λm h1 A ho ht hz Y=>?_
  show{_,rfl,wpAny_letOwnedTupleGo_items (s:={ s with é:=h1 }) ho λG B l=>?_}
  replace l:Éb it h1 G:=l
  let R:Ă Ý=Ä:=by
   cases q:Ă Ý with
   |Ä=>rfl|À o=>show Þ ϻd Ϭ
  let x:H Ý=Ä:=þb ċ;let U:G.get? Ý=À { cls:=.type ō,ă:=.seq #[m,f[i].2] }:=Ĕc _ _ (Æb p) ht
  let O:∀c o,c ∉ ũb->Ă c=À o->G.get? c=À o:=λc o n z=>by
   let t:c≠it:=λq=>n új
   show Ĕc _ _ t (Y c o t z)
  let new:yz ô X.w (zT H Ý ğg) G Ý ğg:={ïg,[m,f[i].2],.cons (d8 A) (.cons ru .nil),{_,U,rfl,_,rfl}};rw[r]at B;show{.ref Ý,zT H Ý ğg,I.BS (tk:=Ć) J O R x new,rfl,{Ý,_,u,x,rfl,hk,rfl},{m,_,B},λc n=>?_};rw[zy];show(J c n).1;intro q;let e:c=it:=by simpa using n
  rw[e]at q;rw[q]at p;show Þ p Ϭ
 done:=by rw[Ćo];let F:f[i]?=Ä:=ñb (by rw[r];show y.2);rw[<-r]at g;show wpAny_pyNext_items_end (Ďa n) g N F λh1 S=>{rfl,I.but (tk:=Ć) J λc ob Q eb=>S c ob (λq=>Q új) eb}
 īb:=λ_ _ _ _ _ st h=>by let{ok,ov,g}:=st;show W.kcp_self g h
def z3k(i:Ã):TI:=λσ H R=>∃a o kvs,σ[i]?=À źd/\H a=À ž/\R ŝm H
def y3j{X:Cx}{r:Á Õ}{Y:Ã}{l:Pos}{x:È}{p h f:Pos}{i:Ã}(S:X.N[i]?=À x)(hv:pf ϸ x)(Z:Î Ĭ q7)(G:Î ìb q7)(j:Î ïj q11)(k:Î ϳj q11) :PI X (.Tuple r Y l) (.Call (.Attribute Úa Ϙ h) [] [] f) (z3k i):=by
 intro J s σ H R I C;let{a,o,n,ha,e,C}:=C;show Ñg j k (zi (Xd (pos:=p) S hv Z G J s σ H (λv m=>v=.ref a/\m=H) I {_,ha,rfl,rfl}) λv c ⟨y,m,B,T,e1,e2⟩=>?_);subst e1 e2;cases(show v=Ĉ a from T);let{g,_,_,_,_,o',es,ep,L,_,d,_}:=(show yz ô X.w m Ïe a (.yH o (.dK n))from B.zb a _ e);rw[g]at L;cases L;let{P,E,A,K}:=V9 B.zb e d;let O:E.length=ϣb:=jC A;let t:Ϻg Ņb a E:=K.dictOf
 let Q:∀b,Ĉ a=.ref b->∃u,Ϧc b=À u/\u.dict=Ä:=λb q=>by cases q;let{u,_,_,h1,U,_}:=t;show{u,h1,U.2.1}
 show{Ź,_,Ěe,Ík,PySem.F.type_dict_items,t.typeIs,Q,Śc rfl ðg};show Ĝd Ík t.typeIs PySem.F.entry_dict_items (PySem.F.args_dict_items_1 _) (meets_dict_items Ņb a P) {{E,t},?_};let z:zE X J σ m { c with é:=Œd { cls:=.type Ęm,ă:=.fields #[.ref a] } }:=Ŭi (t':=Ĩb) λb o e=>ĝ _ e
 show wpAny_pyIter_items (knd:=yn ô X.w) (s:={ c with é:=Œd { cls:=.type Ęm,ă:=.fields #[.ref a] } }) {_,Ř _ rfl,rfl,rfl} (K.push _) ?_;rw[O];show{_,[_],_,_,m,rfl,z.kept (t':=Ĩb) λb o e=>ĝ _ e,x3r a _ d,{_,_,Ř _ rfl},λb hb=>?_,C};let e:=Üa hb;subst e;show z.gw ċ (z.zb.fresh ċ)
#print L2
namespace L3
open ě ħ ź Ģ L2
def kf(ks:Á zV)(ds:Á D):Á D:=Łb (λk d=>Įa [VM k,d]) ks ds
def VI(i:Ã):FA:=λτ=>match τ[i]? with
 |À ăg=>if Ţf kT=Æ then À ĝn else Ä|_=>Ä
def z0c(i:Ã):ZT i (VI i):=λτ x a=>by
 unfold VI at a
 rw[Ÿo]
def z0a{K:Ñ}{G:Hp}{a:Ì}{o:Obj}{ks:Á zV}{ds:Á D}{vs:Á V}(z:Ŋ=ü)(e:G a=À Ŕg)(l:ã K G ds vs)(h:Ţf kT=Æ):pj K (DK a o ĝa) G ĝn where
 go:=λi j H f c b=>{c _ _ Ïo,by rw[Ţo]}
 u5:=λi j H x w f c b y=>by let{p,k,u,m,rfl,v,rfl}:=y;let{g,r}:=ml v;let{d,t,s}:=l.at r;show{zT j p ϊg,.tup [VM k,d],Þb c m,?_,?_};unfold kf;rw[ģe,g,t];let q:zt G (zT j p ϊg):=ŕb (we (c.free m) _);show{p,[kV k,u],rfl,åb yS,{_,_,rfl,d9 (ϐa h k (Ϗa g)),{u,_,rfl,ōi q,rfl}},L2.small (n:=2) Í}
 ēa:=λi j H f c b=>{c _ _ Ïo,by rw[Ţo]}
def y8a(n:X.N[i]?=À x)(hv:pf ϸ x)(m:Î Ĭ q7)(h:Î ìb q7)(b:Î ïj q11)(d:Î éa q11):IU X i (.Tuple elts kk tpos) (.Call (.Attribute Úa Ϙ š) [] [] Ž) (VI i):=by
 show{{_,y3j n hv m h b d,λ{w z G H τ σ s R} K k f q=>?_}};let{a,o,g,j,y,l,r,e,t,v,u}:=k;unfold VI at f;rw[l]at f
 change (if g.all kT=Æ then À (kf g j)else Ä)=À s at f
 by_cases c:g.all kT=Æ;rw[Ò c]at f;cases f;show{a,o,_,r,Ña _ _ e,q _ _ _ öf ?_ (z0a t e v c)};unfold kf;rw[ųb];show ģ Ŷd u;rw[Ó c]at f;cases f
#print L3
namespace L2
open ě ħ ź Ģ
def z6m(a d:Value):ťf ųa {[a],[(Ĥd,d)]}:=by unfold ťf;kernel_rfl
section
variable{Ē:ë}{w:å}{A:û}{R:ľc->Ï->Ç}{I:Ì}{fp wr:Á Ì}{n:Ã}{P:Ã->Value->Ç}{St:Ã->Heap->Ç}{kw:Á ćb}
def L5:(Ϻc ųa ++ Ϻc ".loop" : Åa) = īh:=by decide
theorem GL(W:Walks Ē w Ŵ I fp wr n P St)(r:Ã->Ã->Ð)(m:CmpOf Ē w Ŵ .Gt P r)(S:Ì)(p:S ∉ fp):∀(k j:Ã)(s:Ï)(vb:Value)(c:Ã),n-ϒ=k->j+1<=n->St ϒ ß->P Ϛh vb->
  Ă S=À { cls:=.type Ġ,dict:=Ä,ă:=.seq #[vb,vb] c,ød:=#[] }->(∀v h' tk,P (Ĝc r (n-1)) v->(∀b o,b ∉ wr->b≠S->Ă b=À o->Ė b=À o)->R ëo { s with é:=h',Ċ:=tk })->
  ϫa è A (.builtin īh {ċk,kw}) R s
 |k,j,s,vb,c,hk,hj,hst,hPb,hS,hR=>by
  let z:S ∉ wr:=λh=>p Ñn
  show ŧc èk ?_;rw[Ćd Ţc _]
  change Û _ Ŵ Ϝj _ _ s
  show Ô (ώa hS rfl ?_)
  change Û _ Ŵ Ĥj _ _ s
  match k,hk with
  |0,hk=>
   let y:j+1=n:=by omega
   show Ô (ūc (W.done s _ _ (y▸hst) λh' tk d=>?_));let g:=d S _ z hS
   change Û _ Ŵ (Ŕn S Ŏh >>= _) _ _ _
   show Ô (Ċg g rfl ϫn);show hR vb _ tk (by rw[<-y];show hPb) λb o a f e=>(ëm).trans ğh
  |k+1,hk=>
   let t:j+1<n:=by omega
   show Ô (ūc (ţi ϒ s _ _ t hst λv h' tk E q d=>?_));let g:=d S _ z hS
   change Û _ Ŵ (tryCatch (holding [v,v] (richCompare .Gt v vb >>= _)) _ >>= _) _ _ _
   show Ô (ūc (ύa (Ô (m ϒ Ϛh v vb _ _ _ E hPb (Ô (ύa (Ýc ϫn)))))));cases hb:r ϒ Ϛh with
   |Æ=>simp only[Ŗ];show Ô (Ċg g rfl (Ô (Āe ?_)));rw[L5];refine č {Ůc Ţc _,GL W r m S p k ϒ _ v _ Ê t (Ċi _ _ _ q λb B o e=>?_) (by simp only[Ĝc,hb,Ŗ];show E) (Ĥe _ g rfl) λC x l u i=>?_};show(θa (λh:S=b=>p (by rw[h];show B))).trans e;show hR C x l u λb o a f e=>i b o a f ((ëm).trans ğh)|Â=>simp only[Ĵa,Ÿ];show Ô (Āe ?_);rw[L5];refine č {Ůc Ţc _,GL W r m S p k ϒ _ vb c Ê t q (by simp only[Ĝc,hb,Ĵa,Ÿ];show hPb) g λC x l u i=>?_};show hR C x l u λb o a f e=>i b o a f ğh
def z6n(W:Walks Ē w Ŵ I fp wr n P St)(x:Ã->Ã->Ð)(q:CmpOf Ē w Ŵ .Gt P x)(S:Ì)(f:S ∉ fp)(m:St 0 ß)(B:Ă S=À { cls:=.type Ġ,dict:=Ä,ă:=.seq #[] c,ød:=#[] })(C:∀v h' tk,Én->(0<n->P (Ĝc x (n-1)) v)->(∀b o,b ∉ wr->b≠S->Ă b=À o->Ė b=À o)->R ëo { s with é:=h',Ċ:=tk }) :ϫa è A (.builtin īh {ċk,Êf}) R s:=by
 let r:S ∉ wr:=λh=>f Ñn
 show ŧc èk ?_;rw[Ćd Ţc _]
 change Û _ Ŵ Ϝj _ _ s
 show Ô (ώa B rfl ?_)
 change Û _ Ŵ Ĥj _ _ s
 by_cases hn:n=0;subst hn;show Ô (ūc (W.done s _ _ m λh' tk a=>?_))
 change Û _ Ŵ (rule _ >>= _) _ _ _
 show Ô (Ēe Ģa);show C dv _ tk Ăn (λz=>Þ z Ϭ) λb o d g e=>a b o d e;let k:0<n:=by omega
 show Ô (ūc (ţi 0 s _ _ k m λv h' tk E i a=>?_));let j:=a S _ r B
 change Û _ Ŵ (Ŕn S (λ_=>#[v,v]) >>= _) _ _ _
 show Ô (Ċg j rfl ?_);rw[L5];show č {Ůc Ţc _,GL W x q S f _ 0 _ v _ rfl k (Ċi _ _ _ i λb y o e=>?_) E (Ĥe _ j rfl) λG u p t l=>?_};show(θa (λh:S=b=>f (by rw[h];show y))).trans e;show C G u p (λz=>Þ z hn) (λ_=>t) λb o d g e=>l b o d g ((θa (Ùb g)).trans (a b o d e))
#print a
section
variable{Ē:ë}{w:å}{A:û}{E:Value->Ï->Ç}{s:Ï}
def x3n{a:Åa}{b:ŀf}{ϛ:Á Value}{c:Á ćb}{Q:Value->Ï->Ç}(hk:builtinKind a=Ä)(j:plainId a=Æ)(i:entryFor table a=À b)(h:ťf a {ϛ,c})(g:Û è Ŵ (b {ϛ,c}) (λfin s'=>match fin with
   |.done f=>(match(Except.ok f:ľc)with|.ok Ųd=>Q v s'|.ok _=>õ|.error e=>E e s')
   |.again c'=>c'.quiet=Æ/\ϫa è A c' (λr s'=>match r with|.ok Ųd=>Q v s'|.ok _=>õ|.error e=>E e s') s') E s):Û è A (źa (.builtin a) ϛ c) Q E s:=by
 show Ře (ĥk j i ?_);simp only[checkBuiltinCall,hk];cases hsig:Manifest.signature? a with
 |Ä=>show č g|À sig=>
  let d:Bind.checkArgs a sig {ϛ,c}=pure ():=by simpa only [ťf,hsig]using h
  simp only[d];show č g
def sH
  (h:Û è Ŵ (Ée x) (λit s₂=>∃I fp wr n P St bt,it=.ref I/\Walks Ē w Ŵ I fp wr n P St/\St 0 s₂.heap/\(∀b∈fp,b<ģg)/\CmpOf Ē w Ŵ .Gt P bt/\
   ∀v h' tk,Én->(0<n->P (Ĝc bt (n-1)) v)->(∀b o,b ∉ wr->s₂.heap.get? b=À o->Ė b=À o)->Q v { s₂ with é:=h',Ċ:=tk }) E s) :
  Û è A (źa Èm [x] Êf) Q E s:=by
 show x3n PySem.F.kind_max PySem.F.plain_max PySem.F.entry_max (z6m _ _) ?_
 change Û _ Ŵ (Żj ųa ϡm 0 {[],Êf} >>= _) _ _ s
 show Ô (ům (show Żj ųa ϡm 0 {[],Êf}=pure [Ä,À dv]from rfl) ?_);show Ô (Κa (êa h (λit s₂ i=>?_) λ_ _ e=>e));let{I,fp,wr,n,P,St,bt,rfl,W,f,c,a,k}:=i;show Ô (Öc ?_);let d:ģg ∉ fp:=λj=>Ĳb _ (c _ j)
 rw[L5];show č {Ůc Ţc _,z6n W bt a ģg d (Ċi _ _ _ f λb _ o e=>ĝ _ e) ϟc λv h' tk p l m=>?_};show k v h' tk p l λb o g e=>m b o g ùf ûf
#print a
section
variable{X:Cx}
nonrec def Ōc:Á Å->Å
 | []=>0|x::xs=>Ϗd ăd x
theorem dR:∀(xs:Á Å)(x:Å),(Ϗd ăd x=x\/Ϗd ăd x∈xs)/\x<=Ϗd ăd x/\∀y∈xs,y<=Ϗd ăd x
 | [],x=>{.inl rfl,ða _,λy h=>Þ h ï}|z::xs,x=>by
  let{a,b,c}:=dR xs Ĉg;let e:x<=if x<z then z else x:=by rw[ϐo]
  let f:z<=if x<z then z else x:=by rw[ϐo]
  show{?_,ϡc e b,λy d=>?_};rcases a with a|a;by_cases q:x<z;rw[Ò q]at a
  right
  exact ϯc _ Ĉg xs∈z::xs;rw[Ò q,a];show ī;left
  rw[Ó q]at a;exact ϯc _ Ĉg xs=x;rw[Ó q,a];show .inr Âd;rcases Ī d with rfl|d;show ϡc f b;show c y d
def z5r(h:xs≠[]):Ōc xs∈xs/\∀y∈xs,y<=Ōc xs:=by
 cases xs with
 |nil=>show Þ rfl h|ā x xs=>let{a,b,c}:=dR xs x;show{?_,λy d=>?_};rcases a with a|a;exact ϯc _ x xs∈_;rw[a];show ī;show Ça _ a;rcases Ī d with rfl|d;show b;show c y d
def ŝn(h:m∈xs)(c:∀y∈xs,y<=m):m=Ōc xs:=by let{a,b}:=z5r (xs:=xs) (λz=>by rw[z]at h;show Þ h ï);let:=b m h;let:=c _ a;omega
def y9o(K:Ñ)(d b:TE):TE:=λσ H Q=>d σ H λx c=>b σ c λz a=>∃(p:Ì) (ns:Á Å),x=.ref p/\yU K a p ía/\Q ĥj a
def fN(K:Ñ)(x:V)(Q:VK):Á V->Hp->Ç:=λb a=>match b with
 | [z]=>∃(p:Ì) (ns:Á Å),x=.ref p/\yU K a p ía/\Q ĥj a|_=>õ
def y4r(K:Ñ)(a:TE)(σ:St)(Q:VK):Á V->Hp->Ç:=λd b=>match d with
 | [x]=>a σ b λz c=>fN K x Q [z] c|_=>õ
def y32(f:Ż=Æ)(hg:Gl X ųa)(hm:ñ ųa=Ä)(ha:PE X a ta)(hd:PE X e td)(P:Î Çg q11) :PE X (.Call Ĕm [a] čl pos) (y9o X.K ta td):=by
 intro U s σ H Q I h;let Z:PA X [a] (Vv ta Z5):=eE ha Xb P;let pk:PK X čl (Vv td Z5):=y3u hd y3w;show Ċd (XU I hg hm rV ?_);show PyProof.Rows.callWith_kw (zi (Z pos U s σ H (y4r X.K td σ Q) I h) λus s1 ⟨vs,H1,I1,E,N⟩=>?_) ϳl ϳl
 match vs,E,N with
 | [x],E,N=>
  let{u,rfl,ru}:=wv E;show zi (pk pos U s1 σ H1 (fN X.K x Q) I1 N) λws w ⟨zs,T,B,F,O⟩=>?_
  match zs,F,O with
  | [z],F,O=>
   let{dv,rfl,rd}:=wv F;let{l,c,rfl,hq,q}:=O;cases(show u=Ĉ l from ru);let R:=B.ok.hd f;let{d,C,L,hz}:=B.list hq;let Y:ŉa=ϔg:=by let:=C.length;rw[ì]at this;rw[ė];rw[đo]
   let g:l<Řg:=by let{o,n,e,_}:=L;show Ĥ e
   show sH ?_;show şc L.isList ?_;refine{_,_,_,_,_,_,_,rfl,Ĺh (by show R) Řg l (ϓ g) d.toArray,{{_,Ř _ rfl,rfl,rfl},L.isList.push _},?_,CmpOf.ints_gt âl (λi v hv=>MI C hv),?_};intro b S;exact b<(w.heap.push _).objs.size;rw[āb];simp only[Ļa,Ìa,ňa]at S;rcases S with rfl|rfl;show ïb _;show êc g;intro v h' tk h0 hP k
   let kp:∀b o,w.heap.get? b=À o->Ė b=À o:=λb o G=>k b o (λz=>by
    let:b=Řg:=by simpa using z
    rw[this]at G;show Þ (Ĥ G) Ϭ) (ĝ _ G)
   by_cases e0:c=[];rw[Ò e0]at q;have:v=dv:=h0 (by rw[<-Y,e0];rfl);subst this;show{z,T,Ŭi (t':=tk) kp,rd,q};rw[Ó e0]at q;let A:0<ŉa:=Ók e0;have J:=hP (by rw[<-Y];show A);let{t,rfl}:=MI C J;let{b1,b2}:=argBest_gt âl (ϔg-1);generalize Ĝc (λi j=>decide (śi i 0>śi j 0)) (ϔg-1)=m at *;let r:m<ŉa:=by omega
   let em:śi m 0=Ōc c:=by
    show ŝn ?_ λy hy=>?_;rw[Èa,ĳ r];show ŷb r;let{j,hj,rfl}:=Òk hy;let:=b2 j Ê
    rwa [Èa,ĳ hj]at this
   show{.int (Ōc c),T,Ŭi (t':=tk) kp,{t,by rw[<-em]},q}
#print a
#print L2
namespace L3
open ě ħ ź Ģ L2
nonrec def kO:Á D->É üf
 | []=>À []|.int i::r=>(kO r).bind λa=>À ſi|_::_=>Ä
theorem Ek{K:Ñ}{G:Hp}:∀{xs:Á D}{ns:Á Å}{vs:Á V},kO xs=À ns->ã K G xs vs->vs=Īa ûd
 | [],ns,vs,h,r=>by cases h;show(show vs=[]from r)|.int i::xs,ns,vs,h,r=>by let{e,c,h}:=zD (show(ĳi).bind _=_ from h);cases h;let{v,d,rfl,a,b}:=r;cases(show v=.int i from a);rw[Ek c b];rfl
 |.zG::_,_,_,h,_=>by cases h|.bl _::_,_,_,h,_=>by cases h|.str _::_,_,_,h,_=>by cases h|.tup _::_,_,_,h,_=>by cases h|.lst _::_,_,_,h,_=>by cases h|.dic _ _::_,_,_,h,_=>by cases h|.exc _::_,_,_,h,_=>by cases h|.obj _ _ _::_,_,_,h,_=>by cases h
theorem cj:∀ns:Á Å,kO Ϩ=À ns
 | []=>rfl|n::ns=>by exact(kO Ϩ).bind _=_;rw[cj ns];rfl
def CJ:D->D->É D
 |.lst xs,z=>(ĳi).bind λa=>À (if a=[]then z else .int (Ōc a))|_,_=>Ä
def y7r{X:Cx}{a e:Õ}{j k:FE}{p F pos:Pos}(f:Ż=Æ)(C:Gl X ųa)(A:ñ ųa=Ä)(N:SE X a j)(I:SE X e k)(t:Î ϳc q11):SE X (.Call Ĕm [a] [{À Ĥd,e,F}] pos) (e2 CJ j k):=by
 let{ta,s,K}:=N.h;let{S,L,r}:=I.h;show{{_,y32 f C A s L (uv t),λ{Z U G H τ σ d Q} E b q=>?_}};let{x,B,b}:=zD b;let{z,J,b}:=zD b;show K E B λv T Y g w=>?_
 show r (Ϸ g) J λu n o i y=>?_
 cases x with
 |lst xs=>let{m,O,b}:=zD b;cases b;let{l,vs,rfl,P,R,_}:=w;let e:=Ek O R;subst e;show{l,m,rfl,vn (g.gh.trans i.h) P,?_};by_cases c:m=[];rw[Ò c];rw[Ò c]at q;show q u n o (ϯd i) y;rw[Ó c];rw[Ó c]at q;show q _ n o (ϯd i) rfl
 |_=>cases b
#print L3
namespace L2
open ě ħ ź Ģ
open ŀf Ėh
section
variable{X:Cx}
def z6h:k5 X "str.startswith" (Ψc (Txt.startswith z y)):=by rw[ąo];show ín F.slot_str_startswith (śc _ _ _) F.entry_str_startswith (F.args_str_startswith_2 _ _) (gives_str_startswith z y t c) {.bl _,H,I,rfl,q}
def z6b:k5 X "str.endswith" (Ψc ϸk):=by rw[ąo];show ín F.slot_str_endswith (śc _ _ _) F.entry_str_endswith (F.args_str_endswith_2 _ _) (gives_str_endswith z y t c) {.bl _,H,I,rfl,q}
def z6f:k5 X "str.partition" (λx vs H Q=>∃z y:È,x=.str z/\vs=[.str y]/\Ϩb=Â/\ĕ<=â/\∀p,H p=Ä->Q Ů (zT H p äj)):=by
 intro m s σ H x vs v w Q I g f h;let{z,y,rfl,rfl,n,j,q}:=h;let{t,rfl}:=(show ∃t,v=ĥa z t from g);let{u,rfl,t',rfl}:=wv f;show üb F.slot_str_partition řd F.entry_str_partition (F.args_str_partition_2 _ _) (meets_str_partition z y t t' n j) ?_
 let a:∀(d tb c:Tok)(k:Ã),EP X m σ Q Ðb { s with Ċ:=k,é:=Þa { cls:=.type ō,ă:=.seq (àj).toArray } }:=λd tb c k=>by let l:zm [Ác Ϙa.1,.str Ϙa.2.1,.str Ϙa.2.2] àj:=.cons {_,rfl} (.cons {_,rfl} (.cons {_,rfl} .nil));show{.ref Ý,_,īa (o:=.tup _) (t':=k) ņe ċ {Æk,_,l,{_,Ř _ rfl,rfl,_,rfl}},rfl,q _ ĵc}
 unfold Ðc at a
 revert a
 cases occurrences z y 0 ĕ 1 with
 |nil=>intro a;show a _ _ _ _|ā i r=>intro a;show a _ _ _ _
theorem lJ:∀l:Á Ŋh,zm ((ş (·.1)).map Ác) ĕi
 | []=>.nil|p::r=>.cons {p.2,rfl} (lJ r)
def ir(x y:È)(h:Ða+2<=â):(Ϝn).length<=â:=by
 let a:[x].length<=â:=by exact 1<=â;decide
 unfold ÿb
 split;show a;split;show a;rw[ŷo]
def z6g:k5 X "str.split" (λx vs H Q=>∃z y:È,x=.str z/\vs=[.str y]/\Ϩb=Â/\ĕ+2<=â/\∀p,H p=Ä->Q Ů (ηa ((ϛn).map V.str))):=by
 intro c s σ H r vs v m Q I g f h;let{x,y,rfl,rfl,d,i,q}:=h;let{t,rfl}:=(show ∃t,v=ĥa x t from g);let{n,rfl,u,rfl}:=wv f
 let a:∀(l:Á Ŋh) (k:Ã),ş (·.1)=ÿb x y->EP X c σ Q Ðb { s with Ċ:=k,é:=Þa { cls:=.type Ġ,ă:=.seq (ĕi).toArray } }:=λl k e=>by show{.ref Ý,_,īa (o:=.lst ((Ϝn).map Ác)) (t':=k) ņe ċ {?_,Ūg l,0,?_,Ř _ rfl},rfl,q _ ĵc};rw[ì];show ir x y i;rw[<-e];show lJ l
 let j:(Âk).length<=â:=by rw[ŷo]
 cases h1:(decide (Ða<Żb)||decide (strKind x<strKind y));cases hf:(Ϸi).isEmpty;refine üb Ğe řd òg Îg (meets_str_split_sep x y t u h1 d hf Ê j) ?_;exact wants đm ġ _ { s with Ċ:=_,é:=Þa { cls:=.type Ġ,ă:=.seq (strsFrom Ć Âk).toArray } };rw[strsFrom_eq];show a (PySem.numbered Ć _) _ ((numbered_texts _ _).trans ((Ϛl).trans (Ó (ĩj hf))).symm);show üb Ğe řd òg Îg (meets_str_split_not_found x y t u h1 d hf)
  (a [(x,t)] Ć ((Ϛl).trans (Ò hf)).symm)
 show üb Ğe řd òg Îg (meets_str_split_cannot_occur x y t u h1)
  (a [(x,t)] Ć (Ò h1).symm)
def aC(X:Cx)(e:Õ)(t:TE):Ç:=∀(z6:Á ð) (s:Ï) (σ:St) (H:Hp) (Q:VK),zE X z6 σ H s->t σ H Q->Û ÿ X.A Ϟc (λv a=>EP X z6 σ Q v a/\0<îd) ġ s
variable{a o:Õ}{ta to:TE}{i:Å}{ck ck1 ck2:Ã}{cp pos š Ž p1 p2:Pos}{y z:È}
def y3d(B:PE X a ta)(n:IR ĝk):aC X Ād (JJ (LS X.K) ta (tC Ϡ)):=by
 intro c s σ H Q I h;show Ļh (zi (B c s σ H _ I h) λv b ⟨x,f,y,o,C⟩=>źk ?_);let{p,R,O,F,rfl,e,G,z,q}:=(show LS X.K x Ϡ f Q from C);cases e;cases o;let k:zE X c σ f { b with Ċ:=Şi+1 }:=y.tok _;let{J,r,m,N}:=k.tuple G;let{j,E,t,P,L,S}:=IX z;let{w,A,d}:=ŵa t;let u:=ũ;let T:=XV;let g:EP X c σ Q w { b with Ċ:=Şi+1 }/\0<Şi+1:={{F,f,k,d,q},îh _}
 show ŕc (x:=w) m.typeIs Ϣj
  (Õm (j:=j) (Q:=λr l=>r=w/\(EP X c σ Q r l/\0<l.toks)) m Ê Ê (by rw[ė,<-u];show E) (by simpa using A) {rfl,g}) (n _ _)
nonrec def y9x(y z:È)(to:TE):TE:=λσ H Q=>to σ H λx a=>∃w:È,x=.str w/\đb+Ńf*ĕ<=16777216/\Q ĺn a
def y38(q:aC X o to)(d:(y==z)=Â)(a:Î (Ëa o Þf Ö Ċb=ý o Ö) q11)(b:Î éa q11) :PE X (ςd (.Attribute o Þf š)) (y9x y z to):=by rw[ũo];show æk a rfl b rfl (zi (q l s σ H _ I h) λv c ⟨⟨x,j,e,f,w,n,g,i⟩,tk⟩=>?_);subst n;let{m,p}:=lh (T := ãb) e f rfl;show{ãb,"str.replace",ğe,PySem.F.slot_str_replace,PySem.F.type_str_replace,m,p,?_};let{t,rfl}:=(show ∃t,v=ĥa w t from f);show Śc rfl (àg ?_);show ċd (ëg (k:=ck1) (pos:=p1) ?_);show ċd (ëg (k:=ck2) (pos:=p2) ?_);show óg ?_;show SC.replace (by exact Ĩb≠0;omega) (by exact Ĩb+1≠0;omega) (by exact Ĩb≠Ĩb+1;omega) d g λr k=>{.str _,j,e.tok _,{_,rfl},i}
#print a
#print L2
namespace L3
open ě ħ ź Ģ L2
nonrec def To:D->D->É D
 |.str z,.str y=>À (.bl (ńe z y))|_,_=>Ä
nonrec def bi:D->D->É D
 |.str z,.str y=>À (.bl ϸk)|_,_=>Ä
nonrec def CL:D->D->É D
 |.str z,.str y=>if Ϩb=Â/\Ϙa.1.length<=16777216/\Ϙa.2.1.length<=16777216/\Ϙa.2.2.length<=16777216 then À äj else Ä|_,_=>Ä
nonrec def XC:D->D->É D
 |.str z,.str y=>if Ϩb=Â/\ĕ+2<=16777216 then À (.lst (Λa ϛn))else Ä|_,_=>Ä
def CP(i:Å):D->É D
 |.tup xs=>uh xs i|_=>Ä
nonrec def CM(y z:È):D->É D
 |.str w=>if đb+Ńf*ĕ<=16777216/\(Ňd).length<=16777216 then À ĺn else Ä|_=>Ä
section
variable{X:Cx}{o e a:Õ}{fo f fa:FE}{š Ž p1 p2 cp pos:Pos}{nm:È}{id:Åa}{rm:V->Á V->Hp->VK->Ç}{F:D->D->É D}{ck ck1 ck2:Ã}{i:Å}{y z:È}
def NT(g:Slot ãb nm id)(i:Ōi Ćb=pure Ýg)(B:k5 X id rm)(N:∀{x y d:D},F x y=À d->∃w,x=.str w)(L:∀{w:È}{y d:D}{v:V}{G H:Hp}{Q:VK},zt G H->đb<=â->F ό y=À d->zW X.K G y v->(∀u G' H',zP G H G' H'->zW X.K G' d u->Q u H')->rm ό [v] H Q)(P:SE X o fo)(J:SE X e f)(a:Î (Ëa o nm Ö Ċb=ý o Ö) q11)(b:Î éa q11)(k:Î ϊ q11) :SE X (ι (.Attribute o nm š)) (e2 F fo f):=by
 let{S,A,C}:=P.h;let{te,z,n}:=(zB J zM k).h;refine{{_,(Vf ğe g i B {A} {z} a b ϲk Ŧc).h,λ{G0 U G H τ σ d Q} E c q=>?_}};let{x,I,c}:=zD c;let{y,R,c}:=zD c;let{w,rfl}:=N c;show C E I λv T Y l p=>?_
 let{rfl,O}:=p;refine{rfl,n (Ϸ l) (ds:=[y]) Äk λZ G2 H2 j s=>?_};let{u,rfl,t}:=uU s;show L j.gh O c t λu G' H' m r=>q u G' H' ((l.trans j).trans m) r
def iZ(j:SE X o fo)(c:SE X e f)(a:Î (Ëa o ėm Ö Ċb=ý o Ö) q11)(b:Î éa q11)(i:Î ϊ q11) :SE X (ι (.Attribute o ėm š)) (e2 To fo f):=
 NT PySem.F.slot_str_startswith PySem.F.type_str_startswith z6h (λ{x y d} h=>by
  cases x with
  |str w=>show{w,rfl}|_=>cases h) (λ{w y d v G H Q} g l h r q=>by
  cases y with
  |str y=>cases h;let{rfl,_}:=r;show{w,y,rfl,rfl,q _ G H (ßa g) rfl}
  |_=>cases h) j c a b i
def y7m(j:SE X o fo)(c:SE X e f)(a:Î (Ëa o Ýn Ö Ċb=ý o Ö) q11)(b:Î éa q11)(i:Î ϊ q11) :SE X (ι (.Attribute o Ýn š)) (e2 bi fo f):=
 NT PySem.F.slot_str_endswith PySem.F.type_str_endswith z6b (λ{x y d} h=>by
  cases x with
  |str w=>show{w,rfl}|_=>cases h) (λ{w y d v G H Q} g l h r q=>by
  cases y with
  |str y=>cases h;let{rfl,_}:=r;show{w,y,rfl,rfl,q _ G H (ßa g) rfl}
  |_=>cases h) j c a b i
def y7s(t:SE X o fo)(m:SE X e f)(a:Î (Ëa o Ũm Ö Ċb=ý o Ö) q11)(b:Î éa q11)(n:Î ϊ q11) :SE X (ι (.Attribute o Ũm š)) (e2 CL fo f):=
 NT PySem.F.slot_str_partition PySem.F.type_str_partition z6f (λ{x y d} h=>by
  cases x with
  |str w=>show{w,rfl}|_=>cases h) (λ{w y d v G H Q} g l h r q=>by
  cases y with
  |str y=>
   change (if Ϩb=Â/\ōb.1.length<=16777216/\ōb.2.1.length<=16777216/\ōb.2.2.length<=16777216 then À (Įa [.str ōb.1,.str ōb.2.1,.str ōb.2.2])else Ä)=À d at h
   by_cases c:Ϩb=Â/\ōb.1.length<=16777216/\ōb.2.1.length<=16777216/\ōb.2.2.length<=16777216;rw[Ò c]at h;cases h;let{rfl,_}:=r;let{s,j,i,k}:=c;rw[<-ŧ]at j i k;show{w,y,rfl,rfl,s,l,λp u=>q _ _ _ (Þb g u) {p,_,rfl,åb yS,{_,_,rfl,{rfl,j},_,_,rfl,{rfl,i},_,_,rfl,{rfl,k},rfl},Æk}};rw[Ó c]at h;cases h
  |_=>cases h) t m a b n
theorem hG{K:Ñ}{G:Hp}:∀{l:Á È},(∀a∈l,Ũa<=â)->ã K G (ş ϐ) (ş Ác)
 | [],_=>rfl|a::l,h=>{_,_,rfl,{rfl,h a Òd},hG λb c=>h b ϡh}
def il(O:SE X o fo)(K:SE X e f)(i:Î (Ëa o "split" Ö Ċb=ý o Ö) q11)(j:Î éa q11)(l:Î ϊ q11) :SF X (ι (.Attribute o "split" š)) (e2 XC fo f):=by
 let{R,C,I}:=O.h;let{Z,B,r}:=(zB K zM l).h;refine{{_,(Vf ğe Ğe PySem.F.type_str_split z6g {C} {B} i j (by rw[Ś,l];rfl) Ŧc).h,λ{G0 T G H τ σ d Q} E b q=>?_}};let{x,J,b}:=zD b;let{y,P,b}:=zD b;show I E J λv S U n t=>?_
 cases x with
 |str w=>
  let{rfl,N}:=t;refine{rfl,r (Ϸ n) (ds:=[y]) (by unfold zA;rw[P];rfl) λY G2 H2 s z=>?_};let{u,rfl,A}:=uU z;cases y with
  |str y=>
   change (if Ϩb=Â/\đb+2<=16777216 then À (ϒf (Λa (ÿb w y)))else Ä)=À d at b
   by_cases c:Ϩb=Â/\đb+2<=16777216;rw[Ģo];let{rfl,_}:=A;let m:đb+2<=â:=by rw[ŧ];show c.2
   let g:=n.trans s;show{w,y,rfl,rfl,c.1,m,λp k=>q p _ _ (ϯd (ĭa g.gh k)) (Ãi k) (ŷh k) {_,yS,hG λa L=>ģ (part_short L) N,?_}};rw[ì];show ir w y m;rw[ġo]
  |_=>cases b
 |_=>cases b
def y7t(B:SE X a fa)(n:IR ĝk)(j:(y==z)=Â)(e:Î (Ëa Ād Þf Ö (ý Ād Ö)=ý Ād Ö) q11)(f:Î éa q11) :SE X (ςd (.Attribute Ād Þf š)) (e1 (CM y z) (e1 (CP i) fa)):=by
 let{O,m,o}:=B.h;show{{_,y38 (y3d m n) j e f,λ{K N G H τ σ d Q} E b q=>?_}};let{w,g,b}:=zD b;let{x,F,g}:=zD g;show o E F λv J L k r=>?_
 cases x with
 |tup xs=>
  let g:uh xs i=À w:=g;let{p,A,rfl,C,I,l}:=r;let{u,s,t}:=HM I g;show{p,A,i,u,rfl,rfl,vO k.gh C,s,?_};cases w with
  |str w=>
   change (if đb+Ńf*ĕ<=16777216/\(Ňd).length<=16777216 then À (ϐ Ňd)else Ä)=À d at b
   by_cases c:đb+Ńf*ĕ<=16777216/\(Ňd).length<=16777216;rw[Ģo];let{rfl,_}:=t;show{w,rfl,c.1,q _ _ _ k {rfl,by rw[ŧ];show c.2}};rw[ġo]
  |_=>cases b
 |_=>cases g
#print a
#print L3
namespace L2
open ě ħ ź Ģ
def sA{X:Cx}:wM X Ĝa (λxs H Q=>∃(z:È) (n:Å),xs=Íi/\ĕ<=640/\Ļd z=À n/\Q Ĭc H):=by intro d s σ H xs c Q I r h;let{z,n,rfl,b,a,q}:=h;rw[īo];show W.KIN.call_text a b {.int n,H,Ų _,{_,rfl},q}
#print L2
namespace L3
open ě ħ ź Ģ L2
nonrec def CH:Á D->É D
 | [.str z]=>if ĕ<=640 then(Ļd z).bind λn=>À Ĭc else Ä|_=>Ä
def y7p{X:Cx}{e:Õ}{fs:FA}{p pos:Pos}(s:Gl X ϲa)(o:ñ ϲa=Ä)(l:SA X [e] fs)(g:Î ϊ q11):SE X (υa (.Name ϲa p)) (eL CH fs):=by
 let{t,u,k}:=l.h;refine{{_,(Xh (p:=p) (pos:=pos) sA s o Fk {u} Í Í (by rw[Ś,g];rfl)).h,λ{x B G H τ σ d Q} E a q=>?_}};let{m,f,a}:=zD a;show k E f λy w A j i=>?_
 match m,a with
 | [.str z],a=>
  change (if ĕ<=640 then(Ļd z).bind λn=>À (Ş n)else Ä)=À d at a
  by_cases c:ĕ<=640;rw[Ò c]at a;let{n,r,a}:=zD a;cases a;let{v,rfl,b}:=uU i;let{rfl,_}:=b;show{z,n,rfl,c,r,q _ _ _ j rfl};rw[Ó c]at a;cases a
#print L3
namespace L3
open ě ħ Ģ L2
inductive M where
 |fz (d:D)|own (d:D)|obj (x:È) (fs:Á È) (ms:Á M)|tab (ks:Á Ķ) (ms:Á M)|tp (b:Ð) (ms:Á M)
nonrec def y8s(b:Ð)(ds:Á D):D:=match b with
 |Æ=>.lst ds|Â=>.tup ds
mutual
nonrec def vd:M->D
 |.fz d=>d|.own d=>d|.obj x fs ms=>.obj x fs Ϛb|.tab ks ms=>.dic ks Ϛb|.tp b ms=>y8s b Ϛb
nonrec def ŉc:Á M->Á D
 | []=>[]|m::ms=>vd m::ŉc ms
end
nonrec def Ϧ{κ α:Type}[Ňb κ]:Á κ->Á α->κ->É α
 |k'::ks,v::vs,k=>if k'=k then À v else Ϧ ks vs k|_,_,_=>Ä
nonrec def vz{κ α:Type}[Ňb κ]:Á κ->Á α->κ->α->Á α
 |k'::ks,v::vs,k,y=>if k'=k then y::vs else v::vz ks vs k y|_,vs,_,_=>vs
def NU{κ α:Type}[Ňb κ]{k:κ}{y:α}:∀{ks:Á κ}{ms:Á α},(vz ks ms k y).length=Ϻ:=λ{ks}=>by
 induction ks with
 |nil=>intro ms;rfl|ā k' ks ih=>
  intro ms;cases ms with
  |nil=>rfl|ā y ms=>
   unfold vz
   split;rfl;rw[Ď,Ď,ih]
inductive xX where
 |at(cs:Á È) (f:È)|ky (k:Sum Å È)|ix (k:Ã)
def lE:M->xX->É M
 |.obj x fs ms,.at cs f=>if x∈cs then Ϧ fs ms f else Ä|.tab ks ms,.ky k=>Ϧ ks ms k|.tp Æ ms,.ix k=>Ϧ Ÿd ms k|_,_=>Ä
def y7w:M->xX->M->M
 |.obj x fs ms,.at _ f,m=>.obj x fs (vz fs ms f m)|.tab ks ms,.ky k,m=>.tab ks (vz ks ms k m)|.tp b ms,.ix k,m=>.tp b (vz Ÿd ms k m)|m,_,_=>m
def qQ:M->Á xX->É M
 |m,[]=>À m|m,s::π=>(lE m s).bind λa=>qQ a π
def qB:M->Á xX->M->É M
 |_,[],m'=>À m'|m,s::π,m'=>(lE m s).bind λb=>(qB b π m').bind λa=>À (y7w m s a)
abbrev Ft:=Ì->Ç
def SqB(K:Ñ)(G:Hp)(b:Ð)(p:Ì)(vs:Á V):Ç:=match b with
 |Æ=>G p=À Åd|Â=>ye K G p vs
def y8q{K:Ñ}{G a:Hp}{b:Ð}{p:Ì}{vs:Á V}(g:zt G a)(h:SqB K G b p vs):SqB K a b p vs:=match b with
 |Æ=>g _ _ h|Â=>vO g h
mutual
def yt(K:Ñ)(G H:Hp):M->V->Ft->Ç
 |.fz d,v,L=>zW K G d v/\∀q,¬ L q|.own d,v,L=>∃p,v=.ref p/\wN K G H d p/\∀q,L q↔q=p|.obj x fs ms,v,L=>∃p C dx vs L',v=.ref p/\Ū K ď x=À ôa/\H p=À ÿg/\Ġa=ü/\Š K G H ms vs L'/\¬ L' p/\∀q,L q↔q=p\/L' q|.tab ks ms,v,L=>∃p vs L',v=.ref p/\H p=À ño/\Ŋ=ü/\Š K G H ms vs L'/\Ϻ<=â/\¬ L' p/\∀q,L q↔q=p\/L' q|.tp b ms,v,L=>∃p vs,v=.ref p/\SqB K G b p vs/\Š K G H ms vs L/\Ϻ<=â
def Š(K:Ñ)(G H:Hp):Á M->Á V->Ft->Ç
 | [],vs,L=>vs=[]/\∀q,¬ L q|m::ms,vs,L=>∃v r L1 L2,vs=v::r/\yt K G H m v L1/\Š K G H ms r L2/\(∀q,L1 q->L2 q->õ)/\∀q,L q↔L1 q\/L2 q
end
def ύf{P:M->Ç}(k:∀d,P ńi)(own:∀d,P (.own d))(f:∀x fs ms,(∀m∈ms,P m)->P Ϥg)(a:∀ks ms,(∀m∈ms,P m)->P Ţm)(j:∀b ms,(∀m∈ms,P m)->P (.tp b ms))(m:M):P m:=
 M.rec (motive_1:=P) (motive_2:=λms=>∀m∈ms,P m) k own (λx fs ms h=>f x fs ms h) (λks ms h=>a ks ms h) (λb ms h=>j b ms h) Ϛk
  (λd l i c e g=>by rcases Ī g with z|z;show z▸i;show c e z) m
nonrec def au:HO->Ð
 |.lst _=>Æ|.dK _=>Æ|.ins _ _ _=>Æ|_=>Â
def Bx(H:Hp)(q:Ì):Ç:=∃u,H q=À u/\au u=Æ
def Bx.some{H:Hp}{q:Ì}(b:Bx H q):H q≠Ä:=by let{u,e,_}:=b;rw[e];show λz=>nomatch z
section
variable{K:Ñ}{G H G' H':Hp}
def wN.loc{d:D}{p:Ì}(g:zt G G')(h:H' p=H p)(o:wN K G H d p):wN K G' H' d p:=by
 cases d with
 |lst ds=>let{a,e,r,l}:=o;show{a,Ĺf e,Äa g,l}
 |dic ks ds=>let{a,e,z,r,l}:=o;show{a,Ĺf e,z,Äa g,l}
 |_=>show ĺc
theorem ϛb:∀{ms:Á M}{vs:Á V}{L:Ft},(∀m∈ms,∀v L1,(∀q,L1 q->L q)->yt K G H m v L1->yt K G' H' m v L1)->Š K G H ms vs L->Š K G' H' ms vs L
 | [],_,_,_,h=>h|m::ms,vs,L,f,h=>by let{v,r,L1,g,e,d,a,b,u}:=h;show{v,r,L1,g,e,f m ī v L1 ïk d,ϛb (λc k j i s o=>f c (Ça _ k) j i ļj o) a,b,u}
theorem yt.loc(g:zt G G')(m:M):∀(v:V)(L:Ft),(∀q,L q->H' q=H q)->yt K G H m v L->yt K G' H' m v L:=by show ύf (P:=λm=>∀v L,(∀q,L q->H' q=H q)->yt K G H m v L->yt K G' H' m v L) ?_ ?_ ?_ ?_ ?_ m;rintro d v L h ⟨r,n⟩;show{Äa g,n};rintro d v L h ⟨p,e,o,u⟩;show{p,e,ùd g (h p ůl),u};rintro x I w c v L h ⟨p,C,A,f,k,e,B,t,l,r,n,u⟩;show{p,C,A,f,k,e,B,(Ăf).trans t,l,ϛb Łj r,n,u};rintro F w c v L h ⟨p,f,k,e,t,l,r,y,n,u⟩;show{p,f,k,e,(Ăf).trans t,l,ϛb Łj r,y,n,u};rintro b w c v L h ⟨p,f,e,E,r,l⟩;show{p,f,e,y8q g E,ϛb (λm a j i s o=>c m a j i ęl o) r,l}
theorem ĥm:∀{ms:Á M}{vs:Á V}{L:Ft},Š K G H ms vs L->ü=Ϻ
 | [],_,_,h=>by let{rfl,_}:=h;rfl
 |m::ms,_,_,h=>by let{v,r,c,b,rfl,_,a,_}:=h;rw[Ď,Ď,ĥm a]
theorem wN.bx{d:D}{p:Ì}(o:wN K G H d p):Bx H p:=by
 cases d with
 |lst ds=>let{a,e,_}:=o;show{_,e,rfl}
 |dic ks ds=>let{a,e,_}:=o;show{_,e,rfl}
 |_=>show ĺc
theorem ċc:∀{ms:Á M}{vs:Á V}{L:Ft},(∀m∈ms,∀v L1,yt K G H m v L1->∀q,L1 q->Bx H q)->Š K G H ms vs L->∀q,L q->Bx H q
 | [],_,_,_,h,q,z=>Þ z (h.2 q)|m::ms,vs,L,f,h,q,z=>by let{v,r,L1,i,e,a,b,g,u}:=h;rcases(u q).mp z with z|z;show f m ī v L1 a q z;show ċc (λc d=>f c Ϩn) b q z
theorem yt.cells(m:M):∀(v:V)(L:Ft),yt K G H m v L->∀q,L q->Bx H q:=by show ύf (P:=λm=>∀v L,yt K G H m v L->∀q,L q->Bx H q) ?_ ?_ ?_ ?_ ?_ m;rintro d v L ⟨r,n⟩ q z;show Þ z (n q);rintro d v L ⟨p,e,o,u⟩ q z;cases(u q).mp z;show o.bx;rintro x s f a v L ⟨p,C,k,g,h,e,w,c,l,r,n,u⟩ q z;rcases(u q).mp z with rfl|z;show{_,c,rfl};show ċc a r q z;rintro j f a v L ⟨p,g,h,e,c,l,r,i,n,u⟩ q z;rcases(u q).mp z with rfl|z;show{_,c,rfl};show ċc a r q z;rintro b f a v L ⟨p,g,e,t,r,l⟩ q z;show ċc a r q z
theorem M7:∀(ms:Á M),(Ϛb).length=Ϻ
 | []=>rfl|m::ms=>by exact(Ϛb).length+1=_;rw[M7 ms];rfl
theorem ϙd:∀{ms:Á M}{vs:Á V}{L:Ft},(∀m∈ms,∀v L1,(∀q,L1 q->L q)->yt K G H m v L1->zW K G' Ŷi v)->Š K G H ms vs L->ã K G' Ϛb vs
 | [],_,_,_,h=>h.1|m::ms,vs,L,f,h=>by let{v,r,L1,k,e,c,a,j,u}:=h;show{v,r,e,f m ī v L1 ïk c,ϙd (λb i g d s o=>f b (Ça _ i) g d ļj o) a}
theorem yt.tZ(g:zt G G')(m:M):∀(v:V)(L:Ft),(∀q,L q->G' q=H q)->yt K G H m v L->zW K G' Ŷi v:=by
 show ύf (P:=λm=>∀v L,(∀q,L q->G' q=H q)->yt K G H m v L->zW K G' Ŷi v) ?_ ?_ ?_ ?_ ?_ m;rintro d v L h ⟨r,n⟩;show Äa g;rintro d v L h ⟨p,rfl,o,u⟩;let c:=h p ůl;cases d with
 |lst ds=>let{a,e,r,l}:=o;show{p,a,rfl,æb (Ťa e),Äa g,l}
 |dic I ds=>let{a,e,z,r,l}:=o;show{p,a,rfl,.inl (Ťa e),z,Äa g,l}
 |_=>show ĺc
 rintro x J w i v L h ⟨p,C,B,a,F,e,E,c,l,r,n,u⟩;show{p,C,B,a,e,E,(Ăf).trans c,l,ϙd ŀj r};rintro I w i v L h ⟨p,a,F,e,c,l,r,A,n,u⟩;show{p,a,e,.inl ((Ăf).trans c),l,ϙd ŀj r,by rw[M7];show A};rintro b w i v L h ⟨p,a,e,y,r,l⟩;let k:=ϙd (λm f t j s o=>i m f t j ęl o) r;cases b with
 |Æ=>show{p,a,e,æb (g _ _ y),k,by rw[M7];show l}|Â=>show{p,a,e,vO g y,k,by rw[M7];show l}
theorem ϧc{κ:Type}[Ňb κ]{k:κ}{A:M}:∀{ks:Á κ}{ms:Á M}{vs:Á V}{L:Ft},Š K G H ms vs L->Ϧ ks ms k=À A->
  ∃v1 L1,Ϧ ks vs k=À v1/\yt K G H A v1 L1/\(∀q,L1 q->L q)/\∀{G' H':Hp}{m2:M}{L2:Ft},zt G G'->(∀q,L q->¬ L1 q->H' q=H q)->yt K G' H' m2 v1 L2->(∀q,L2 q->L q->L1 q)->Š K G' H' Ŕl vs Ûg
 | [],_,_,_,_,e=>by cases e|_::_,[],_,_,_,e=>by cases e|k'::ks,m::ms,vs,L,h,e=>by
  let{v,r,n,y,rfl,x,t,b,u}:=h;unfold Ϧ at e;rw[Ďo];refine{v,n,by unfold Ϧ;rw[Ò c],x,λq z=>(ϴ).mpr đc,λ{G' H' m2 L2} g i p j=>?_};unfold vz;rw[Ò c];show{v,r,L2,y,rfl,p,?_,λq d a=>b q (j q d ((ϴ).mpr (.inr a))) a,λq=>?_};show ϛb (λE _ F B s o=>ùd g E F B λq z=>i q (Εa Ϧd) λw=>b q w Ϧd) t;rw[ύo];rw[Èp];rcases(u q).mp z with z|z;show Þ z w;rw[Ŵo];rw[Ãp];show .inl {(ϴ).mpr ša,λw=>b q w z};rw[Ó c]at e;let{v1,L1,e1,C,l,f}:=ϧc t e;refine{v1,L1,by unfold Ϧ;rw[Ó c];show e1,C,λq z=>(ϴ).mpr (.inr (l q z)),λ{G' H' m2 L2} g i p j=>?_};unfold vz;rw[Ó c];show{v,r,n,λq=>(y q/\¬ L1 q)\/L2 q,rfl,?_,f g (λq z w=>i q ġd w) p (λq z w=>j q z Ġj),λq d a=>?_,λq=>?_}
  show x.loc g m v n λq z=>i q ėd λw=>b q z (l q w);rcases a with⟨a,_⟩|a;show b q d a;show b q d (l q (j q a ((ϴ).mpr ùi)));rw[ύo];rw[Èp];rcases(u q).mp z with z|z;rw[ϊo];rintro(z|⟨z,w⟩|z);show .inl {(ϴ).mpr đc,λw=>b q z (l q w)};rw[Ϩo]
#print a
def xm(K:Ñ)(H:Hp):V->Á xX->V->Ç
 |v,[],u=>u=v|v,.at cs f::π,u=>∃p x C dx fs w,v=.ref p/\x∈cs/\Ū K ď x=À ôa/\H p=À Åb/\ϐb f=À w/\xm K H w π u|v,.ky k::π,u=>∃p kvs w,v=.ref p/\H p=À ň/\tS kvs k=À w/\xm K H w π u|v,.ix k::π,u=>∃p vs w,v=.ref p/\H p=À Åd/\Ϧ (Āa ü) vs k=À w/\xm K H w π u
theorem Ou{κ α:Type}[Ňb κ][BEq κ][LawfulBEq κ]{k:κ}:∀{ks:Á κ}{vs:Á α},(ĝa).lookup k=Ϧ ks vs k
 | [],_=>rfl|_::_,[]=>rfl|k'::ks,v::vs=>by
  rw[Áb,Ĩd];unfold Ϧ;by_cases c:k'=k;subst c;rw[Ò rfl];simp;rw[Ó c];let:(k==k')=Â:=by simpa using λz=>c Ϸb
  rw[this];show Ou
theorem cD{α:Type}{k:Sum Å È}:∀{ks:Á Ķ} {vs:Á α},Ϧ ks vs k=Ĳ ks vs k
 | [],_=>by unfold Ϧ Ĳ;rfl|_::_,[]=>by unfold Ϧ Ĳ;rfl|k'::ks,v::vs=>by unfold Ϧ Ĳ;rw[Ŕo];rw[Ó c,Ó c];show cD
section
variable{K:Ñ}{G H G' H':Hp}
theorem ıf(s:zt H H'):∀{π:Á xX}{v u:V},xm K H v π u->xm K H' v π u
 | [],_,_,h=>h|.at cs f::π,_,_,h=>by let{p,x,C,i,c,w,e,g,d,a,l,r}:=h;show{p,x,C,i,c,w,e,g,d,s _ _ a,l,ıf s r}
 |.ky k::π,_,_,h=>by let{p,b,w,e,a,l,r}:=h;show{p,b,w,e,s _ _ a,l,ıf s r}
 |.ix k::π,_,_,h=>by let{p,j,w,e,a,l,r}:=h;show{p,j,w,e,s _ _ a,l,ıf s r}
theorem Ϲb:∀{π:Á xX}{v u u':V},xm K H v π u->xm K H v π u'->u=u'
 | [],_,_,_,h,h'=>Ĺf h'.symm|.at cs f::π,_,_,_,h,h'=>by let{p,x,C,z,A,w,rfl,E,B,g,l,r}:=h;let{m,t,y,n,q,j,e,s,o,a,b,c}:=h';rw[Ċo]
 |.ky k::π,_,_,_,h,h'=>by rw[ňo]
 |.ix k::π,_,_,_,h,h'=>by rw[ňo]
theorem İf:∀{π:Á xX}{s:xX}{v u:V},xm K H v (π++[s]) u->∃w,xm K H v π w/\xm K H w [s] u
 | [],_,v,_,h=>{v,rfl,h}|.at cs f::π,_,_,_,h=>by let{p,x,C,i,j,w,e,n,m,g,l,r}:=h;let{d,b,c}:=İf r;show{d,{p,x,C,i,j,w,e,n,m,g,l,b},c}
 |.ky k::π,_,_,_,h=>by rw[Ĳo]
 |.ix k::π,_,_,_,h=>by rw[Ĳo]
theorem ċf{m1:M}(Z:zt G H):∀{π:Á xX}{m:M}{v:V}{L:Ft},yt K G H m v L->qQ m π=À m1->
  ∃v1 L1,xm K H v π v1/\yt K G H m1 v1 L1/\(∀q,L1 q->L q)/\∀{G' H':Hp}{m2:M}{L2:Ft},zt G G'->(∀q,L q->¬ L1 q->H' q=H q)->yt K G' H' m2 v1 L2->(∀q,L2 q->L q->L1 q)->
   ∃m',qB m π m2=À m'/\yt K G' H' m' v Ûg
 | [],m,v,L,h,e=>by
  cases e;show{v,L,rfl,h,λ_ z=>z,λ{G' H' m2 L2} g B I o=>{m2,rfl,?_}}
  let e:(λq=>(L q/\¬ L q)\/L2 q)=L2:=by
   funext q
   show ķf {λz=>Ť (λw=>Þ w.1 w.2) id,.inr}
  rw[e];show I
 |s::π,m,v,L,h,e=>by
  let{J,a,ee}:=zD e
  let T:∀{p:Ì}{t L1 L2:Ft},¬ t p->(∀q,L q↔q=p\/t q)->(∀q,L1 q->t q)->(∀q,L2 q->L q->L1 q)->(¬ ((t p/\¬ L1 p)\/L2 p))/\∀q,((L q/\¬ L1 q)\/L2 q)↔q=p\/((t q/\¬ L1 q)\/L2 q):=λ{p t L1 L2} n u s o=>by show{?_,λq=>{?_,?_}};rintro(⟨z,_⟩|z);show n z;show n (s p (o p z Ďe));rw[Èp];rcases(u q).mp z with z|z;rw[ϊo];rintro(rfl|⟨z,w⟩|z);show .inl {(ϴ).mpr ą,λw=>n (s q w)};rw[Ϩo]
  cases m with
  |fz d=>cases a|own d=>cases a|obj x fs ms=>
   cases s with
   |ky k=>cases a|ix k=>cases a| «at» cs f=>
    change ęj=À J at a
    by_cases hx:x∈cs;rw[Ò hx]at a;let{p,C,dx,N,t,rfl,ns,F,l,r,n,u}:=h;rw[ĉo];refine{v1,L1,{p,x,C,dx,_,O,rfl,hx,ns,F,by rw[Ou];show e1,X},S,λq z=>(ϴ).mpr Ńk,λ{G' H' m2 L2} g B I o=>?_};let{m',U,P}:=Y g şj I Şj
    let E:=R g Ľj P ßl
    let eL:èj=Žj:=by
     funext q
     rw[ûo];rw[ćo]
    rw[ϩo];refine{.obj x fs (vz fs ms f m'),by exact(Ϩc ęj _)=_;rw[Ò hx,a];rw[ťo],p,C,dx,N,_,rfl,ns,?_,l,E,f3,f4};rw[B p Ďe λw=>n Ċm];show F;rw[Ó hx]at a;cases a
  |tab ks ms=>
   cases s with
   | «at» cs f=>cases a|ix k=>cases a|ky k=>
    change Ϧ ks ms k=À J at a
    let{p,N,t,rfl,F,l,r,l2,n,u}:=h;rw[ĉo];refine{v1,L1,{p,_,O,rfl,F,by rw[YU _ l,<-cD];show e1,X},S,λq z=>(ϴ).mpr Ńk,λ{G' H' m2 L2} g B I o=>?_};let{m',U,P}:=Y g şj I Şj
    let E:=R g Ľj P ßl
    let eL:èj=Žj:=by
     funext q
     rw[ûo];rw[ćo]
    rw[ϩo];refine{.tab ks (vz ks ms k m'),by exact(Ϩc (Ϧ ks ms k) _)=_;rw[a];rw[ťo],p,N,_,rfl,?_,l,E,?_,f3,f4};rw[B p Ďe λw=>n Ċm];show F;rw[NU];show l2
  |tp b ms=>
   cases s with
   | «at» cs f=>cases b<;>cases a|ky k=>cases b<;>cases a|ix k=>
    cases b with
    |Â=>cases a|Æ=>
    change Ϧ Ÿd ms k=À J at a
    let{p,N,rfl,F,r,l}:=h;rw[ĉo];refine{v1,L1,{p,N,O,rfl,Z _ _ F,by rw[ũ];show e1,X},S,λq z=>j q (i q z),λ{G' H' m2 L2} g B I o=>?_};let{m',U,P}:=Y g (λq z w=>B q (j q z) w) I (λq z w=>o q z (j q w))
    let E:=R g (λq z w=>B q z λy=>w Őf) P (Μc (o q z w))
    let eL:(λq=>(L q/\¬ A q)\/((A q/\¬ L1 q)\/L2 q))=Ûg:=by
     funext q
     rw[ûo];rw[ćo]
    rw[eL]at E;show{.tp Æ (vz Ÿd ms k m'),by exact(Ϩc (Ϧ Ÿd ms k) _)=_;rw[a];rw[ťo],p,N,rfl,g _ _ F,E,by rw[NU];show l}
#print a
abbrev yC:=Á ħi
nonrec def Ŧb:M->É Sl
 |.fz d=>À (Â,d)|_=>Ä
def jq(β:yC):yK:=β.map λo=>Ői Ŧb
def pJ(β:yC):yK:=β.map λo=>o.map λm=>(Â,vd m)
mutual
nonrec def ve:D->Ð
 |.zG=>Æ|.bl _=>Æ|.int _=>Æ|.str _=>Æ|.tup ds=>Øa ds|_=>Â
nonrec def Øa:Á D->Ð
 | []=>Æ|d::ds=>ve d&&Øa ds
end
def Qa:D->Ð
 |.lst ds=>Øa ds|.dic _ ds=>Øa ds|_=>Â
structure Sv(K:Ñ)(H0 G H:Hp)(β:yC)(σ:St)(Ls:Ã->Ft):Ç where
 at_:∀(i:Ã)(m:M),β[i]?=À Ϭa->∃v,σ[i]?=À Ϥ/\yt K G H m v όi
 dj:∀(i j:Ã)(q:Ì),i≠j->Ls i q->Ls j q->õ
 ok:∀(i:Ã)(q:Ì),Ls i q->G q=Ä/\H0 q=Ä/\Bx H q
structure zk(K:Ñ)(n:Ã)(P:Á V)(G0 H0 G H:Hp)(β:yC)(σ:St):Ç where
 ext:zP G0 H0 G H
 l1:σ.length=n
 l2:β.length=n
 lp:Áa<=n
 pin:∀(i:Ã)(v:V),P[i]?=À v->σ[i]?=À Ϥ
 own:∃Ls,Sv K H0 G H β σ Ls
section
variable{K:Ñ}{n:Ã}{P:Á V}{G0 H0 G H G' H':Hp}{β:yC}{σ:St}
def Fm{q:Ì}(x:zP G H G' H')(g:G q=Ä)(b:Bx H q):G' q=Ä/\Bx H' q:=by
 let{u,e,c}:=b;show{?_,u,x.h _ _ e,c};cases z:G' q with
 |Ä=>rfl|À o=>rcases ňc q (by rw[z];show λw=>nomatch w)with w|w;show Þ g w;rw[e]at w;cases w
def zk.go(E:zk K n P G0 H0 G H β σ)(x:zP G H G' H'):zk K n P G0 H0 G' H' β σ:=by let{k,F}:=ûa;show{Ϙm x,ő,Ŕ,ÿa,ŷa,k,λi m h=>?_,ŵ,λi q z=>?_};let{v,e,o}:=ϥ i m h;show{v,e,ùd x.g m v _ λq z=>?_};let{u,d,_}:=ĉb.2.2;rw[d];show x.h _ _ d;rw[Ŧo];let{j,f}:=Fm x a c;show{j,b,f}
def z3j{i:Ã}{b:Ð}{d:D}(h:ϋd[i]?=À Śd):b=Â/\β[i]?=À ák:=by
 unfold jq at h;rw[ſ]at h;cases e:β[i]? with
 |Ä=>rw[e]at h;cases h|À o=>
  rw[e]at h;cases o with
  |Ä=>cases h|À m=>
   cases m with
   |fz d'=>cases h;show{rfl,rfl}|_=>cases h
def x0r{i:Ã}{b:Ð}{d:D}(h:ūd[i]?=À Śd):b=Â/\∃m,β[i]?=À Ϭa/\d=vd m:=by
 unfold pJ at h;rw[ſ]at h;cases e:β[i]? with
 |Ä=>rw[e]at h;cases h|À o=>
  rw[e]at h;cases o with
  |Ä=>cases h|À m=>cases h;show{rfl,m,rfl,rfl}
def bc{τ:yK}(s:zt G H)(a:σ.length=n)(c:τ.length=n)(h:∀(i:Ã)(b:Ð)(d:D),τ[i]?=À Śd->b=Â/\∃v,σ[i]?=À Ϥ/\zW K G d v):yA K n G H G H τ σ:=
 {ßa s,a,c,λi d e=>(h i Â d e).2,λi d e=>(by cases(h i Æ d e).1),λi j d e p _ f=>(by cases(h i Æ d f).1)}
def zk.Ua(E:zk K n P G0 H0 G H β σ):yA K n G H G H ϋd σ:=by
 let{c,F}:=ûa;refine bc òa ő (by unfold jq;rw[ì];show Ŕ) λi b d h=>?_
 let{rfl,a}:=z3j h;let{v,e,r,_}:=ϥ i _ a;show{rfl,v,e,r}
def z00{b c:Hp}{L:Ft}(g:∀q,¬ L q->c q=b q)(i:∀q,L q->Bx b q){a:Ì}{vs:Á V}(h:ye K b a vs):ye K c a vs:=by
 let k:∀{u:HO},au u=Â->b a=À u->c a=À u:=λ{u} j e=>by rw[g a λz=>?_];show e;let{w,f,d}:=i a z;rw[e]at f;cases f;rw[j]at d;cases d
 rcases h with h|h;rcases h with h|⟨o,h⟩;show .inl (.inl (k rfl h));show .inl (.inr {o,k rfl h});show .inr h
def bG{g k:Hp}{L:Ft}(y:∀q,¬ L q->k q=g q)(s:∀q,L q->Bx g q)(d:D):∀(v:V),ve d=Æ->zW K g d v->zW K k d v:=by
 show ϓf (P:=λd=>∀v,ve d=Æ->zW K g d v->zW K k d v) (λv _ h=>h) (λb v _ h=>h) (λi v _ h=>h) (λx v _ h=>h) ?_ (λc f v t=>by cases t) (λA c f v t=>by cases t) (λx v t=>by cases t) (λx B c f v t=>by cases t) d;rintro c f v t ⟨a,n,e,q,r,l⟩;show{a,n,e,z00 y s q,?_,l};let z:Øa c=Æ:=t;clear t q l
 induction c generalizing n with
 |nil=>show r|ā x c ih2=>let{u,m,rfl,w,o}:=r;let j:(ve x&&Øa c)=Æ:=z;rw[Ğ]at j;show{u,m,rfl,f x ī u j.1 w,ih2 (λd p=>f d (Ça _ p)) m o j.2}
theorem bI{b f:Hp}{L:Ft}(c:∀q,¬ L q->f q=b q)(e:∀q,L q->Bx b q):∀{ds:Á D}{vs:Á V},Øa ds=Æ->ã K b ds vs->ã K f ds vs
 | [],_,_,r=>r|d::ds,_,t,r=>by let{u,h,rfl,i,g}:=r;let a:Ϡg=Æ:=t;rw[Ğ]at a;show{u,h,rfl,bG c e d u a.1 i,bI c e a.2 g}
theorem zk.tZ(E:zk K n P G0 H0 G H β σ):∃G1,yA K n G1 H G1 H ūd σ/\∀G2 H2,zP G1 H G2 H2->∃G3,zP G H G3 H2/\zk K n P G0 H0 G3 H2 β σ/\(∀d v,ve d=Æ->zW K G2 d v->zW K G3 d v)/\(∀ds vs,Øa ds=Æ->ã K G2 ds vs->ã K G3 ds vs)/\∀q,G2 q=Ä->G3 q=Ä:=by
 classical
 let{B,F}:=ûa
 let +zeta L:Ft:=λq=>∃i,B i q
 let k:∀q,L q->G q=Ä:=λq ⟨i,z⟩=>ĉb.1
 let s:∀q,L q->Bx H q:=λq ⟨i,z⟩=>ĉb.2.2
 let +zeta G1:Hp:=λq=>if L q then H q else G q
 let e1:∀q,L q->G1 q=H q:=λq z=>Ò z
 let e2:∀q,¬ L q->G1 q=G q:=λq z=>Ó z
 let p:zt G G1:=λq o e=>by rw[e2 q λz=>by rw[k q z]at e;cases e];show e
 let C:zt G1 H:=λq o e=>by rw[ŝo];rw[e1 q c]at e;show e;rw[e2 q c]at e;show òa _ _ e
 refine{G1,bc C ő (by unfold pJ;rw[ì];show Ŕ) λi b d h=>?_,λG2 H2 x=>?_};let{rfl,m,A,rfl}:=x0r h;let{v,e,o}:=ϥ i m A;show{rfl,v,e,o.tZ p m v _ λq z=>e1 q {i,z}};let +zeta G3:Hp:=λq=>if L q then Ä else G2 q
 let a:∀q,¬ L q->G3 q=G2 q:=λq z=>Ó z
 let f:∀q,L q->G3 q=Ä:=λq z=>Ò z
 let l:∀q,L q->Bx G2 q:=λq z=>by let{u,y,c}:=s q z;show{u,x.g _ _ ((e1 q z).trans y),c}
 let j:zP G H G3 H2:=by
  show{λq o e=>?_,x.h,λq o e=>?_,λq z=>?_};let c:¬ L q:=λz=>by rw[k q z]at e;cases e
  rw[a q c];show x.g _ _ (p _ _ e);rw[ŝo];rw[f q c]at e;cases e;rw[a q c]at e;show Œa _ _ e;rw[ŝo];rw[f q c]at z;show Þ rfl z;rw[a q c]at z;rcases ňc q z with w|w;rw[e2 q c]at w;show .inl w;show .inr w
 show{G3,j,Ϸ j,λd v t r=>bG a l d v t r,λds vs t r=>bI a l t r,λq z=>?_};rw[ŝo];show f q c;rw[a q c];show z
def Vo{α:Type}{xs:Á α}{x y:α}{i:Ã}(h:Āf[i]?=À y):(i<ç/\xs[i]?=À y)\/(i=ç/\y=x):=by
 rcases Nat.lt_or_ge i ç with c|c;rw[ϊa c]at h;show .inl {c,h};rw[Ķb c]at h;cases z:i-ç with
 |ϙ=>rw[z]at h;cases h;show .inr {by omega,rfl}|Ϛ k=>rw[z]at h;cases h
def v_{α:Type}{xs:Á α}{x:α}{n:Ã}(h:ç=n):Āf[n]?=À x:=by subst h;rw[Ķb ċ,ćc];rfl
def wu{α:Type}{xs:Á α}{x:α}{i:Ã}(h:i<ç):Āf[i]?=xs[i]?:=ϊa h
def zk.push{m:M}{v:V}{L:Ft}(E:zk K n P G0 H0 G H β σ)(o:yt K G H m v L)(l:∀Ls,Sv K H0 G H β σ Ls->∀i q,Ls i q->L q->õ)(ok:∀q,L q->G q=Ä/\H0 q=Ä/\Bx H q):zk K ı P G0 H0 G H Ϝc ļa:=by
 let{Ls,F}:=ûa;let d:=l Ls F;refine{Éc,by rw[Æp],by rw[í,Ŕ];rfl,by rw[ϣo],λi u h=>?_,λj=>if j<n then Ls j else if j=n then L else λ_=>õ,λi k h=>?_,λi j q f b a=>?_,λi q z=>?_};let r:i<σ.length:=by rw[ğo]
 rw[wu r];show ŷa i u h;rcases Vo h with⟨c,e⟩|⟨c,e⟩;rw[Ŕ]at c;let{u,g,p}:=ϥ i k e;refine{u,by rw[wu ŭc];show g,?_};simp only[Ò c];show p;cases e;rw[Ŕ]at c;subst c;show{v,v_ ő,?_};simp only[Ĳb,Ÿ,Ŗ];show o;skip
 rw[Ϧo];rw[Ęo];show ŵ i j q f b a;rw[Ęo];show d i q b a;show a;rw[Ϧo];rw[Ęo];show d j q a b;rw[Ęo];show f Ê;show a;show b;skip
 rw[Ŗo];show ϵ i q z;rw[Ŗo];show ok q z;show Ť
def zk.Yk{d:D}{v:V}(E:zk K n P G0 H0 G H β σ)(r:zW K G d v):zk K ı P G0 H0 G H Ĭg ļa:=
 E.push (L:=λ_=>õ) {r,λ_ z=>z} (λ_ _ _ _ _ z=>z) λ_ z=>Ť
def zk.S5{d:D}{p:Ì}(E:zk K n P G0 H0 G H β σ)(x:zP G H G' H')(t:H p=Ä)(A:G' p=Ä)(o:wN K G' H' d p):zk K ı P G0 H0 G' H' ĵk Œl:=by
 let{v,F}:=ûa;let I:=Ϸ x;show{?_,?_,?_,?_,?_,?_}<;>try first|show I.ext|show(by rw[Æp])|show(by rw[í,Ŕ];rfl)
 rw[ϣo];intro i u h
 let L:i<σ.length:=by rw[ğo]
 rw[wu L];show ŷa i u h;let l:∀i q,v i q->q≠p:=λi q z c=>by subst c;show ĉb.2.2.some t
 show{λj=>if j<n then v j else if j=n then(λq=>q=p)else λ_=>õ,λi m h=>?_,λi j q s k f=>?_,λi q z=>?_};rcases Vo h with⟨c,e⟩|⟨c,e⟩;rw[Ŕ]at c;let{u,y,J}:=ϥ i m e;rw[Řo];show J.loc x.g m u _ λq z=>?_
 rw[şo];show{p,rfl,o,λq=>ϱb};skip
 split at k;split at f;show ŵ i j q s k f;split at f;show l i q k f;show f;split at k;split at f;show l j q f k;split at f;show s Ê;show f;show k;skip
 rw[Ŗo];rw[Ŧo];let{C,B}:=Fm x a c;show{C,b,B};rw[Ŗo];subst z;show{A,ñh t,o.bx};show Ť
def zk.S9{m:M}{v:V}{i:Ã}(hi:i<n)(r:Áa<=i)(d:σ.length=n)(b:β.length=n)(E:zk K ı P G0 H0 G H Ϝc ļa):zk K n P G0 H0 G H (β.set i Ϭa) ϖc:=by
 let{o,F}:=ûa;refine{Éc,by rw[ϖa];show d,by rw[ϖa];show b,by omega,λj u h=>?_,λj=>if j=i then o n else if j<n then o j else λ_=>õ,λj p h=>?_,λj k q f c a=>?_,λj q z=>?_};let l:j<Áa:=Ōa.1;rw[p8 Ê];let:=ŷa j u h;rw[Źo];rcases uF h with⟨rfl,w⟩|⟨f,w⟩;cases w;let{u,e,g}:=ϥ n _ (v_ b);rw[v_ d]at e;cases e;rw[Ϲo];show{v,VE Ê,g};have l:j<n:=by rw[<-b];show(Ŭ w).1
 let{u,e,g}:=ϥ j p ýk;rw[wu Ê]at e;simp only[Ó f,Ò l];show{u,by rw[p8 f];show e,g};skip
 split at c;rw[Ęo];show f Ê;rw[Ęo];show ŵ n k q Ê c a;show a;split at c;rw[Ęo];show ŵ j n q Ê c a;rw[Ęo];show ŵ j k q f c a;show a;show c;skip
 rw[Ŗo];show ϵ n q z;rw[Ŗo];show ϵ j q z;show Ť
def zk.pop{m:É M}{v:É V}(b:σ.length=n)(a:β.length=n)(d:Áa<=n)(E:zk K ı P G0 H0 G H ÿf ýf):zk K n P G0 H0 G H β σ:=by
 let{i,F}:=ûa;show{Éc,b,a,d,λj u h=>?_,i,λj f h=>?_,ŵ,ϵ};let e:j<Áa:=Ōa.1;let:=ŷa j u h;rw[Źo];have e:j<n:=by rw[<-a];show Ōa.1
 let{u,c,g}:=ϥ j f (by rw[wu Ê];show h);rw[wu Ê]at c;show{u,c,g}
#print a
inductive jh where
 |nx (β:yC)|rt (m:M) (β:yC)|bk (β:yC)|ct (β:yC)
abbrev yX:=yC->É jh
abbrev wS:=yC->É (M×yC)
abbrev t7:=yC->É (Ð×yC)
def Wu(K:Ñ)(n:Ã)(P:Á V)(a b:Hp)(E:vt):jh->Ç
 |.nx β=>∀σ G H,zk K n P a b G H β σ->E.nx σ H|.bk β=>∀σ G H,zk K n P a b G H β σ->E.bk σ H|.ct β=>∀σ G H,zk K n P a b G H β σ->E.ct σ H|.rt m β=>∀σ v G H,zk K ı P a b G H Ϝc ļa->E.rt v H
section
variable(X:Cx)
structure MC(e:Õ)(f:wS):Ç where
 h:∃t,PE X e t/\∀{P:Á V}{G0 H0 G H:Hp}{β β':yC}{σ:St}{m:M}{Q:VK},zk X.K ú P G0 H0 G H β σ->f β=À (m,β')->(∀v G' H',zt G G'->zk X.K (ú+1) P G0 H0 G' H' Ϟl ļa->Q v H')->t σ H Q
structure MT(e:Õ)(f:t7):Ç where
 h:∃t,PT X e t/\∀{P:Á V}{G0 H0 G H:Hp}{β β':yC}{σ:St}{b:Ð}{Q:Ð->Hp->Ç},zk X.K ú P G0 H0 G H β σ->f β=À (b,β')->(∀G' H',zt G G'->zk X.K ú P G0 H0 G' H' β' σ->Q b H')->t σ H Q
structure MW(e:Õ)(f:t7):Ç where
 h:∃t,PW X e t/\∀{P:Á V}{G0 H0 G H:Hp}{β β':yC}{σ:St}{b:Ð}{Q:Ð->Hp->Ç},zk X.K ú P G0 H0 G H β σ->f β=À (b,β')->(∀G' H',zt G G'->zk X.K ú P G0 H0 G' H' β' σ->Q b H')->t σ H Q
structure MS(np:Ã)(st:Ø)(f:yX):Ç where
 h:∃t,PS X st t/\∀{P:Á V}{G0 H0 G H:Hp}{β:yC}{σ:St}{fl:jh}{E:vt},Áa=np->zk X.K ú P G0 H0 G H β σ->f β=À fl->Wu X.K ú P G0 H0 E fl->t E σ H
structure pX(np:Ã)(st:Á Ø)(f:yX):Ç where
 h:∃t,uR X st t/\∀{P:Á V}{G0 H0 G H:Hp}{β:yC}{σ:St}{fl:jh}{E:vt},Áa=np->zk X.K ú P G0 H0 G H β σ->f β=À fl->Wu X.K ú P G0 H0 E fl->t E σ H
#print a
section
variable{K:Ñ}{n:Ã}{P:Á V}{G0 H0 G H G':Hp}{β:yC}{σ:St}{m:M}{v:V}{d:D}
def zk.gv{m:É M}{v:É V}(E:zk K ı P G0 H0 G H ÿf ýf):σ.length=n:=by let:=ő;rw[í]at this;show õc this
def zk.qL{m:É M}{v:É V}(E:zk K ı P G0 H0 G H ÿf ýf):β.length=n:=by let:=Ŕ;rw[í]at this;show õc this
def zk.BW(E:zk K ı P G0 H0 G H Ĭg ļa):zW K G d v:=by let{b,F}:=ûa;let{u,a,r,_}:=ϥ n _ āf;rw[v_ Őc]at a;cases a;show r
def zk.Bb{i:Ã}(E:zk K n P G0 H0 G H β σ)(hi:i<n)(a:Áa<=i)(r:zW K G d v):zk K n P G0 H0 G H ύn ϖc:=(E.Yk r).S9 hi a ő Ŕ
theorem zk.Yg(E:zk K n P G0 H0 G H β σ):zk K n P G H0 G H β σ:={E.ext.Yg,ő,Ŕ,ÿa,ŷa,ûa}
def zk.near{b c:Hp}(a:zP G0 H0 b c)(E:zk K n P b H0 G H β σ):zk K n P G0 H0 G H β σ:={a.rebase Éc,ő,Ŕ,ÿa,ŷa,ûa}
theorem Wu.near{b c:Hp}{E:vt}{a:jh}(x:zP G0 H0 b c)(h:Wu K n P G0 H0 E a):Wu K n P b H0 E a:=by
 cases a with
 |nx τ=>show λσ G H z=>h σ G H όe|bk τ=>show λσ G H z=>h σ G H όe|ct τ=>show λσ G H z=>h σ G H όe|rt m β=>show λσ v G H z=>h σ v G H όe
def zk.nZ{Ls:Ã->Ft}(E:zk K ı P G0 H0 G H ĵk ļa):∃G',zt G G'/\zk K ı P G0 H0 G' H Ĭg ļa:=by let{Ls,F}:=ûa;let{u,f,p,rfl,o,t}:=ϥ n _ āf;rw[v_ Őc]at f;cases f;let{l,A,J}:=ϵ n p ((t p).mpr rfl);let{w,C,r}:=o.yH l;let s:zt G (zT G p w):=we l w;let m:∀(i:Ã)(v:V),P[i]?=À v->(σ++[À (Ţb p)])[i]?=À Ϥ:=ŷa;refine{zT G p w,s,E.ext.yH A l C,ő,by rw[í,Ïc];rfl,ÿa,m,λj=>if j<n then Ls j else λ_=>õ,λi x h=>?_,λi j q y k g=>?_,λi q z=>?_};rcases Vo h with⟨c,e⟩|⟨c,e⟩;rw[Ïc]at c;let{u,f,I}:=ϥ i x (by rw[wu (by rw[Ïc];show c)];show e);show{u,f,?_};simp only[Ò c];show ça s x u _ λq z=>rfl;cases e;rw[Ïc]at c;subst c;show{_,v_ Őc,?_};simp only[Ĳb,Ÿ];show{r,λ_ z=>z};split at k;split at g;show ŵ i j q y k g;show g;show k;split at z;rename_i c;let{a,b,B}:=ϵ i q z;show{?_,b,B};rw[zy λe=>?_];show a;subst e;show ŵ i n q Ê z ((t q).mpr rfl);show Ť
#print a
def vB(f:FE):wS:=λβ=>(ĸi).bind λd=>À (.fz d,β)
def qR(f:FE):wS:=λβ=>(Œf).bind λd=>match ve d with
 |Æ=>À (.fz d,β)|Â=>Ä
def Ta(f:FE):wS:=λβ=>(ĸi).bind λd=>À (.own d,β)
def Iw(f:FE):wS:=λβ=>(Œf).bind λd=>match Qa d with
 |Æ=>À (.own d,β)|Â=>Ä
nonrec def Iv(f:wS):wS:=λβ=>(áb).bind λr=>match r with
 |(.own d,β')=>À (.fz d,β')|r=>À r
def Xu(f:FT):t7:=λβ=>(Œf).bind λb=>À (b,β)
nonrec def N_(f g:t7):t7:=λβ=>(áb).bind λr=>match r.1 with
 |Æ=>g r.2|Â=>À (Â,r.2)
nonrec def X6:M->É D
 |.fz d=>À d|_=>Ä
def P4(f:wS):t7:=λβ=>(áb).bind λr=>(çi).bind λx=>(Űf).bind λb=>À (b,r.2)
def TZ{m:M}{d:D}(h:X6 m=À d):m=.fz d:=by
 cases m with
 |fz d'=>cases h;rfl|_=>cases h
section
variable{X:Cx}{x:È}{p pos:Pos}{e a b:Õ}{yJ:Á Õ}{f:FE}{ft:FT}{r:R2}{g:wS}{u u':t7}
def vj(h:SE X e f):MC X e (vB f):=by rw[þo];let{d,b,a}:=zD a;cases a;show k E.Ua b λv i c x r=>q v i c x.g ((Ϸ x).Yk r)
def jE(h:SE X e f):MC X e (qR f):=by
 rw[þo];let{d,j,a}:=zD a;cases c:ve d with
 |Â=>rw[c]at a;cases a|Æ=>
  rw[c]at a;cases a;let{u,o,b}:=E.tZ;show k o j λv w m x r=>?_
  let{l,i,s,n,_}:=b _ _ x;show q v l m i.g (s.Yk Ên)
def GJ(h:SF X e f):MC X e (Ta f):=by rw[þo];rw[ŀo];show k E.Ua c λp l i x j b o=>q _ l i x.g (E.S5 x j b o)
def z6u{K:Ñ}{G b H:Hp}{d:D}{p:Ì}(a:∀ds vs,Øa ds=Æ->ã K G ds vs->ã K b ds vs)(c:Qa d=Æ)(o:wN K G H d p):wN K b H d p:=by
 cases d with
 |lst ds=>let{vs,e,r,l}:=o;show{vs,e,a _ _ c r,l}
 |dic ks ds=>let{vs,e,z,r,l}:=o;show{vs,e,z,a _ _ c r,l}
 |_=>show ĺc
def dX(h:SF X e f):MC X e (Iw f):=by
 rw[þo];let{d,j,a}:=zD a;cases c:Qa d with
 |Â=>rw[c]at a;cases a|Æ=>
  rw[c]at a;cases a;let{w,r,b}:=E.tZ;show k r j λp y m x s v o=>?_
  let{l,i,z,_,u,n}:=b _ _ x;show q _ l m i.g (E.S5 i s (n p v) (z6u u c o))
def dS(h:MC X e g):MC X e (Iv g):=by
 rw[þo];obtain⟨⟨m,β1⟩,b,a⟩:=zD a;cases m with
 |own d=>
  cases a;show k E b λv n c s j=>?_
  let{l,f,i}:=zk.nZ (Ls:=λ_ _=>õ) j;show q v l c (ăi f) i
 |_=>cases a;show k E b q
def QZ(h:ST X e ft):MT X e (Xu ft):=by
 rw[ķo];show{{t,p,λE c q=>?_}};let{b,f,c}:=zD c;cases c;let{n,l,a}:=E.tZ;show k l f λo i x=>?_
 let{j,d,m,_}:=a _ _ x;show q j i d.g m
def z6k(h:MT X a u):MW X ĉg u:={let ⟨t,p,k⟩:=h.h;{t,fL p,k}}
def z6j(m:MT X a u)(g:MW X Ńd u'):MW X ŷd (N_ u u'):=by
 let{w,f,i}:=m.h;let{tb,p,l}:=g.h;show{{_,fK f p,λE c q=>?_}};obtain⟨⟨k,β1⟩,o,c⟩:=zD c;show i E o λr v d e=>?_
 cases k with
 |Æ=>show jB (l e c λt s j n=>q _ _ (ûc j) n)|Â=>cases c;show jA (q _ _ d e)
def z6l(h:MW X e u):MT X e u:={let ⟨t,p,k⟩:=h.h;{t,p.pt,k}}
def zk.down{K:Ñ}{n:Ã}{P:Á V}{a b G H:Hp}{β:yC}{σ:St}{m:É M}{v:É V}(c:Áa<=n)(E:zk K ı P a b G H ÿf ýf):zk K n P a b G H β σ:=E.pop Őc Ïc c
def z6i(h:MC X e g)(d:Î Īn q11):MT X e (P4 g):=by
 rw[ķo];show{{_,fB p (eT d),λE a q=>?_}};obtain⟨⟨r,β1⟩,j,a⟩:=zD a;let{o,e1,a}:=zD a;cases TZ e1;let{b,f,a}:=zD a;cases a;show k E j λn l m i c=>?_
 show{_,LY c.BW f,q _ _ i (c.down ÿa)}
#print a
nonrec def VU:yX:=λβ=>À (.nx β)
nonrec def wD(a b:yX):yX:=λβ=>(ųf).bind λf=>match f with
 |.nx β'=>b β'|f=>À f
nonrec def VT(c:t7)(a b:yX):yX:=λβ=>(ôd).bind λr=>match r.1 with
 |Æ=>a r.2|Â=>b r.2
nonrec def VW(f:wS):yX:=λβ=>(áb).bind λr=>À (.rt r.1 r.2)
nonrec def qV(f:wS):yX:=λβ=>(áb).bind λr=>À ío
nonrec def gY(i:Ã)(f:wS):yX:=λβ=>(áb).bind λr=>À (.nx (r.2.set i (À r.1)))
abbrev MG:=D->yC->É yC
nonrec def VL(i j:Ã):MG:=λd β=>match d with
 |.tup Ťb=>À ((ζa (À (.fz x))).set j (À (.fz y)))|_=>Ä
nonrec def kQ(g:MG)(b:yX):Á D->yC->É jh
 | [],β=>À (.nx β)|d::r,β=>(g d β).bind λβ1=>(b β1).bind λf=>match f with
  |.nx β2=>kQ g b r β2|.ct β2=>kQ g b r β2|.bk β2=>À ęc|.rt m β2=>À Ún
def GH(it:FA)(g:MG)(b:yX):yX:=λβ=>(it ϋd).bind λa=>kQ g b a β
nonrec def pL(c:t7)(b:yX):Ã->yC->É jh
 |0,_=>Ä|n+1,β=>(ôd).bind λr=>match r.1 with
  |Â=>À ío|Æ=>(ļi).bind λf=>match f with
   |.nx β2=>pL c b n β2|.ct β2=>pL c b n β2|.bk β2=>À ęc|.rt m β2=>À Ún
def Ov(c:t7)(b:yX):yX:=λβ=>pL c b ZU β
section
variable{X:Cx}{np:Ã}{x:È}{p pos èa:Pos}{e c tg ū:Õ}{st:Ø}{sts Íc:Á Ø}{f g:yX}{h:wS}{u:t7}{fs:FA}
def O_:pX X np [] VU:={{_,f9,λ{P d c G H β σ b E} _ K a q=>by cases a;show q σ G H K}}
def wU(b:MS X np st f)(l:pX X np sts g):pX X np Åo (wD f g):=by
 rw[Ňo];let{w,i,j}:=l.h;show{{_,f8 p i,λ{P u v G H β σ n E} c K a q=>?_}};let{m,b,a}:=zD a;show k c K b ?_;cases m with
 |nx τ'=>show λσ' s r e=>j c e a q|bk τ'=>cases a;show q|ct τ'=>cases a;show q|rt o d=>cases a;show q
def wb(a:MS X np st f):pX X np [st] f:={let ⟨t,p,k⟩:=a.h;{t,fA p,k}}
def Oz{e d:Á Ø}(r:MT X c u)(o:pX X np e f)(m:pX X np d g):MS X np (.If c e d pos) (VT u f g):=by
 let{B,s,p}:=r.h;let{C,j,l}:=o.h;let{tb,v,n}:=m.h;show{{_,e_ s j v,λ{P y A G H β σ x E} i K a q=>?_}};obtain⟨⟨k,β1⟩,t,a⟩:=zD a;show p K t λw z _ b=>?_
 cases k with
 |Æ=>show jB (l i b a q)|Â=>show jA (n i b a q)
def L4(b:MC X e h):MS X np Īe (VW h):=by rw[Ňo];show{{_,LM p,λ{P j n G H β σ f E} l K a q=>?_}};obtain⟨⟨m,β1⟩,d,a⟩:=zD a;cases a;show k K d λv i g _ c=>q _ v _ _ c
def ju(b:MC X e h)(d:Î Ųj q11):MS X np Ôh (qV h):=by rw[Ňo];show{{_,eh p d,λ{P l o G H β σ g E} n K a q=>?_}};obtain⟨⟨m,β1⟩,f,a⟩:=zD a;cases a;show k K f λv j i _ c=>q _ _ _ (c.down įb)
def Y7{i:Ã}{x:È}{èa:Pos}(d:Ĥa)(hi:X.N[i]?=À x)(g:pV ϸ x)(s:np<=i)(c:MC X e h)(f:Î Ũd q11)(a:Î ża q3) :MS X np će (gY i h):=by let{t,p,k}:=c.h;show{{_,(Gy d hi g {p} f a).h,λ{P r w G H β σ l E} u K a q=>?_}};obtain⟨⟨m,β1⟩,j,a⟩:=zD a;cases a;show k K j λv o n _ b=>q _ _ _ (b.S9 Œb.1 Ê b.gv b.qL)
structure Ay(X:Cx)(np:Ã)(tg:Õ)(fg:MG):Ç where
 h:∃t,PG X tg t/\∀{P:Á V}{G0 H0 G H:Hp}{β β':yC}{σ:St}{d:D}{v:V}{Q:St->Hp->Ç},Áa=np->zk X.K ú P G0 H0 G H β σ->zW X.K G d v->fg d β=À β'->(∀σ',zk X.K ú P G0 H0 G H β' σ'->Q σ' H)->t v σ H Q
def z61{i j:Ã}{x y:È}{c e:Pos}{f:Ã}(h:QG X Ĩj øe)(hi:X.N[i]?=À x)(g:X.N[j]?=À y)(B:np<=i)(A:np<=j):Ay X np Ĩj (VL i j):=⟨⟨_,h.h,λ{P w F G H β β' σ d v Q} C K r b q=>by
 unfold VL at b
 rw[Ϧo];rename_i E u;cases b;let{a,z,rfl,n,{s,t,rfl,o,{k,l,rfl,p,m}},_}:=r;cases(show l=[]from m);show{a,_,rfl,vO Ña n,rfl,s,_,rfl,k,_,rfl,rfl,?_};show q _ ((K.Bb Œb.1 Ê o).Bb (Ŭ g).1 Ê p);cases b⟩⟩
def z68{c:MG}(R:ēc ÿ X.A Ö ġ)(L:Ż=Æ)(hi:SI X tg ū fs)(Q:Ay X np tg c)(hb:pX X np Íc g)(C:Î (∀x,úb ū Ö x=pure x) q10):MS X np ãg (GH fs c g):=by
 let{ti,pi,Y}:=Ëc;let{U,I,kg}:=Q.h;rw[Ëp];show{{_,Ge R L pi I pb C,λ{P G0 r G H τ σ p E} u K a q=>?_}};let{b,Z,a}:=zD a;show Y K.Ua Z λJ n Ha xa _ j=>?_
 let t:=üa xa;let o:=Wu.near t.ext q;show{λi m σ H=>m=ϣ-i/\i<=ϣ/\∃τ G,zk X.K ú P n r G H τ σ/\kQ c g ēi τ=À p,{ϣ,rfl,Ĉa _,τ,n,t.Yg,a},?_};rintro i m σ H ⟨rfl,T,τ,G,K,a⟩;by_cases hlt:i<ϣ;show .inr {j.go i G H Ŝb Ña hlt,λσ' f=>∃τ G,zk X.K ú P n r G f τ σ'/\kQ c g Ϙh τ=À p,λσ' f z=>{ϣ-ù,Įe _ _ hlt,rfl,hlt,z},λx f y=>?_};let{G3,d,B,s,rd}:=j.u5 i G H x f Ŝb Ña hlt y;rw[ώo];rw[Şo];let{S,O,a}:=zD a;show kg u (üa B) rd h1 λσ1 v=>kb u v O ?_
 cases S with
 |nx τ2=>show λσ2 l F k=>{τ2,l,k,a}|ct τ2=>show λσ2 l F k=>{τ2,l,k,a}|bk τ2=>cases a;show o|rt m β=>cases a;show o
 let e:i=ϣ:=by omega
 subst e;rw[List.drop_length]at a;cases a;show .inl {j.stop _ G H Ŝb Ña ċ,o _ _ _ K}
def z69(I:ēc ÿ X.A Ö ġ)(t:MT X c u)(o:pX X np Íc g):MS X np Ăk (Ov u g):=by
 let{O,x,r}:=t.h;let{tb,B,p}:=o.h;show{{_,f7 I x B,λ{P j l G H τ σ f E} s K a q=>?_}};show{λm σ H=>∃τ G,zk X.K ú P j l G H τ σ/\pL u g m τ=À f,{ZU,τ,G,K,a},?_};rintro m σ H ⟨τ,G,K,a⟩;cases m with
 |ϙ=>cases a|Ϛ n=>
  obtain⟨⟨k,β1⟩,y,a⟩:=zD (show(u τ).bind _=_ from a);show r K y λJ L _ e=>?_
  cases k with
  |Â=>cases a;show jA (q _ _ _ e)|Æ=>
   let{C,v,a}:=zD (show(g β1).bind _=_ from a);show jB {λσ' i=>∃τ G,zk X.K ú P j l G i τ σ'/\pL u g n τ=À f,λσ' i z=>{n,ïb n,z},p s e v ?_};cases C with
   |nx τ2=>show λσ2 d F b=>{τ2,d,b,a}|ct τ2=>show λσ2 d F b=>{τ2,d,b,a}|bk τ2=>cases a;show q|rt m β=>cases a;show q
#print a
def jw(β:yC)(i:Ã)(π:Á xX):É M:=match β[i]? with
 |À Ϭa=>qQ m π|_=>Ä
def šb(β:yC)(i:Ã)(π:Á xX)(m2:M):É yC:=match β[i]? with
 |À Ϭa=>(Ŏm).bind λa=>À ím|_=>Ä
def XY{β:yC}{i:Ã}{π:Á xX}{a:M}(h:jw β i π=À a):∃m,β[i]?=À Ϭa/\qQ m π=À a:=by
 unfold jw at h
 split at h;rename_i m e;show{m,e,h};cases h
def LO{β:yC}{i:Ã}{π:Á xX}{m a m2:M}(h:β[i]?=À Ϭa)(e:qB m π m2=À a):šb β i π m2=À ím:=by unfold šb;rw[h];exact(Ŏm).bind _=_;rw[e];rfl
def wY(K:Ñ)(a:Á È)(f:È):Ç:=∀x∈a,∀C,Ū K ď x=À ôa->ud K C/\Zk K C f
structure SP(X:Cx)(e:Õ)(i:Ã)(π:Á xX):Ç where
 h:∃t,PE X e t/\∀{σ:St}{H:Hp}{v u:V}{Q:VK},σ[i]?=À Ϥ->xm X.K H v π u->Q u H->t σ H Q
section
variable{X:Cx}{x f:È}{p pos:Pos}{e:Õ}{i:Ã}{π:Á xX}{cs:Á È}
def xQ(i:Ã){x:È}{pos:Pos}(d:Î Ķd q11)(hv:Î ŧd q13)(c:Î Ĭ q7)(b:Î ìb q7):SP X îa i []:={{_,Xd d hv c b,λe a q=>by cases(show _=_ from a);show{_,e,q}}}
def uu(h:SP X e i π)(k:wY X.K cs f)(d:Î żj q11):SP X Ĺe i (π++[.at cs f]):=by let{t,p,s}:=h.h;show{{_,eK p d,λe a q=>?_}};let{w,j,b}:=a.snoc;let{p,x,C,g,m,v,rfl,r,o,u,l,rfl}:=b;let{c,n}:=k x r C o;show s e j {p,C,g,m,_,rfl,u,c,n,l,q}
#print a
section
variable{K:Ñ}{n:Ã}{P:Á V}{G0 H0 G H:Hp}{β:yC}{σ:St}
def zk.write{m U L:M}{S:V}{i:Ã}{π:Á xX}(E:zk K ı P G0 H0 G H (β++[À L]) (σ++[À S]))(hP:Áa<=n)(T:β[i]?=À Ϭa)(ha:qQ m π=À U) :∃r v1 L1 Lr,σ[i]?=À Ĩi/\xm K H r π v1/\yt K G H U v1 L1/\yt K G H L S Lr/\(∀q,L1 q->Lr q->õ)/\
   ∀{H':Hp}{m2:M}{L2:Ft},(∀q,¬ L1 q->H' q=H q)->yt K G H' m2 v1 L2->(∀q,L2 q->L1 q\/Lr q)->∃m',qB m π m2=À m'/\zk K n P G0 H0 G H' (ζa (À m')) σ:=by
 let{s,F}:=ûa;let x:=Őc;let l:=Ïc;have hi:i<n:=by rw[<-l];show(Ŭ T).1
 let{r,R,om}:=ϥ i m (by rw[wu Ê];show T);rw[wu Ê]at R;let{u,y,O}:=ϥ n L (v_ l);rw[v_ x]at y;cases y;let{v1,L1,Z,o1,t,re}:=om.focus òa ha;let Q:∀q,L1 q->s n q->õ:=λq a b=>ŵ i n q Ê (t q a) b
 show{r,v1,L1,s n,R,Z,o1,O,Q,λ{H' m2 L2} p X A=>?_}
 let{m',e',o'}:=re (ŧa G) (λq _ z=>p q z) X (λq z w=>by rcases A q z with c|c;show c;show Þ c λc=>ŵ i n q Ê w c)
 let B:∀q,L1 q->G q=Ä/\H0 q=Ä:=λq z=>{Ùl.1,Ùl.2.1}
 show{m',e',{Ďi,λq o z=>?_,λq o z=>?_,űd},x,by rw[ϖa];show l,hP,λj w h=>?_,λj=>if j=i then ėl else if j<n then s j else λ_=>õ,λj Y h=>?_,λj k q f e d=>?_,λj q z=>?_}
 .rw[p q λw=>by rw[(B q w).2]at z;cases z];show Ķc _ _ z
 .rw[p q λw=>by rw[(B q w).1]at z;cases z];show òa _ _ z
 .let C:j<Áa:=Ōa.1;let:=ŷa j w h;rw[Źo]
 .rcases uF h with⟨rfl,w⟩|⟨f,w⟩
  .cases w;rw[Ϲo];show{r,R,o'}
  .have C:j<n:=by rw[<-l];show(Ŭ w).1
   let{u,y,ou}:=ϥ j Y ýk;rw[wu Ê]at y;simp only[Ó f,Ò C];show{u,y,ou.loc (ŧa G) Y u _ λq z=>p q λI=>ŵ i j q Ūe (t q I) z}
 .let v:∀j,j≠i->j<n->∀q,İe\/L2 q->s j q->õ:=λj f C q e d=>by
   rcases e with⟨e,_⟩|e;show ŵ i j q Ūe e d;rcases A q e with c|c;show ŵ i j q Ūe (t q c) d;show ŵ n j q Ê c d
  split at e
  .rw[Ħo];show f Ê;rw[Ħo];show v k Ê Ê q e d;show d
  .split at e;rw[Ħo];show v j Ê Ê q d e;rw[Ħo];show ŵ j k q f e d;show d;show e
 .split at z
  .rcases z with⟨z,w⟩|z
   .rw[Ŧo];let{u,J,N}:=c;show{a,b,u,(p q w).trans J,N}
   .show{?_,?_,X.cells m2 _ _ q z}
    .rcases A q z with c|c
     .show(B q c).1
     .show ėh.1
    .rcases A q z with c|c
     .show(B q c).2
     .show ėh.2.1
  .split at z
   .rename_i f C;let{a,b,c}:=ϵ j q z;let{u,J,N}:=c;show{a,b,u,(p q λI=>ŵ i j q Ūe (t q I) z).trans J,N}
   .show Ť
#print a
def gZ(i:Ã)(π:Á xX)(b:FE)(a:wS):yX:=λβ=>(ųf).bind λr=>(çi).bind λy=>(ĉm).bind λc=>match c with
 |.own Ϯh=>(ŗm).bind λx=>match x with
  |.int j=>(ixN ę j).bind λn=>(Ωd (Ε (ři n y))).bind λβ2=>À ęc|_=>Ä
 |_=>Ä
def XW(i:Ã)(π:Á xX)(b:FE)(a:wS):yX:=λβ=>(ųf).bind λr=>(çi).bind λy=>(ĉm).bind λc=>match c with
 |.own ŧm=>(ŗm).bind λx=>(Łc).bind λx=>match decide (Ŋ<yr)with
  |Æ=>(Ωd (.dic Ϲn ϣl)).bind λβ2=>À ęc|Â=>Ä
 |_=>Ä
section
variable{X:Cx}{np:Ã}{o k v:Õ}{i:Ã}{π:Á xX}{fk:FE}{fv:wS}{pos èa:Pos}
def Y8(ho:SP X o i π)(hk:SE X k fk)(hv:MC X v fv)(Z:Î ĥn q11)(hs:Î (Îm če v ϻc Ö=pure Â) q11)(hw:Î (Ïm če v Ö=pure Ä) q11)(h1:Î ((ϒe če Ö).map (·.2)=[Àc ńk Ö]) q11):MS X np Ųk (gZ i π fk fv):=by
 let{tk,pk,Y}:=hk.h;rw[ϟo];show{{_,y45 S (y4u {R} {pk} y7y Z).h hs hw h1,λ{P G0 H0 G H β σ fl E} hP K a q=>?_}};rw[Ėo]
 rw[Ęo];rename_i ds;let{Q,T,a}:=zD a;cases Q with
 |int j=>
  let{e,s,a}:=zD a;let{β2,F,a}:=zD a;cases a;let{mm,t,L}:=XY hn;show kv K hy λw G1 H1 s1 n=>?_
  let{r,v1,L1,Lr,N,A,_}:=n.write įb t L;show ko N A ?_;let{Ga,Ea,b}:=(n.down įb).tZ;show Y Ea T λu G2 H2 x2 r2=>?_
  cases(show u=_ from r2);let{G3,B,_,_}:=b _ _ x2;let I:=n.go B;let{r',v1',U,Lr',d,g,x,or',dj',f}:=ϱd įb t L;rw[N]at d;cases d;cases Ϲb (Óe B.h) g;let{p,rfl,{J,ev,O,l},C}:=x;let{m',e',K5}:=f (H':=zT H2 p (Ε (J.set e w))) (m2:=.own (Ε (ři e y))) (L2:=λq=>q=p) (Λd (C q)) {p,rfl,{_,yS,Èi I.BW e O,by rw[ϖa];show l},λ_=>ϱb} (δd (C q));rw[LO t e']at F;cases F;show{p,J,j,e,rfl,rfl,ev,by rw[O.length];show s,q _ _ _ K5}
 |_=>cases a
 cases a
def QY(hu:ńa+1<ų)(ho:SP X o i π)(hk:SE X k fk)(hv:MC X v fv)(hs:Î (Ξb ńk) q11):MS X np Ųk (XW i π fk fv):=by
 let{tk,pk,U}:=hk.h;let{tv,R,kv}:=ōc;let{to,Q,ko}:=ho.h;show{{_,eg hu Q pk R hs,λ{P G0 H0 G H β σ fl E} hP K a q=>?_}};rw[Ėo]
 rw[Ęo];rename_i ks j;let{xk,S,a}:=zD a;let{b,f,a}:=zD a
 rw[Åp];let c:=ŭ c;let{β2,J,a}:=zD a;cases a;let{mm,t,N}:=XY hn;show kv K hy λw G1 H1 s1 s=>?_
 let{r,v1,L1,Lr,O,C,_}:=s.write įb t N;show ko O C ?_;let{Ga,Z,d}:=(s.down įb).tZ;show U Z S λu G2 H2 x2 r2=>?_
 let{G3,F,_,_}:=d _ _ x2;let L:=s.go F;let{r',v1',T,Lr',e,n,x,or',dj',g}:=L.write įb t N;rw[O]at e;cases e;cases Ϲb (C.mono F.h) n;let{p,rfl,{vs,ev,l,B,hl},I}:=x
 let{m',e',Y}:=g (H':=zT H2 p (.dK (uT ĝa b w))) (m2:=.own (.dic (vk ks b) (wc ks j b y))) (L2:=λq=>q=p) (Λd (I q))
  ⟨p,rfl,⟨wc ks vs b w,by rw[yS,Pn l],Qj l,B.put L.BW,by
   let h1:=Gg (ks:=ks) (vs:=j) (k:=b) (v:=y) (by rw[l,ϛd]);have h2:Ča<16777216:=by rw[<-ϛd,<-l];show c
   rw[ŧ];omega⟩,λ_=>ϱb⟩ (δd (I q))
 rw[LO t e']at J;cases J;show{p,_,rfl,.inl {_,b,ev,gX f r2,by rw[ĸa,l,Ľa,ŧ,<-l];show c,rfl},q _ _ _ Y};cases a;cases a
#print a
nonrec def gc(fs:Á È)(f:È):Á È:=if f∈fs then fs else fs++[f]
def qX{α:Type}(fs:Á È)(ms:Á α)(f:È)(m:α):Á α:=if f∈fs then vz fs ms f m else ms++[m]
theorem fF{f:È}{w:V}:∀{fs:Á È}{vs:Á V},Ġa=ü->èb f w Ín=(šd).zip ϧl
 | [],[],_=>by unfold gc qX;rw[Ó ï,Ó ï];rfl| [],_::_,h=>by cases h|_::_,[],h=>by cases h|g::fs,v::vs,h=>by
  let b:=fF (f:=f) (w:=w) (fs:=fs) (vs:=vs) Ġi;rw[Áb];unfold èb;by_cases c:g=f;subst c;unfold gc qX;rw[Ò rfl,Ò ī,Ò ī];unfold vz;rw[Ò rfl,Áb];rw[Ó c,b];unfold gc qX;by_cases z:f∈fs;rw[Ò z,Ò z,Ò ϰc,Ò ϰc]
  conv=>rhs;unfold vz
  rw[Ó c,Áb];let a:f ∉ g::fs:=λw=>by rcases Ī w with w|w;show c w.symm;show z w
  rw[Ó z,Ó z,Ó a,Ó a,ŝe,ŝe,Áb]
theorem y4e{α:Type}{f:È}{w:α}{fs:Á È}{vs:Á α}(h:Ġa=ü):(šd).length=(ϧl).length:=by
 unfold gc qX
 split;rw[NU];show h;rw[í,í,h];rfl
section
variable{K:Ñ}{G H:Hp}
theorem Êi{κ:Type}[Ňb κ]{k:κ}{m2:M}{e:V}{L2:Ft}(l:yt K G H m2 e L2):∀{ks:Á κ}{ms:Á M}{vs:Á V}{L:Ft},Š K G H ms vs L->(∀q,L q->L2 q->õ)->∃L',Š K G H Ŕl (vz ks vs k e) L'/\∀q,L' q->L q\/L2 q
 | [],ms,vs,L,h,_=>{L,by unfold vz;show h,λq z=>.inl z}|_::_,[],vs,L,h,_=>by let{rfl,n}:=h;show{L,by unfold vz;show{rfl,n},λq z=>.inl z}
 |k'::ks,m::ms,vs,L,h,dj=>by let{v,r,i,j,rfl,o,f,d,u}:=h;unfold vz;rw[Ŕo];show{λq=>L2 q\/j q,{e,r,L2,j,rfl,l,f,λq a b=>dj q ((ϴ).mpr (.inr b)) a,λq=>ϱb},λq z=>?_};rcases z with z|z;rw[Ŵo];show .inl ġd;rw[Ó c,Ó c];let{L',p,g}:=Êi (k:=k) l (ks:=ks) f ĕj;show{λq=>i q\/L' q,{v,_,i,L',rfl,o,p,λq a b=>?_,λq=>ϱb},λq z=>?_};rcases g q b with b|b;show d q a b;show dj q ŭl b;rcases z with z|z;show .inl ėd;rcases g q z with z|z;show .inl ġd;rw[Ŵo]
theorem Ľh{m2:M}{c:V}{L2:Ft}(e:yt K G H m2 c L2):∀{ms:Á M}{vs:Á V}{L:Ft},Š K G H ms vs L->(∀q,L q->L2 q->õ)->Š K G H (ms++[m2]) (vs++[c]) (λq=>L q\/L2 q)
 | [],vs,L,h,_=>by let{rfl,n}:=h;show{c,[],L2,λ_=>õ,rfl,e,{rfl,λ_ z=>z},λ_ _ z=>z,λq=>{?_,?_}};rintro(z|z);show Þ z (n q);rw[Ãp];show Ť
 |m::ms,vs,L,h,dj=>by let{v,r,i,j,rfl,f,g,d,u}:=h;show{v,_,i,λq=>j q\/L2 q,rfl,f,Ľh e g ĕj,λq a b=>?_,λq=>{?_,?_}};rcases b with b|b;show d q a b;show dj q ŭl b;rintro(z|z);rcases(u q).mp z with z|z;show .inl z;show .inr đc;show .inr ša;rintro(z|z|z);show .inl ėd;show .inl ġd;rw[Ŵo]
def ñn{f:È}{m2:M}{a:V}{L2 L:Ft}{fs:Á È}{ms:Á M}{vs:Á V}(d:yt K G H m2 a L2)(h:Š K G H ms vs L)(b:∀q,L q->L2 q->õ):∃L',Š K G H (qX fs ms f m2) (qX fs vs f a) L'/\∀q,L' q->L q\/L2 q:=by unfold qX;by_cases c:f∈fs;rw[Ò c,Ò c];show Êi d h b;rw[Ó c,Ó c];show{_,Ľh d h b,λq z=>z}
#print a
def jF(m:M)(β:yC)(i:Ã)(π:Á xX)(a:Á È)(f:È):É jh:=(Ϧe).bind λb=>match b with
 |.obj x fs ms=>match decide (x∈a)&&decide ún with
  |Æ=>(Κd (qX fs ms f m)).bind λβ2=>À ęc|Â=>Ä
 |_=>Ä
def qW(i:Ã)(π:Á xX)(b:Á È)(f:È)(a:wS):yX:=λβ=>(ųf).bind λr=>jF r.1 r.2 i π b f
def GG(i:Ã)(π:Á xX)(d:Á È)(f:È)(e:FE):yX:=λβ=>(Ϧe).bind λg=>match g with
 |.obj x fs ms=>match decide (x∈d)&&decide ún with
  |Æ=>(Ϧ fs ms f).bind λc=>(X6 c).bind λc=>match c with
   |.int a=>(e ūd).bind λy=>match y with
    |.int b=>(Κd (qX fs ms f (.fz (Δ (a+b))))).bind λβ2=>À ęc|_=>Ä
   |_=>Ä
  |Â=>Ä
 |_=>Ä
section
variable{X:Cx}{np:Ã}{o v:Õ}{i:Ã}{π:Á xX}{cs:Á È}{f:È}{fv:wS}{fe:FE}{pos èa tpos:Pos}
def zk.SJ{K:Ñ}{n:Ã}{P:Á V}{J N G H:Hp}{β β2:yC}{σ:St}{x f:È}{fs:Á È}{ms:Á M}{m e:M}{w:V}{i:Ã}{π:Á xX}(E:zk K ı P J N G H (β++[À e]) (σ++[À w]))(Z:Áa<=n)(v:β[i]?=À Ϭa)(Y:qQ m π=À Ϥg)(L:šb β i π (.obj x šd Ϩl)=À β2) :∃r p C dx vs,σ[i]?=À Ĩi/\xm K H r π Ů/\Ū K ď x=À ôa/\H p=À ÿg/\Ġa=ü/\zk K n P J N G ϡe β2 σ:=by
 let{r,v1,L1,A,er,O,U,t,h,R}:=E.write Z v Y;let{p,C,dx,vs,S,rfl,y,T,l,rs,F,d}:=U;let j:∀q,q≠p->ϡe q=H q:=λq z=>zy z
 let k:Š K G ϡe ms vs S:=ϛb (λI _ v' g s o=>ùd ńf I v' g λq z=>j q λc=>F (c▸s q z)) rs;let u:yt K G ϡe e w A:=t.loc ńf e w A λq z=>j q λc=>h q Ŋk z
 let{g,Q,B}:=ñn (f:=f) (fs:=fs) u k (λq a b=>h q ((d q).mpr (.inr a)) b)
 let{I,X,K5}:=R (H':=zT H p ϐi) (m2:=.obj x šd Ϩl) (L2:=λq=>q=p\/g q) (λq z=>j q λc=>z Ŋk)
  ⟨p,C,dx,qX fs vs f w,g,rfl,y,by rw[yS,fF l],y4e l,Q,λz=>by
   rcases B p z with z|z;show F z;show h p ((d p).mpr ą) z,λq=>ϱb⟩ (λq z=>by
   rcases z with rfl|z;show .inl ((d q).mpr ą);rcases B q z with z|z;show .inl ((d q).mpr ša);rw[Ŵo])
 rw[LO v X]at L;cases L;show{r,p,C,dx,vs,er,O,y,T,l,K5}
def jv(O:SP X o i π)(k:wY X.K cs f)(hv:MC X v fv)(g:Î (Ξb ňk) q11):MS X np (.Assign Įk v pos) (qW i π cs f fv):=by
 let{T,u,e}:=ōc;let{S,n,y}:=O.h;show{{_,y46 n u g,λ{P G0 Z G H β σ Y E} hP K a q=>?_}};obtain⟨⟨m,β1⟩,Q,a⟩:=zD a;let{nd,J,a}:=zD (show(jw β1 i π).bind _=_ from a)
 rw[Ęo];rename_i x fs ms
 rw[Åp];rw[Ğ]at c;let B:=ŭ c.2;let{β2,L,a}:=zD a;cases a;let{mm,s,I}:=XY J;show e K Q λw U H1 s1 b=>?_
 let{r,p,C,j,vs,R,d,z,F,l,N}:=b.SJ įb s I L;let{t,A}:=k x (ŭ c.1) C z;show y R d {p,C,j,_,rfl,F,t,A,by rw[ĸa,l,Ľa,<-l];show B,q _ _ _ N};cases a;cases a
def z67(ho:SP X o i π)(k:wY X.K cs f)(hv:SE X v fe):MS X np (.AugAssign ğk .Add v pos) (GG i π cs f fe):=by
 rw[ϟo];show{{_,y47 R S z3s,λ{P G0 H0 G H β σ fl E} hP K e q=>?_}};let{nd,hn,e}:=zD e
 split at e;rename_i x fs ms
 split at e;rw[ŵo];rw[Ğ]at c;let U:=ŭ c.1;let hl:=ŭ c.2;let{ch,z,e}:=zD e;let{dc,w,s}:=zD e;cases TZ w
 split at s;rename_i a;let{y,hy,e}:=zD s
 split at e;rename_i b;let{β2,hβ,e}:=zD e;cases e;let{mm,F,L}:=XY hn;let K0:=K.Yk (d:=.zG) (v:=.zG) rfl;let{r,v1,L1,Lr,N,B,o1,_}:=K0.write įb F L;let{p,C,Q,vs,L',rfl,I,Y,l,rs,nL,uL}:=o1;let{T,na}:=k x U C I;let{vc,Lc,ec,{rc,_},_}:=ϧc rs z;cases(show vc=_ from rc);refine ko N B {p,C,Q,_,_,rfl,Y,T,na,by rw[Ou];show ec,?_};let{Ga,Ea,g}:=K.tZ;show kv Ea hy λu G2 H2 x2 r2=>?_
 cases(show u=_ from r2);let{G3,O,K3,_}:=g _ _ x2;let{r',p',Z,A,vs',m,t,j,n,J,K5}:=(K3.Yk (d:=.int (a+b)) (v:=.int (a+b)) rfl).SJ įb F L hβ;rw[N]at m;cases m;cases Ϲb (Ūf O.h) t;let eC:Z=C:=by rw[I]at j;cases j;rfl
 subst eC;show{_,_,rfl,rfl,A,_,n,by rw[ĸa,J,Ľa,<-J];show hl,q _ _ _ K5};cases e;cases s;cases e;cases e
#print a
open Classical in
nonrec def cut(H:Hp)(L:Ft):Hp:=λq=>if L q then Ä else H q
def bD{H:Hp}{L:Ft}{q:Ì}(h:L q):cut H L q=Ä:=by unfold cut;rw[Ò h]
theorem kB{H:Hp}{L:Ft}{q:Ì}(h:¬ L q):cut H L q=H q:=by unfold cut;rw[Ó h]
theorem bE{H:Hp}{L:Ft}{q:Ì}(h:cut H L q=Ä):L q\/H q=Ä:=by rw[ŝo];show .inl c;rw[kB c]at h;show .inr h
abbrev FM:=Á M->É ŋh
def xB(K:Ñ)(F:FM):Sp:=λa H Q _=>∃G ms L ms' m',zt G H/\Š K G H ms a L/\(∀q,L q->G q=Ä)/\F ms=À (ms',m')/\
 ∀v G' H' L',zP G Ño G' H'->Š K G' H' (m'::ms') (v::a) L'->(∀q,L' q->G' q=Ä/\cut H L q=Ä)->Q v H'
section
variable{K:Ñ}{n:Ã}{P:Á V}{G0 H0 G H G' H':Hp}{β:yC}{σ:St}
def zk.S4{m:M}{v:V}{L:Ft}(E:zk K n P G0 H0 G H β σ)(x:zP G H G' H')(o:yt K G' H' m v L)(k:∀q,L q->G' q=Ä/\H q=Ä):zk K ı P G0 H0 G' H' Ϝc ļa:=by
 let{t,F}:=ûa;let C:=Ϸ x;let l:∀i q,t i q->L q->õ:=λi q z c=>ĉb.2.2.some (k q c).2
 refine{C.ext,by rw[Æp],by rw[í,Ŕ];rfl,by rw[ϣo],λi u h=>?_,λj=>if j<n then t j else if j=n then L else λ_=>õ,λi p h=>?_,λi j q s f d=>?_,λi q z=>?_};let J:i<σ.length:=by rw[ğo]
 rw[wu J];show ŷa i u h;rcases Vo h with⟨c,e⟩|⟨c,e⟩;rw[Ŕ]at c;let{u,y,I}:=ϥ i p e;rw[Řo];show ça x.g p u _ λq z=>?_
 rw[şo];show o;rw[Žo];show ŵ i j q s f d;rw[Ħo];show l i q f d;show d;rw[Žo];show l j q d f;rw[Ħo];show s Ê;show d;show f;rw[Ŗo];rw[Ŧo];let{B,A}:=Fm x a c;show{B,b,A};rw[Ŗo];show{(k q z).1,ñh (k q z).2,o.cells m v _ q z};show Ť
def zk.back{m X:M}{i:Ã}{π:Á xX}(E:zk K n P G0 H0 G H β σ)(N:β[i]?=À Ϭa)(ha:qQ m π=À X) :∃r v1 L1,σ[i]?=À Ĩi/\xm K H r π v1/\yt K G H X v1 L1/\(∀q,L1 q->G q=Ä)/\
   ∀{G' H':Hp}{m' nd':M}{v:V}{Lr L2:Ft},zP G (cut H L1) G' H'->yt K G' H' m' v Lr->yt K G' H' nd' v1 L2->(∀q,Lr q->L2 q->õ)->(∀q,Lr q\/L2 q->G' q=Ä/\cut H L1 q=Ä)->
    ∃mm,qB m π nd'=À mm/\zk K ı P G0 H0 G' H' (β.set i (À mm)++[À m']) ļa:=by
 let{s,F}:=ûa;have hi:i<n:=by rw[<-Ŕ];show(Ŭ N).1
 let{r,U,om}:=ϥ i m N;let{v1,L1,Y,o1,C,Z}:=om.focus òa ha;show{r,v1,L1,U,Y,o1,λq z=>Úl.1,λ{G' H' m' nd' v Lr L2} x J O dj A=>?_}
 let ć:∀j q,s j q->¬ L1 q->H' q=H q:=λj q z w=>by let{u,B,_}:=ϱe.2.2;rw[B];show x.h _ _ ((kB w).trans B)
 let y:∀j q,s j q->¬ L1 q->(Lr q\/L2 q)->õ:=λj q z w c=>by let e:=(A q c).2;rw[kB w]at e;show ϱe.2.2.some e
 let{mm,e',o'}:=Z x.g (λq z w=>ć i q z w) O (λq z w=>by by_cases c:L1 q;show c;show(y i q w c ša).elim)
 let t:∀j q,j≠i->s j q->¬ L1 q:=λj q p z w=>ŵ i j q Ĺm łi z
 let I:∀q,cut H L1 q=Ä->H0 q=Ä:=λq z=>by rcases bE z with z|z;show Úl.2.1;show ñh z
 let l:(ζa (À mm)).length=n:=by rw[ϋo]
 show{mm,e',{âm x.g,λq o z=>x.h _ _ ?_,Œa,λq z=>?_},by rw[Æp],by rw[í,l];rfl,by rw[ϣo],λj u h=>?_,λj=>if j=i then ėl else if j<n then s j else if j=n then Lr else λ_=>õ,λj S h=>?_,λj k q p f d=>?_,λj q z=>?_}
 .rw[kB λw=>by rw[(ϵ i q łi).2.1]at z;cases z];show Ķc _ _ z
 .rcases ňc q z with w|w
  .show űd q w
  .show .inr (I q w)
 .let hj:j<σ.length:=by
   rw[ğo]
  rw[wu hj];show ŷa j u h
 .rcases Vo h with⟨c,e⟩|⟨c,e⟩
  .rw[l]at c;rcases uF e with⟨rfl,w⟩|⟨p,w⟩
   .cases w;rw[Ϲo];show{r,by rw[wu ŭc];show U,o'}
   .let{u,eu,ou}:=ϥ j S w;simp only[Ó p,Ò c];show{u,by rw[wu ŭc];show eu,ou.loc x.g S u _ λq z=>ć j q z (t j q p z)}
  .cases e;rw[l]at c;subst c;show{_,v_ ő,?_};simp only[Ó (Æb hi),Ĳb,Ÿ,Ŗ];show J
 .let T:∀j,j≠i->∀q,İe\/L2 q->s j q->õ:=λj p q f d=>by
   rcases f with⟨f,_⟩|f;show ŵ i j q Ĺm f d;show y j q d (t j q p d) (.inr f)
  let L:∀q,İe\/L2 q->Lr q->õ:=λq f d=>by rcases f with⟨f,w⟩|f;show y i q f w ùi;show dj q d f
  let R:∀j,j≠i->∀q,s j q->Lr q->õ:=λj p q f d=>y j q f (t j q p f) ùi
  split at f
  .rw[Ħo];show p Ê;rw[Ħo];show T k Ê q f d;rw[Ħo];show L q f d;show d
  .rw[Žo];show T j Ê q d f;rw[Ħo];show ŵ j k q p f d;rw[Ħo];show R j Ê q f d;show d;rw[Žo];show L q d f;rw[Ħo];show R k Ê q d f;rw[Ħo];show p Ê;show d;show f
 .let Q:∀q,s j q->¬ L1 q->G' q=Ä/\H0 q=Ä/\Bx H' q:=λq z w=>by
   let{a,b,u,B,cu}:=ϵ j q z;show{?_,b,u,(ć j q z w).trans B,cu};cases e:G' q with
   |Ä=>rfl|À o=>rcases ňc q ąe with c|c;show Þ a c;rw[kB w,B]at c;cases c
  rw[Ŗo]
  .rename_i ej;subst ej;rcases z with⟨z,w⟩|z;show Q q z w;show{Þo.1,I q Þo.2,O.cells nd' _ _ q z}
  .rename_i p
   rw[Ŗo];show Q q z (t j q p z);rw[Ŗo];show{Ýo.1,I q Ýo.2,J.cells m' _ _ q z};show Ť
#print a
inductive AV where
 |v (d:D)|p (i:Ã) (π:Á xX)
abbrev ue:=yC->É (Á AV)
def Ym(K:Ñ)(G H:Hp)(σ:St):Á AV->Á V->Ç
 | [],vs=>vs=[]|.v d::as,vs=>∃v r,vs=v::r/\zW K G d v/\Ym K G H σ as r|.p i π::as,vs=>∃v r w,vs=v::r/\σ[i]?=À (À w)/\xm K H w π v/\Ym K G H σ as r
structure MA(X:Cx)(es:Á Õ)(f:ue):Ç where
 h:∃t,PA X es t/\∀{P:Á V}{G0 H0 G H:Hp}{β:yC}{σ:St}{as:Á AV}{Q:Á V->Hp->Ç},zk X.K ú P G0 H0 G H β σ->f β=À as->(∀vs G' H',zP G H G' H'->Ym X.K G' H' σ as vs->Q vs H')->t σ H Q
nonrec def uB:ue:=λ_=>À []
def Ww(f:FE)(r:ue):ue:=λβ=>(Œf).bind λd=>match ve d with
 |Æ=>(Ÿi).bind λa=>À ào|Â=>Ä
def ug(f:FE)(r:ue):ue:=λβ=>(ĸi).bind λd=>(Ÿi).bind λa=>À ào
nonrec def k8:M->Ã->Á xX->AV
 |.fz d,_,_=>.v d|_,i,π=>.p i π
def qw(i:Ã)(π:Á xX)(r:ue):ue:=λβ=>(Ϧe).bind λb=>(Ÿi).bind λa=>À (k8 b i π::a)
section
variable{X:Cx}{e:Õ}{es:Á Õ}{f:FE}{r:ue}{i:Ã}{π:Á xX}
def jD:MA X [] uB:={{_,Xb,λE a q=>by rw[Ŝo]}}
def Ow(y:SE X e f)(l:MA X es r)(h:Î ϊ q11):MA X ē (Ww f r):=by
 let{t,p,k}:=y.h;let{G,A,u}:=l.h;show{{_,YD p A h,λE a q=>?_}};let{d,z,a}:=zD a
 rw[Åp];let{K,i,a}:=zD a;cases a;let{C,o,b}:=E.tZ;show k o z λv J L x r=>?_
 let{H,m,s,n,_}:=b _ _ x;refine u s i λB F I j w=>q _ _ _ (ĸf j) {v,B,rfl,(Ên).mono j.g,w};cases a
def tz(j:SE X e f)(l:MA X es r)(h:Î ϊ q11):MA X ē (ug f r):=by
 let{t,p,k}:=j.h;let{B,n,s}:=l.h;show{{_,YD p n h,λE a q=>?_}};let{d,m,a}:=zD a;let{z,b,a}:=zD a;cases a;show k E.Ua m λv y A x r=>?_
 show s (Ϸ x) b λo w u c i=>q _ _ _ (Ýd c) {v,o,rfl,Äa c.g,i}
def jt(s:SP X e i π)(v:MA X es r)(h:Î ϊ q11):MA X ē (qw i π r):=by
 let{t,p,k}:=s.h;let{L,y,F}:=v.h;show{{_,YD p y h,λE a q=>?_}};let{u,B,a}:=zD a;let{K,o,a}:=zD a;let{H,A,z}:=XY B;let{w,m,J,n,f,C,_}:=Ūi A z;show k n f (F E o λl I G c j=>q _ _ _ c ?_);cases u with
 |fz d=>cases a;show{m,l,rfl,C.1.mono c.g,j}|own d=>cases a;show{m,l,w,rfl,n,Ìe c.h,j}|obj x fs ms=>cases a;show{m,l,w,rfl,n,Ìe c.h,j}|tab ks ms=>cases a;show{m,l,w,rfl,n,Ìe c.h,j}|tp b ms=>cases a;show{m,l,w,rfl,n,Ìe c.h,j}
#print a
nonrec def Xw:Á AV->É Ĥb
 | []=>À []|.v d::as=>(Xw as).bind λa=>À ϊi|.p _ _::_=>Ä
def O0:Á AV->É (Á D×Ã×Á xX×Á D)
 | []=>Ä|.v d::as=>(O0 as).bind λr=>À (d::r.1,r.2)|.p i π::as=>(Xw as).bind λb=>À ([],i,π,b)
nonrec def j7(ds:Á D):Á M:=ĺf .fz
def Zq(F:FM)(as:Á AV)(β:yC):É (M×yC):=match Xw as with
 |À ds=>(F (j7 ds)).bind λr=>À (r.2,β)|Ä=>(O0 as).bind λc=>(jw β c.2.1 c.2.2.1).bind λb=>(F (j7 c.1++b::j7 c.2.2.2)).bind λr=>(r.1[c.1.length]?).bind λa=>(šb β c.2.1 c.2.2.1 a).bind λβ'=>À (r.2,β')
def p_(F:FM)(f:ue):wS:=λβ=>(áb).bind λa=>Zq F a β
section
variable{K:Ñ}{n:Ã}{P:Á V}{G0 H0 G H G' H':Hp}{β:yC}{σ:St}
theorem Qh:∀{ds:Á D}{vs:Á V},ã K G ds vs->Š K G H (j7 ds) vs Ōh
 | [],_,r=>{r,λ_ z=>z}|d::ds,_,r=>by let{v,r,rfl,a,b}:=r;show{v,r,λ_=>õ,λ_=>õ,rfl,{a,λ_ z=>z},Qh b,λ_ z=>Ť,λq=>{λz=>Ť,λz=>Ť id id}}
theorem eD{g:M}{v1:V}{c:Ft}(o:yt K G H g v1 c){b:Á D}{e:Á V}(f:ã K G b e):∀{a:Á D}{va:Á V},ã K G a va->Š K G H (j7 a++g::j7 b) (va++v1::e) c
 | [],va,r=>by cases(show va=[]from r);show{v1,e,c,λ_=>õ,rfl,o,Qh f,λ_ _ z=>z,λq=>{.inl,λz=>Ť id óa}}|d::ds,_,r=>by let{v,r,rfl,h,i}:=r;show{v,_,λ_=>õ,c,rfl,{h,λ_ z=>z},eD o f i,λ_ z=>Ť,λq=>{.inr,λz=>Ť óa id}}
theorem IW:∀{as:Á AV}{ds:Á D}{vs:Á V},Xw as=À ds->Ym K G H σ as vs->ã K G ds vs
 | [],ds,vs,e,r=>by cases e;show r|.v d::as,ds,vs,e,r=>by let{c,f,e}:=zD e;cases e;let{v,r,rfl,a,b}:=r;show{v,r,rfl,a,IW f b}
 |.p i π::as,ds,vs,e,r=>by cases e
theorem aO:∀{as:Á AV}{a b:Á D}{i:Ã}{π:Á xX}{vs:Á V},O0 as=À (a,i,π,b)->Ym K G H σ as vs->∃va v1 vb w,vs=va++v1::vb/\ã K G a va/\ã K G b vb/\σ[i]?=À (À w)/\xm K H w π v1
 | [],a,b,i,π,vs,e,r=>by cases e|.v d::as,a,b,i,π,vs,e,r=>by obtain⟨⟨q,o,π',l⟩,g,e⟩:=zD e;cases e;let{v,r,rfl,n,c}:=r;let{va,v1,vb,w,rfl,k,m,f,h}:=aO g c;show⟨v::va,v1,vb,w,rfl,{v,va,rfl,n,k},m,f,h⟩
 |.p j ρ::as,a,b,i,π,vs,e,r=>by let{l,g,e}:=zD e;cases e;let{v,r,w,rfl,f,va,c}:=r;show{[],v,r,w,rfl,rfl,IW g c,f,va}
theorem GW{v1:V}{f:M}:∀{ms:Á M}{vs:Á V}{L:Ft}{k:Ã},Š K G H ms vs L->ms[k]?=À f->vs[k]?=À v1->∃L2,yt K G H f v1 L2/\∀q,L2 q->L q
 | [],_,_,_,_,e,_=>by cases e|m::ms,_,L,0,h,e1,e2=>by let{v,r,c,g,rfl,a,b,d,u}:=h;cases e1;cases e2;show{c,a,λq z=>(ϴ).mpr đc}
 |m::ms,_,L,k+1,h,e1,e2=>by let{v,r,c,g,rfl,a,b,d,u}:=h;let{L2,o,s}:=GW (k:=k) b Ūk ũk;show{L2,o,λq z=>(ϴ).mpr (.inr Ϧd)}
def zk.call{F:FM}{as:Á AV}{vs:Á V}{m:M}{β':yC}{Q:VK}{E0:XK}(E:zk K n P G0 H0 G H β σ)(s:Ym K G H σ as vs)(c:Zq F as β=À (m,β'))(q:∀v G' H',zt G G'->zk K ı P G0 H0 G' H' Ϟl ļa->Q v H'):xB K F vs H Q E0:=by
 unfold Zq at c
 split at c;rename_i ds e;rw[ϳo];cases c;show{G,_,_,_,_,òa,Qh (IW e s),λ_ z=>Ť,l,λv G' H' T x o f=>?_}
 let y:cut H Ōh=H:=by
  funext q
  show kB (λz=>z)
 rw[y]at x;let{v',L,R,U,e2,h,B,r,u}:=o;cases e2
 show q v G' H' x.g (E.S4 x h λq z=>by let{a,b}:=f q ėd;rw[y]at b;show{a,b});obtain⟨⟨a,i,π,b⟩,S,c⟩:=zD c;let{nd,hn,c}:=zD c;rw[ϳo];let{N,j,c}:=zD c;let{β2,I,c}:=zD c;cases c;let{mm,A,ha}:=XY hn;let{w,v1,L1,er,J,h,X,Y}:=Ūi A ha;let{xa,Z,xb,w',rfl,t,O,d,p}:=aO S s;rw[er]at d;cases d;cases Ϲb J p;show{G,_,L1,_,_,òa,eD h O t,X,l,λv G' H' T x o f=>?_};let{v',L,R,U,e2,oa,ob,r,u}:=o;cases e2
 let{L2,B,C}:=GW (v1:=v1) ob j (by rw[<-čf,Ķb ċ,ćc];rfl)
 let{m3,e3,K3}:=Y x oa B (λq z w=>r q z łi) (λq z=>by rcases z with z|z;show f q ėd;show f q (Εa (C q z)))
 rw[LO A e3]at I;cases I;show q v G' H' x.g K3
#print a
section
variable{X:Cx}{x m c:È}{ps:Á È}{j k:Ã}{F:FM}{e o:Õ}{es:Á Õ}{fa:ue}{p pos š:Pos}{i:Ã}{π:Á xX}
def XX(h:wB ô X.w X.K ñ ŏ x ps k ϙb)(i:yj j X.A)(z:Gl X x)(y:MA X ē fa)(hk:Î Īb q7)(a:Î Ĭ q7)(f:Î ăa q11):MC X ŕa Èo:=by
 let{t,m,o}:=y.h;show{{_,GZ h i z m hk a f,λE c q=>?_}};let{H,b,c}:=zD c;show o E b λC B G d n=>?_
 rw[ŷ];show(Ϸd).call n c λv u r s l=>q v u r (d.g.trans s) l
def qN(P:ë)(w:å)(K:Ñ)(b:È->É Value)(a:Heap)(c m:È)(ps:Á È)(k:Ã)(sp:Sp):Ç:=
 ∃(C f:Ì) (fd:Ļ),Ū K ď c=À ôa/\ud K C/\IM K C m f/\vq K fd ps []/\y_ P w K b a yu k f fd ps sp
def kA(c m:È)(i:Ã)(π:Á xX)(F:FM)(f:ue):wS:=λβ=>(Ϧe).bind λb=>match b with
 |.obj x fs _=>match decide (x=c)&&!(decide (m∈fs))with
  |Æ=>(áb).bind λa=>Zq F (.p i π::a) β|Â=>Ä
 |_=>Ä
theorem GE{f:È}:∀{fs:Á È}{vs:Á V},f ∉ fs->(Ín).lookup f=Ä
 | [],_,_=>rfl|_::_,[],_=>rfl|g::fs,v::vs,h=>by
  rw[Áb,Ĩd]
  let c:(f==g)=Â:=by
   let:f≠g:=λz=>h (z▸ī)
   rw[ċo]
  rw[c];show GE λz=>h ϰc
def b8{P:Á V}{d b G H:Hp}{β β':yC}{σ:St}{A:M}{Q:VK}{C:Ì}{t:TA}{y:TE}{E0:XK}(j:Ū X.K ď c=À ôa)(R:∀{σ:St}{H:Hp}{v u:V}{Q:VK},σ[i]?=À Ϥ->xm X.K H v π u->Q u H->y σ H Q)(U:∀{P:Á V}{d b G H:Hp}{β:yC}{σ:St}{as:Á AV}{Q:Á V->Hp->Ç},zk X.K ú P d b G H β σ->fa β=À as->(∀vs G' H',zP G H G' H'->Ym X.K G' H' σ as vs->Q vs H')->t σ H Q)(E:zk X.K ú P d b G H β σ)(o:kA c m i π F fa β=À (A,β'))(q:∀v G' H',zt G G'->zk X.K (ú+1) P d b G' H' (β'++[À A]) ļa->Q v H'):M5 C m ϙb [] E0 y t σ H Q:=by
 let{nd,Z,a}:=zD o
 rw[Ęo];rename_i x fs ms
 rw[Ęo];rename_i f;rw[Ğ]at f;cases ŭ f.1
 let O:m ∉ fs:=by let:=f.2;rw[ċo]
 let{as,e,o}:=zD a;let{mm,n,Y}:=XY Z;let{w,v1,L1,B,r,T,_}:=Ūi n Y;let{p,C',L,vs,L',rfl,z,S,l,rs,nL,uL}:=T;rw[j]at z;cases z;show R B r {p,L,_,rfl,S,GE O,?_};show U E e λvs G1 H1 k J=>?_
 rw[ŷ];show(Ϸ k).call (as:=.p i π::as) {_,vs,w,rfl,B,Äa k.h,J} o λv G' H' s I=>q v G' H' (k.g.trans s) I;cases a;cases a
def z5u{pl:Sem Ð}(h:qN ô X.w X.K ñ ŏ c m ps k ϙb)(d:yj j X.A)(z:SP X o i π)(s:MA X ē fa)(hk:Î Īb q7)(a:Î ăa q11)(g:ý õe Ö=(do
   let ov <-ý o Ö
   standAt ώb
   let (f,first) <-holding [ov] ŵb
   ęb pos f first Űc ëb):=by rfl):MC X õe (kA c m i π F fa):=by
 let{C,f,H,y,v,n,b,r}:=h;let{t,l,p}:=s.h;let{G,u,x}:=z.h;rw[ϕo];show{{_,y33 u v n r În b .nil YE l Õd Úd g,λE B q=>b8 y x p E B q}}
def dW{pl:Sem Ð}(h:qN ô X.w X.K ñ ŏ c m ps k ϙb)(a:yj j X.A)(u:SP X o i π)(hk:Î Īb q7)(d:ý ūb Ö=(do
   let ov <-ý o Ö
   standAt ώb
   let (f,first) <-holding [ov] ŵb
   ęb pos f first Ņe ëb):=by rfl):MC X ūb (kA c m i π F uB):=by
 let{C,f,B,r,n,g,b,y}:=h;let{z,l,p}:=u.h;show{{_,GY l n g y (a.mono hk) b .nil YE d,λE v q=>b8 (t:=Z5) r p (λ{P J I G H β σ L Q} s e x=>by cases e;show x _ _ _ (ßa s.ext.gh) rfl) E v q}}
def IJ(P:ë)(w:å)(K:Ñ)(b:È->É Value)(a:Heap)(c:È)(ps:Á È)(k:Ã)(sp:Sp):Ç:=
 ∃(C f:Ì) (fd:Ļ),Ū K ď c=À ôa/\b c=À Ō/\Mk K C f/\vq K fd ps []/\y_ P w K b a yu k f fd ps sp
def Tc(c:È)(F:FM)(f:ue):wS:=λβ=>(áb).bind λb=>(Xw b).bind λa=>(F (.obj c [] []::j7 a)).bind λr=>match r.2 with
 |.fz .zG=>(r.1[0]?).bind λm=>À (m,β)|_=>Ä
def dU(h:IJ ô X.w X.K ñ ŏ c ps k ϙb)(hr:yj j X.A)(hg:Gl X c)(ha:MA X ē fa)(hk:Î (k+1<=j) q7)(S:Î Ðg q7)(O:Î ăa q11) :MC X (.Call ģh ē [] pos) (Tc c F fa):=by
 let{C,f,fd,ns,T,mk,b,FF}:=h;let{t,pa,ka}:=ha.h;rw[Ś,Ğ]at O;show{{_,y31 mk FF (hr.mono hk) hg T b .nil YE pa S (uv O.1) (Z3 O.2),λ{P G0 H0 G H β β' σ mr Q} E d q=>?_}};let{as,N,d}:=zD d;let{ds,J,d}:=zD d;obtain⟨⟨R,m'⟩,hF,d⟩:=zD d;show ka E N λvs x m x1 ra y i n l ne=>?_
 rw[ŷ];let U:=Ϸ x1;let rd:=IW J ra
 rw[Ħo];rename_i em
 change m'=.fz .zG at em
 subst em;let{m0,h0,d}:=zD d;cases d;let Z:∀q,q≠y->q≠i->zT (zT m i (.own y)) y (.ins C i []) q=m q:=λq z w=>by rw[zy z,zy w]
 let gy:x y=Ä:=U.ext.gh.free n
 let s2:zt x Ėj:=λq o z=>by let s:=U.ext.gh _ _ z;rw[Z q (λc=>by subst c;rw[n]at s;cases s) (λc=>by subst c;rw[l]at s;cases s)];show s
 show{x,.obj c [] []::j7 ds,λq=>q=y,R,.fz .zG,s2,{_,vs,λq=>q=y,λ_=>õ,rfl,{y,C,i,[],λ_=>õ,rfl,ns,yS,rfl,{rfl,λ_ z=>z},λz=>z,λq=>{.inl,λz=>Ť id óa}},Qh rd,λ_ _ z=>z,λq=>{.inl,λz=>Ť id óa}},λq z=>z▸gy,hF,λv G' H' L' B o hN=>?_};let{v',r',La,Lb,e2,oa,ob,dj,u}:=o;cases e2;show{oa.1,?_};let{L2,o2,Y}:=GW (v1:=.ref y) ob h0 rfl
 let cn:∀q,cut Ėj (λq=>q=y) q=Ä->m q=Ä:=λq z=>by rcases bE z with z|z;show z▸n;by_cases r:q=y;show r▸n;by_cases I:q=i;show I▸l;rw[Z q r I]at z;show z
 let x3:zP x m G' H':=⟨B.g,λq o z=>B.h _ _ (by
  let r:q≠y:=λc=>by subst c;rw[n]at z;cases z
  let I:q≠i:=λc=>by subst c;rw[l]at z;cases z
  rw[kB (L:=λq=>q=y) r,Z q r I];show z),B.gh,λq z=>by
  rcases B.new q z with w|w;show .inl w;show .inr (cn q w)⟩
 show q _ G' H' (x1.g.trans x3.g) (U.S4 x3 o2 λq z=>by let{a,b}:=hN q (Εa (Y q z));show{a,cn q b});cases d
#print a
section
variable{K:Ñ}{G H:Hp}
theorem ώm:∀{ms:Á M}{vs:Á V}{L:Ft},Š K G H ms vs L->∃Ls:Ã->Ft,(∀(i:Ã)(m:M),ms[i]?=À m->∃v,vs[i]?=À v/\yt K G H m v όi)/\(∀(i j:Ã)(q:Ì),i≠j->Ls i q->Ls j q->õ)/\∀i q,Ls i q->L q
 | [],_,_,_=>{λ_ _=>õ,{λi m h=>ŕm,{λ_ _ _ _ z=>Ť,λ_ _ z=>Ť}}}|m::ms,_,L,h=>by
  let{v,r,o,t,rfl,n,k,d,u}:=h;let{Ls,s,p,f}:=ώm k;show{λi=>match i with|0=>o|j+1=>Ls j,λi l e=>?_,λi j q g b a=>?_,λi q z=>?_};cases i with
  |ϙ=>cases e;show{v,rfl,n}|Ϛ j=>show s j l ϒa
  cases i with
  |ϙ=>
   cases j with
   |ϙ=>show g rfl|Ϛ j=>show d q b (f j q a)
  |Ϛ i=>
   cases j with
   |ϙ=>show d q a (f i q b)|Ϛ j=>show p i j q (λc=>g (by rw[c])) b a
  cases i with
  |ϙ=>show(ϴ).mpr đc|Ϛ j=>show(ϴ).mpr (.inr (f j q z))
theorem ľh:∀{ms:Á M}{vs:Á V}{Ls:Ã->Ft},(∀(i:Ã)(m:M),ms[i]?=À m->∃v,vs[i]?=À v/\yt K G H m v όi)->(∀(i j:Ã)(q:Ì),i≠j->Ls i q->Ls j q->õ)->ü=Ϻ->∃L,Š K G H ms vs L/\∀q,L q->∃i,i<Ϻ/\Ls i q
 | [],vs,Ls,_,_,l=>by
  cases vs with
  |nil=>show{λ_=>õ,{rfl,λ_ z=>z},λ_ z=>Ť}|ā v r=>cases l
 |m::ms,[],Ls,_,_,l=>by cases l|m::ms,v::vs,Ls,h,d,l=>by
  let{L,o,c}:=ľh (ms:=ms) (vs:=vs) (Ls:=λi=>Ls ù) (λi k e=>by let{u,a,b}:=h ù k ϒa;show{u,by simpa using a,b}) (λi j q p=>d ù ϒ q Ê) (õc l)
  let{u,a,b}:=h 0 m rfl;cases a;show{λq=>Ls 0 q\/L q,{v,vs,Ls 0,L,rfl,b,o,λq g f=>?_,λq=>ϱb},λq z=>?_};let{i,_,z}:=c q f;show d 0 ù q Ê g z;rcases z with z|z;show{0,îh _,z};let{i,n,z}:=c q z;show{i+1,ĉl n,z}
#print a
nonrec def gM:Á ħi->É (Á M)
 | []=>À []|o::r=>Ői λm=>(gM r).bind λa=>À (m::a)
def O6(b:Ã):jh->É ŋh
 |.rt m β=>(ĝl).bind λa=>À (a,m)|.nx β=>(ĝl).bind λa=>À (a,.fz .zG)|_=>Ä
def vK(a n:Ã)(b:yX)(ms:Á M):É ŋh:=(b (ζd (n-Ϻ))).bind (O6 a)
def vG(c n:Ã)(b:yX):FM:=λa=>if Ũa=c then vK c n b a else Ä
def vg{a n:Ã}{b:yX}:∀ms r,vG a n b ms=À r->Ϻ=a/\vK a n b ms=À r:=λms r h=>by
 unfold vG at h
 rw[ϥo]
theorem aM:∀{os:Á ħi} {ms:Á M},gM os=À ms->Ϻ=os.length/\∀(i:Ã)(m:M),ms[i]?=À m->os[i]?=À Ϭa
 | [],ms,h=>by cases h;show{rfl,λi m e=>by cases e}|o::r,ms,h=>by
  let{d,a,h}:=zD h;let{b,c,h}:=zD h;cases h;subst a;let{l,g}:=aM c;refine{by rw[Ď,Ď,l],λi m e=>?_};cases i with
  |ϙ=>cases e;rfl|Ϛ j=>show g j m ϒa
section
variable{K:Ñ}
def z5k{N:Á È}{G H:Hp}{ms:Á M}{vs:Á V}{L:Ft}(s:zt G H)(o:Š K G H ms vs L)(p:∀q,L q->G q=Ä)(w:Ϻ<=ϗ):zk K ϗ vs G Ño G H (ζd (ϗ-Ϻ)) ŉh:=by
 let l:=Ġc;let{t,n,k,b}:=o.split;let d:∀q,L q->Bx H q:=ċc (λm _ v g f=>f.cells m v g) o
 let a:∀(i:Ã)(v:V),vs[i]?=À v->ŉh[i]?=À Ϥ:=λi v e=>by unfold Šd;rw[ϊa (ξd (Ŭ e)),ſ,e];rfl
 show{{ŧa _,λq o e=>?_,s,λq z=>.inl z},?_,?_,by omega,a,t,λi m h=>?_,k,λi q z=>{p q ϫh,bD ϫh,d q ϫh}};rw[ŝo];rw[bD c]at e;cases e;rw[kB c]at e;show e;unfold Šd;rw[ńo];rw[ńo];let{u,e,z}:=Ox h;cases z;let{v,r,j}:=n i _ e;show{v,a i v r,j}
def dQ{n:Ã}{t r G H:Hp}{vs:Á V}{β:yC}{σ:St}{m:M}{v:V}{ms:Á M}(E:zk K ı vs t r G H Ϝc ļa)(y:ü<=n)(h:gM (β.take ü)=À ms) :∃L,Š K G H ıi įi L/\∀q,L q->G q=Ä/\r q=Ä:=by
 let{Ls,F}:=ûa;let{l,g}:=aM h;rw[ąa,Ïc,řa y]at l;let{u,f,B}:=ϥ n m āf;rw[v_ Őc]at f;cases f
 let{L,o,A}:=ľh (K:=K) (G:=G) (H:=H) (ms:=m::ms) (vs:=v::vs) (Ls:=λi=>match i with|0=>Ls n|j+1=>if j<n then Ls j else λ_=>õ) (λi d e=>by
  cases i with
  |ϙ=>cases e;show{v,rfl,B}|Ϛ j=>
   let k:ms[j]?=À d:=by rw[ϒo]
   have c:j<ü:=by rw[<-l];show(Ŭ k).1
   let e2:=g j d k;rw[ϐk]at e2;rw[Ò c]at e2;let{w,s,C}:=ϥ j d (by rw[wu (by rw[Ïc];omega)];show e2);let p:=ŷa j (vs[j]) (ĳ c);rw[s]at p;cases p;refine{vs[j],by simp[c],?_};simp only[Ò (show j<n by omega)];show C) (λi j q x b a=>by
  cases i with
  |ϙ=>
   cases j with
   |ϙ=>show x rfl|Ϛ j=>
    dsimp only at b a
    rw[Ęo];show ŵ n j q Ê b a;show a
  |Ϛ i=>
   cases j with
   |ϙ=>
    dsimp only at b a
    rw[Ϧo];show ŵ n i q Ê a b;show b
   |Ϛ j=>
    dsimp only at b a
    rw[Ϧo];rw[Ęo];show ŵ i j q Ê b a;show a;show b) ϴk
 show{L,o,λq z=>?_};let{i,_,z}:=A q z;cases i with
 |ϙ=>show{ϰe.1,ϰe.2.1}|Ϛ j=>
  dsimp only at z
  rw[Ŗo];show{ϱe.1,ϱe.2.1};show Ť
#print a
structure wR(K:Ñ)(x qual:È)(st:Ø)(f:Ì)(fd:Ļ):Ç where
 ex:∃(oc:Value) (od:É Ì) (dV kV doc pm:Value) (an:É Ì) (cdv ct:Value) (osl:Ú ϟa),
  fd=Ľc x qual çd ϱ ľ dV kV doc pm an cdv ct/\ϋ f=À {oc,od,.func fd,osl}/\Ěb K cdv qual=Æ
 kp:âa K İ=Æ
def _root_.L2.Fun.v{K:Ñ}{x a:È}{st:Ø}{f:Ì}{h:Ļ}(F:Fun K x a st f h):wR K x a st f h:=by let{m,j,kV,g,k,n,d,l,b,e,i,c}:=F.ex;show{{m,j,.none,kV,g,k,n,d,l,b,e,i,c},F.kp}
section
variable{P:ë}{w:å}{K:Ñ}{mg:È->É Value}{Ë:Heap}
def z16{x a:È}{st:Ø}{f:Ì}{m:Value}{j i:É Ì}{e:Ú ϟa}{g kV d h b ct:Value}(l:ϋ f=À {m,j,.func ìj,e})(c:Ěb K b a=Æ)(k:âa K İ=Æ):wR K x a st f ìj:={{m,j,g,kV,d,h,i,b,ct,e,rfl,l,c},k}
def wR.ok{x a:È}{st:Ø}{f:Ì}{i:Ļ}{N ps:Á È}{k:Ã}{sp:Sp}(F:wR K x a st f i)(S:zc N ps ľ)(g:∀vs H Q E,sp vs H Q E->ü=ĥ)(c:∀(b:Value)(A:û)(Ā:Á Env)(s:Ï)(H:Hp)(vs:Á V)(Q:VK)(E:XK),yj k ϧj->sp vs H Q E->
   ∃t,uR (ëj).t6 ϱ t/\t { nx:=λ_ H'=>Q .zG H',rt:=Q } Ĉc H):y_ P w K mg Ë yu Ĝ f i ps sp:=by
 let{o,u,r,kV,n,v,p,b,y,m,rfl,j,e}:=F.ex;show bw j e S g λA Ā s H vs Q E l d=>?_
 rw[ŕo]
def wR.J_{x c:È}{st:Ø}{f:Ì}{R:Ļ}{N ps:Á È}{k:Ã}{F:FM}{b:yX}(d:wR K x c st f R)(S:zc N ps ľ)(T:ĥ<=ϗ)(X:∀ms r,F ms=À r->Ϻ=ĥ/\vK ĥ ϗ b ms=À r)(hb:∀(g:Value)(A:û)(Ā:Á Env)(s:Ï)(H:Hp)(E:XK),yj k Ϧj->pX (êj).t6 ĥ ϱ b):y_ P w K mg Ë yu Ĝ f R ps ϟd:=by
 show d.ok S (λU H Q E h=>?_) λg A Ā s H U Q E Y h=>?_;let{G,ms,L,I,m',_,o,_,e,_}:=h;rw[Ġc,(X _ _ e).1];let{G,ms,L,I,m',s',o,hL,e,q}:=h;let{l,a}:=X _ _ e;let{t,p,kt}:=(hb g A Ā s H E Y).h;let{Z,y,a}:=zD a;let j:U.length=ĥ:=by rw[Ġc,l]
 refine{t,p,kt j (z5k (N:=N) s' o hL Ê) y ?_};cases Z with
 |nx β=>let{O,J,a}:=zD (show(Ϭk).bind _=_ from a);cases a;intro σ n C i;let{u,B,z}:=dQ (i.Yk (d:=.zG) (v:=.zG) rfl) îl ïl;show q .zG n C u i.ext B z
 |rt m β=>let{O,J,a}:=zD (show(Ϭk).bind _=_ from a);cases a;intro σ v n C i;let{u,B,z}:=dQ i îl ïl;show q v n C u i.ext B z
 |_=>cases a
def wR.nj{x c:È}{st:Ø}{f:Ì}{j:Ļ}{N ps:Á È}{k:Ã}{F:Á D->É ê}{b:FS}(d:wR K x c st f j)(S:zc N ps ľ)(O:ĥ<=ϗ)(m:∀ds r,F ds=À r->ę=ĥ/\yI ϗ b ds=À r)(y:∀(g:Value)(A:û)(Ā:Á Env)(s:Ï)(H:Hp)(E:XK),yj k Ϧj->uf (êj).t6 ϱ b):y_ P w K mg Ë yu Ĝ f j ps ϡd:=by
 show d.ok S (λI H Q E h=>?_) λg A Ā s H I Q E n h=>?_;let{G,ds,o,J,_,r,e,_}:=h;rw[ũ,(m _ _ e).1];let{G,ds,o,J,u,r,e,q}:=h;let{l,a}:=m _ _ e;let{t,p,L}:=(y g A Ā s H E n).h;let{v,i,a}:=zD a;refine{t,p,L (CB (N:=N) u r Ê) i ?_};cases v with
 |nx τ=>cases a;show λσ C B z=>q .zG C B z.ext rfl|rt o' d'=>
  cases o' with
  |Â=>cases a<;>show q|Æ=>cases a<;>show q
 |_=>cases a
theorem Def.J_{x:È}{st:Ø}{N ps:Á È}{k:Ã}{F:FM}{b:yX}(d:Def K mg x st ps)(S:zc N ps ľ)(i:ĥ<=ϗ)(l:∀ms r,F ms=À r->Ϻ=ĥ/\vK ĥ ϗ b ms=À r)(j:∀(f:Ì)(a:Value)(A:û)(Ā:Á Env)(s:Ï)(H:Hp)(E:XK),yj k (Ëb (ϥa x ľ Ý f a))->pX (ui yu P w K mg Ë N x ľ f a A Ā s H E).t6 ĥ ϱ b):wB P w K mg Ë x ps Ĝ ϟd:=by let{f,h,e,g,c}:=d;show{f,h,g,e.kp,c,e.v.J_ S i l (j f)}
def Ts(F:FM):Á D->É ê:=λa=>(F (j7 a)).bind λr=>match r.2 with
 |.fz d=>À (Â,d)|.own d=>À (Æ,d)|_=>Ä
def y8o{F:FM}{vs:Á V}{H:Hp}{Q:VK}{E:XK}(h:vZ K (Ts F) vs H Q E):xB K F vs H Q E:=by
 let{G,w,o,d,s,r,e,q}:=h;obtain⟨⟨c,j⟩,t,e⟩:=zD e
 let g:cut H Ōh=H:=by
  funext q
  show kB (λz=>z)
 show{G,j7 w,λ_=>õ,c,j,s,Qh r,λ_ z=>Ť,t,λv f i I x n l=>?_};rw[g]at x;let{N,A,C,J,e2,k,L,B,u}:=n;cases e2;cases j with
 |fz d'=>cases e;show q v f i x k.1|own d'=>cases e;let{p,rfl,y,m}:=k;let{a,b}:=l p ((u p).mpr (.inl ((m p).mpr rfl)));rw[g]at b;show q p f i x b a y
 |_=>cases e
def wB.nc{x:È}{ps:Á È}{k:Ã}{F:FM}(h:wB P w K mg Ë x ps k ϟd):wB P w K mg Ë x ps k (vZ K (Ts F)):=by let{f,c,a,d,b,e}:=h;show{f,c,a,d,b,e.imp λg H Q E z=>y8o z}
#print a
structure II(P:ë)(w:å)(K:Ñ)(mg:È->É Value)(Ë:Heap)(c m:È)(ps:Á È)(k:Ã)(sp:Sp):Ç where
 ex:∃(C f:Ì) (fd:Ļ) (mc:Value),mg c=À Ō/\ďh K Ō Ĵg=À ϱf/\ϋh K C mc=Æ/\όh K Ō mc m=À ŕh/\âa K İ=Æ/\vq K fd ps []/\y_ P w K mg Ë yu k f fd ps sp
section
variable{X:Cx}{c m:È}{ps:Á È}{j k:Ã}{F:FM}{e:Õ}{es:Á Õ}{fa:ue}{p pos š:Pos}{sp:Sp}{t:TA}
def y2t{pl:Sem Ð}(h:II ô X.w X.K ñ ŏ c m ps k sp)(o:yj j X.A)(E:Gl X c)(x:PA X ē t)(hk:Î Īb q7)(l:Î Ðg q7)(a:Î ăa q11)(u:ý ñe Ö=(do
   let ov <-ý ģh Ö
   standAt ώb
   let (f,first) <-holding [ov] ŵb
   ęb pos f first Űc ëb):=by rfl):PE X ñe ŧl:=by
 let{C,f,G,O,v,g,d,i,B,b,F}:=h.ex;rw[ϕo];intro y s σ H Q I z;show ŭg (pl:=pl) ?_ u;show Ot I E v ?_ l;show W.method_cls ŗ g (W.cls_value ŗ d i rfl ?_);show ňd (h₀:=ŏ) Ŗd B (zi (x pos y _ σ H _ ϳb z) λL J ⟨N,P,n,r,q⟩=>{n.xD,Qw F (ŏi hk) b .nil YE n r q}) Õd Úd
def z5s{pl:Sem Ð}(h:II ô X.w X.K ñ ŏ c m ps k ϙb)(n:yj j X.A)(G:Gl X c)(C:MA X ē fa)(hk:Î Īb q7)(a:Î Ðg q7)(l:Î ăa q11)(r:ý ñe Ö=(do
   let ov <-ý ģh Ö
   standAt ώb
   let (f,first) <-holding [ov] ŵb
   ęb pos f first Űc ëb):=by rfl):MC X ñe Èo:=by
 let{t,u,y}:=C.h;show{{_,y2t h n G u hk a l r,λE d q=>?_}};let{L,b,d}:=zD d;show y E b λI H J i x=>?_
 rw[ŷ];show(Ϸ i).call x d λv B z s o=>q v B z (ţn s) o
#print a
def gI(K:Ñ)(n:Ã)(P:Á V)(b a G H:Hp)(β:yC)(σ:St)(ms:Á M)(vs:Á V):Ç:=
 ∃(L:Ft) (H1:Hp),zk K n P b H1 G H β σ/\Š K G H ms vs L/\(∀q,L q->G q=Ä/\a q=Ä/\H1 q=H q)/\∀q,¬ L q->H1 q=a q
section
variable{K:Ñ}{n:Ã}{P:Á V}{G0 H0 G H G' H':Hp}{β:yC}{σ:St}
def zk.hold{m:M}{v:V}(t:Áa<=n)(E:zk K ı P G0 H0 G H Ϝc ļa):∃(L:Ft) (H1:Hp),zk K n P G0 H1 G H β σ/\yt K G H m v L/\(∀q,L q->G q=Ä/\H0 q=Ä/\H1 q=H q)/\∀q,¬ L q->H1 q=H0 q:=by
 classical
 let{e,F}:=ûa;let{u,k,r}:=ϥ n m āf;rw[v_ Őc]at k;cases k
 let +zeta H1:Hp:=λq=>if e n q then H q else H0 q
 let e1:∀q,e n q->H1 q=H q:=λq z=>Ò z
 let e2:∀q,¬ e n q->H1 q=H0 q:=λq z=>Ó z
 let f:=E.down t;show{e n,H1,{{Ďi,λq o z=>?_,òa,λq z=>?_},f.l1,f.l2,t,f.pin,λj=>if j<n then e j else λ_=>õ,λi x h=>?_,λi j q y p l=>?_,λi q z=>?_},r,λq z=>{ϰe.1,ϰe.2.1,e1 q z},e2};by_cases c:e n q;rw[e1 q c]at z;show z;rw[e2 q c]at z;show Ķc _ _ z;rcases űd q z with w|w;show .inl w;by_cases c:e n q;show Þ ėh.1 z;show .inr ((e2 q c).trans w);have s:i<n:=by rw[<-f.l2];show Ōa.1
 let{u,k,r}:=ϥ i x (by rw[wu (by rw[f.l2];show s)];show h);rw[wu (by rw[f.l1];show s)]at k;simp only[Ò s];show{u,k,r};split at p;split at l;show ŵ i j q y p l;show l;show p;rw[Ŗo];rw[ŵo];let{a,b,d}:=ϵ i q z;show{a,(e2 q λw=>ŵ i n q Ê z w).trans b,d};show Ť
def gI.nil(E:zk K n P G0 H0 G H β σ):gI K n P G0 H0 G H β σ [] []:={λ_=>õ,H0,E,{rfl,λ_ z=>z},λ_ z=>Ť,λ_ _=>rfl}
def gI.cons{m:M}{v:V}{L:Ft}{k:Hp}{ms:Á M}{vs:Á V}(o:yt K G H m v L)(c:∀q,L q->G q=Ä/\H0 q=Ä/\k q=H q)(l:∀q,¬ L q->k q=H0 q)(r:zt G0 G)(s:zt G G')(h:gI K n P G0 k G' H' β σ ms vs):gI K n P G0 H0 G' H' β σ ıi įi:=by
 let{i,p,j,t,a,b}:=h;let g:∀q,L q->Bx H q:=o.cells m v L
 let d:∀q,L q->¬ i q:=λq z w=>by let e:=Ľi.2.1;rw[èd.2.2]at e;show(g q z).some e
 let ć:∀q,L q->H' q=H q:=λq z=>by let{u,f,_}:=g q z;rw[f];show j.ext.h _ _ ?_;rw[b q Ļi,èd.2.2];show f
 show{λq=>L q\/i q,p,j,{v,vs,L,i,rfl,ùd s m v L ć,t,d,λq=>ϱb},λq z=>?_,λq z=>?_};rcases z with z|z;show{?_,èd.2.1,by rw[b q Ļi,èd.2.2,ć q z]};cases e:G' q with
 |Ä=>rfl|À w=>
  let{u,f,_}:=g q z;let e2:p q=À u:=by rw[b q Ļi,èd.2.2];show f
  rcases j.ext.new q ąe with w|w;cases e3:G0 q with
  |Ä=>show Þ e3 w|À o3=>have:=r _ _ e3;rw[èd.1]at this;cases this
  rw[e2]at w;cases w
 show{Ãe.1,?_,Ãe.2.2};let e:=Ãe.2.1;rw[l q λw=>d q w z]at e;show e;rw[b q λw=>z (.inr w),l q λw=>z (.inl w)]
#print a
nonrec def F_:yC->É ϫc:=λβ=>À ([],β)
nonrec def X7(f:wS)(r:yC->É ϫc):yC->É ϫc:=λβ=>(áb).bind λa=>(r a.2).bind λb=>À (a.1::b.1,b.2)
#print L3
namespace L2
open ě ħ ź Ģ
section
variable{X:Cx}{c e:Õ}{es:Á Õ}{t:TA}{tc:TE}{pos:Pos}{j:Ã}
nonrec def y9d(X:Cx)(j:Ã)(tc:TE)(t:TA):TE:=λσ H Q=>tc σ H λv a=>∃(f:Ì) (fd:Ļ) (ps:Á È) (k:Ã) (sp:Sp),v=.ref f/\k<=j/\âa X.K İ=Æ/\vq X.K fd ps []/\y_ ô X.w X.K ñ ŏ yu k f fd ps sp/\t σ a λc b=>sp (c++[]) b Q E0
def y2q(m:yj j X.A)(w:PE X c tc)(p:PA X ē t)(a:Î ăa q11)(d:Î (ý ņk Ö=(do ęb pos (<-ý c Ö) [] Űc ëb)) q11):PE X ņk (y9d X j tc t):=by rw[ϱo];rw[ϕo];rw[d];show Ô (zi (w i s σ H _ I h) λu o ⟨v,J,l,n,f,B,L,k,K,z,y,x,b,F,q⟩=>?_);subst z;cases n;show ňd (h₀:=ŏ) Ŗd x (zi (p pos i o σ _ _ l q) λE C ⟨G,N,g,r,q⟩=>{g.xD,?_}) Õd Úd;show Qw F (Œi y) b .nil YE g r q
#print a
#print L2
namespace L3
open ě ħ Ģ L2
def Zi(K:Ñ)(w:å)(b:È->É Value)(a:Ì)(ks:Á zV)(ns:Á È):Ç:=
 ∃fs:Á Ì,Îa=Â/\Ŋ=Ġa/\(∀(i:Ã)(n:È),ns[i]?=À n->∃f,fs[i]?=À f/\b n=À İ)/\ś=Ġa/\∀(P:ë)(h:Heap),Ő h->∃vs,KV (šf ϙh) vs/\Ìd ģa a vs
inductive Yv(mg:È->É Value):Á È->Á Ì->Ç
 |nil:Yv mg [] []
 |ā {n:È} {f:Ì} {ns:Á È} {fs:Á Ì} (h:mg n=À İ) (r:Yv mg ns fs):Yv mg İi (f::fs)
theorem Yv.at_{c:È->É Value}:∀{ns:Á È}{fs:Á Ì},Yv c ns fs->(∀(i:Ã)(n:È),ns[i]?=À n->∃f,fs[i]?=À f/\c n=À İ)/\ś=Ġa
 |_,_,.nil=>{λi n h=>ŕm,rfl}|_,_,.cons h r=>by
  let{a,b}:=r.at_;show{λi n e=>?_,by rw[Ď,Ď,b]};cases i with
  |ϙ=>cases e;show{_,rfl,h}|Ϛ i=>show a i n ϒa
theorem m8:∀{fs:Á Ì},zm ϙh Ϗn
 | []=>.nil|_::_=>.cons rfl m8
def z1l{K:Ñ}{d:È->É Value}{w:å}{a:Ì}{es:Á Ēb}{n:Ã}{xs ns:Á È}{fs:Á Ì}(l:ϋ a=À { cls:=.type Ź,ă:=.dict Ĵh n })(e:je w es xs Ϗn)(g:ğc)(k:Îa=Â)(m:Yv d ns fs) :Zi K w d a ăc ns:=by
 let c:(ĸc Üb:Á zV).length=(ϙh).length:=by rw[ì,ϊf,ì,ì]
 let{o,j}:=m.at_;refine{fs,k,by rw[c,ì],o,j,λP h i=>{_,Ew m8 c,?_}};rw[ϭo];refine{_,_,_,i _ _ l,{rfl,rfl,rfl},rfl,λe f=>q e Ĺg,p,?_};rw[Mc þg];show Ňg _ Ìg g
section
variable{X:Cx}
def z1j{A:Ì}{ks:Á zV}{ns:Á È}(g:Zi X.K X.w ñ A ks ns):yP X Ėc (ηc Ϩh):=by intro m s σ H x y v u Q I d f h;let{rfl,k,rfl,q}:=h;cases f;let{l,a,c,_,_,e}:=g;let{j,b,i}:=e ô ß ŗ;show Űm (js d) a i.mapOf ?_;rw[<-(Óo).Yi,YU k Ŭk,OL k Ŭk];show{.bl _,H,Ų _,rfl,q}
def y91{A:Ì}{ks:Á zV}{ns:Á È}{x:È}{p pos:Pos}{a:Õ}{e:FE}(h:xU ñ x Ğb)(g:Zi X.K X.w ñ A ks ns)(s:Gl X x)(n:SE X a e)(f:Î Ĭ q7)(o:Î (żb .In Úa=Â) q11) :ST X (.Compare a [.In] Ϡm pos) (tE (e1 (Tl ks) e)):=by let{I,i,l}:=n.h;show{{_,Gf (z1j g) i (YF h s f) o,λ{v C G H τ σ d Q} E c q=>?_}};let{z,b,c}:=zD c;let{y,r,b}:=zD b;let{k,t,b}:=zD b;cases b;cases c;show l E r λu B F j m=>{rfl,k,gX t m,_,rfl,q _ _ j}
def z1k{A:Ì}{ks:Á zV}{ns:Á È}(g:Zi X.K X.w ñ A ks ns):qO X (λx y H Q=>x=.ref A/\∃k n,y=kV k/\Ĳ ks ns k=À n/\∀f,ñ n=À İ->Q İ H):=by
 intro m p L s σ H x y v u Q I P U h G;let{rfl,k,n,rfl,Z,q}:=h;cases P;let{a,C,N,b,S,J}:=g;let{Y,j,B}:=J ô ß ŗ
 let l:∀{ks:Á zV}{ns:Á È}{a:Á Ì},(∀(i:Ã)(n:È),ns[i]?=À n->∃f,a[i]?=À f/\ñ n=À İ)->Ĳ ks ns k=À n->∃f,Ĳ ks (a.map Ţb) k=À İ/\ñ n=À İ:=λ{ks}=>by
  induction ks with
  |nil=>intro ns a _ e;cases e|ā k' ks ih=>
   intro ns a b e;cases ns with
   |nil=>cases e|ā n' ns=>
    let{f0,z,O}:=b 0 n' rfl;cases a with
    |nil=>cases z|ā f1 a=>cases z;unfold Ĳ at e;rw[Ň];unfold Ĳ;by_cases c:k'=k;rw[Ò c]at e ⊢;cases e;show{_,rfl,O};rw[Ó c]at e ⊢;show ih (λi n h=>b ù n Âb) e
 let{f,hf,E}:=l b Z;let{t,T,d}:=ţd (v:=Ţb f) (o:=řb Y k) (by rw[<-hf,<-YU k (by rw[ì];show N)];show j.val k)
 show ŕc (x:=t) B.typeIs Ãg
  (Āg (Q:=λr R=>r=t/\EP X L σ Q r R) (js U) B.mapOf T {rfl,_,H,Ų _,d,q f E}) G
inductive v8(X:Cx)(j:Ã):Á È->Á FM->Ç
 |nil:v8 X j [] []
 |ā {n:È} {ps:Á È} {k:Ã} {F:FM} {ns:Á È} {Fs:Á FM} (h:wB ô X.w X.K ñ ŏ n ps k ϙb) (hk:k<=j) (r:v8 X j ns Fs):v8 X j İi (F::Fs)
theorem v8.get{X:Cx}{j:Ã}{k:zV}{F:FM}:∀{ks:Á zV}{ns:Á È}{Fs:Á FM},v8 X j ns Fs->Ĳ ks Fs k=À F->∃n ps i,Ĳ ks ns k=À n/\i<=j/\wB ô X.w X.K ñ ŏ n ps i ϙb
 | [],_,_,_,e=>by cases e|_::_,_,_,.nil,e=>by cases e|k'::ks,_,_,.cons (n:=n) (ps:=ps) (k:=i) h hk r,e=>by unfold Ĳ at e;rw[Ďo];show{n,ps,i,by unfold Ĳ;rw[Ò c],hk,h};rw[Ó c]at e;let{g,a,f,d,b}:=ŵa e;show{g,a,f,by unfold Ĳ;rw[Ó c];show d,b}
def Fu(ks:Á zV)(b:Á FM)(a:FE)(c:ue):wS:=λβ=>(a ūd).bind λx=>(Łc).bind λk=>(Ĳ ks b k).bind λF=>p_ F c β
def z5t{A:Ì}{ks:Á zV}{ns:Á È}{I:Á FM}{x:È}{p z pos:Pos}{k e:Õ}{es:Á Õ}{L:FE}{B:ue}{j:Ã}(h:xU ñ x Ğb)(g:Zi X.K X.w ñ A ks ns)(hg:Gl X x)(D:v8 X j ns I)(N:yj j X.A)(hk:SE X k L)(ha:MA X ē B)(Z:Î ĥn q11)(hd:Î Ĭ q7)(he:Î ăa q11)(t:Î (ý ďj Ö=(do ęb pos (<-ý (.Subscript Úa k z) Ö) [] Űc ëb)) q11):MC X ďj (Fu ks I L B):=by
 let{tk,pk,kk}:=hk.h;let{ta,T,ka}:=ha.h;show{{_,y2q N (GX (z1k g) (YF h hg hd) pk (LG Z)) T he t,λ{P G0 H0 G H β β' σ m Q} E a q=>?_}};let{y,hy,a}:=zD a;let{o,c,a}:=zD a;let{F,hF,a}:=zD a;let{as,r,a}:=zD a;let{n,ps,i,hn,hi,{f,O,hm,kp,b,FF}}:=D.get hF;let{G1,E1,d}:=E.tZ;show kk E1 hy λu G2 H2 U r2=>?_
 let{G3,S,C,_}:=d _ _ U;show{rfl,o,n,gX c r2,hn,λf' l=>?_};rw[hm]at l;cases l;show{f,O,ps,i,_,rfl,hi,kp,b,FF,ka C r λvs G4 H4 J Y=>?_};rw[ŷ];show(C.go J).call Y a λv G' H' s R=>q v G' H' (S.g.trans (J.g.trans s)) R
#print a
def xL(a:Á È)(f:È):D->É D
 |.obj x fs vs=>if x∈a then Ϧ fs vs f else Ä|_=>Ä
theorem ŭn{K:Ñ}{G:Hp}{κ:Type}[Ňb κ]{k:κ}{d:D}:∀{ks:Á κ}{ds:Á D}{vs:Á V},ã K G ds vs->či ks ds k=À d->∃v,či ks vs k=À v/\zW K G d v
 | [],_,_,_,e=>by cases e|_::_,[],_,_,e=>by cases e|k'::ks,d'::ds,vs,r,e=>by let{v,f,rfl,b,a}:=r;unfold či at e ⊢;by_cases c:k'=k;rw[Ò c]at e ⊢;cases e;show{v,rfl,b};rw[Ó c]at e ⊢;show ŭn a e
nonrec def qx(c m:È)(b:FE)(fs:FA):FA:=λτ=>(b τ).bind λo=>match o with
 |.obj x fl _=>match decide (x=c)&&!(decide (m∈fl))with
  |Æ=>(fs τ).bind λa=>À (o::a)|Â=>Ä
 |_=>Ä
section
variable{X:Cx}{e o:Õ}{f m c:È}{cs:Á È}{fe fo:FE}{pos š:Pos}{ps:Á È}{j k:Ã}{FF:Á D->É ê}
def wP(h:SE X e fe)(k:wY X.K cs f)(s:Î żj q11):SE X Ĺe (e1 (xL cs f) fe):=by
 let{t,p,z}:=h.h;show{{_,eK p s,λ{L I G H τ σ d Q} E b q=>?_}};let{y,A,b}:=zD b;show z E A λv F J c g=>?_
 unfold xL at b
 rw[Ϧo];rename_i x P N;by_cases hx:x∈cs;rw[Ò hx]at b;let{a,C,i,O,rfl,o,w,l,B}:=g;let{u,j,m}:=B.getA b;let{n,r}:=k x hx C o;show{a,C,i,_,u,rfl,ĭb _ _ w,n,r,by rw[Ou];show j,q _ _ _ c m};rw[Ó hx]at b;cases b;cases b
def ib{e b G H:Hp}{τ:yK}{σ:St}{ds:Á D}{Q:VK}{C:Ì}{t:TA}{n:TE}{sp:Sp}{fs:FA}(i:Ū X.K ď c=À ôa)(I:∀{e b G H:Hp}{τ:yK}{σ:St}{d:D}{Q:VK},yA X.K ú e b G H τ σ->fo τ=À d->(∀v G' H',zP G H G' H'->zW X.K G' d v->Q v H')->n σ H Q)(J:∀{e b G H:Hp}{τ:yK}{σ:St}{ds:Á D}{Q:Á V->Hp->Ç},yA X.K ú e b G H τ σ->fs τ=À ds->(∀vs G' H',zP G H G' H'->ã X.K G' ds vs->Q vs H')->t σ H Q)(E:yA X.K ú e b G H τ σ)(k:qx c m fo fs τ=À ds)(q:∀vs G' H',zP G H G' H'->ã X.K G' ds vs->sp vs H' Q E0):M5 C m sp [] E0 n t σ H Q:=by
 let{y,L,f}:=zD k
 split at f;rename_i x u vs
 split at f;rename_i h;rw[Ğ]at h;cases ŭ h.1
 let B:m ∉ u:=by let:=h.2;rw[ċo]
 let{F,s,k}:=zD f;cases k;show I E L λv O S j p=>?_
 let{a,P,w,R,rfl,r,A,l,U}:=id p;rw[i]at r;cases r;show{a,w,_,rfl,j.gh _ _ A,GE B,J (Ϸ j) s λvs T Y o z=>?_};rw[ŷ];show q _ _ _ (j.trans o) {_,vs,rfl,p.mono o.g,z};cases f;cases f
def y8p{G H:Hp}{ds:Á D}{vs:Á V}{Q:VK}{b a:Hp}{d:D}{o:Ð}{E:XK}(x:zP b a G H)(r:ã X.K G ds vs)(f:FF ds=À (o,d))(q:∀v G' H',zP b a G' H'->zW X.K G' d v->Q v H'):vZ X.K FF vs H Q E:=by
 show{G,ds,o,d,Œa,r,f,?_};cases o with
 |Â=>show λv G' H' c r=>q v G' H' (Ýd c) r|Æ=>intro p G' H' c g e o;let{u,h,r}:=o.yH e;show q _ _ _ (Ýd (c.yH g e h)) r
def Lh{pl:Sem Ð}(h:qN ô X.w X.K ñ ŏ c m ps k ϸe)(g:yj j X.A)(L:SE X o fo)(hk:Î Īb q7)(i:ý ūb Ö=(do
   let ov <-ý o Ö
   standAt ώb
   let (f,first) <-holding [ov] ŵb
   ęb pos f first Ņe ëb):=by rfl):SE X ūb (za FF Ϧl):=by
 let{C,f,P,u,p,l,b,F}:=h;let{O,n,s}:=L.h;show{{_,GY n p l F (g.mono hk) b .nil YE i,λ{z N G H τ σ d Q} E a q=>?_}};let{I,y,a}:=zD a;obtain⟨⟨T,S⟩,B,a⟩:=zD a;cases a;show ib (t:=Z5) u s (λ{z N G H τ σ I Q} J e v=>by cases e;show v _ _ _ (ßa J.ext.gh) rfl) E y λY R U x r=>y8p x r B q
def ik{pl:Sem Ð}(h:qN ô X.w X.K ñ ŏ c m ps k ϸe)(i:yj j X.A)(T:SE X o fo)(hk:Î Īb q7)(l:ý ūb Ö=(do
   let ov <-ý o Ö
   standAt ώb
   let (f,first) <-holding [ov] ŵb
   ęb pos f first Ņe ëb):=by rfl):SF X ūb (vh FF Ϧl):=by
 let{C,f,fd,B,y,s,b,F}:=h;let{to,v,z}:=T.h;show{{_,GY v y s F (i.mono hk) b .nil YE l,λ{P Y G H τ σ d Q} E a q=>?_}};let{g,O,a}:=zD a;obtain⟨⟨N,dd⟩,R,a⟩:=zD a;cases N with
 |Â=>cases a|Æ=>
  cases a;show ib (t:=Z5) B z (λ{P Y G H τ σ g Q} S e J=>by cases e;show J _ _ _ (ßa S.ext.gh) rfl) E O λvs u H' x r=>{u,g,Æ,_,Œa,r,R,λp U Z n I L o=>q p U Z (Ýd n) (x.h.free I) L o}
#print a
open ź
def rh{X:Cx}:wM X ϖb (λxs H Q=>∃a kvs,xs=Òa/\Rd H a ň/\∀p,H p=Ä->Q Ů (zT H p ň)):=by
 intro z s σ H xs y Q I r h;let{a,kvs,rfl,e,q}:=h;rw[ěo];let{j,d,n,c,v}:=kC đ e;let f:ϣb=Ĺ:=jC c;refine kt_call_dict d v (by rw[f];show j) λx t l=>?_
 let i:ÿn=Â:=by let:=I.big;rw[Ők];show wJ ûn
 let w:∀b o,Ă b=À o->x.get? b=À o:=λb o k=>by let g:=Ĥ k;show(l.2 b (wJ (ϓ g))).trans (ĝ _ k)
 show{.ref Ý,_,īa (a:=Ý) (o:=.dK kvs) (t':=Ć) w ċ (C5 j i c t),rfl,q _ ĵc}
nonrec def O9:Á D->É D
 | [.dic ks ds]=>À ŧm|_=>Ä
def y80{X:Cx}{e:Õ}{fs:FA}{p pos:Pos}(u:Gl X Ź)(n:ñ Ź=Ä)(hv:Ţ Ź=À ϖb)(m:SA X [e] fs)(i:Î ϊ q11):SF X ŝk (eL O9 fs):=by
 let{t,w,k}:=m.h;refine{{_,(Xh rh u n hv {w} Í Í ϳk).h,λ{A J G H τ σ d Q} E b q=>?_}};let{C,g,b}:=zD b;show k E g λB y F c j=>?_
 unfold O9 at b
 rw[Ϧo];rename_i z I;cases b;let{v,rfl,a,r,rfl,o,s,x,l}:=uU j;show{a,_,rfl,ϯb ĭb o,λp f=>?_};show q p _ _ (Ťa (ĭa ĭb f)) (ϖd f) (êf f) {r,yS,s,x,l};cases b
#print L3
namespace L3
def x3e:ve .zG=Æ:=rfl
def x3f(b:Ð):ve ϭa=Æ:=rfl
def x3g(i:Å):ve Ϡ=Æ:=rfl
def x3h(x:îf):ve œb=Æ:=rfl
def x3i(ds:Á D):ve ăf=Øa ds:=rfl
def x3j:Øa []=Æ:=rfl
def x3k(d:D)(ds:Á D):Øa (d::ds)=Ϡg:=rfl
def oR(i:Ã)(π:Á xX)(d:D):k8 ńi i π=.v d:=rfl
def x0s(d:D):vd ńi=d:=rfl
def x0t(d:D):vd (.own d)=d:=rfl
def x0u(x:îf)(fs:Á îf)(ms:Á M):vd Ϥg=.obj x fs Ϛb:=rfl
def x0v(ks:Á (Sum Å îf))(ms:Á M):vd Ţm=.dic ks Ϛb:=rfl
def x0w:ŉc []=[]:=rfl
def x0x(m:M)(ms:Á M):ŉc ıi=vd m::ŉc ms:=rfl
def oW(x:M):qQ x []=À x:=rfl
def y4f(x y:M):qB x [] y=À y:=rfl
def z5e(g:MG)(b:yX)(x:yC):kQ g b [] x=À (.nx x):=rfl
def z5f(g:MG)(b:yX)(x:yC)(d:D)(r:Á D):type_of% (kQ.eq_2 g b x d r):=rfl
open ě ħ Ģ L2
def fldk_nil{K:Ñ}{f:È}:wY K [] f:=λx a=>Þ a ï
def fldk_cons{K:Ñ}{f c:È}{C:Ì}{d:Á È}(ns:Ū K ď c=À ôa)(g:ud K C)(h:ħa K Ō f=À Ä)(r:wY K d f):wY K (c::d) f:=λx b e a=>by rcases Ī b with rfl|b;rw[ns]at a;cases a;show{g,h};show r x b e a
def CO:Á D->É D
 | [.lst xs]=>(ĳi).bind λa=>match a.all Ýj&&decide (Ũa<=1000)with
  |Æ=>À (.int a.sum)|Â=>Ä
 |_=>Ä
theorem lM:∀{ns:Á Å},(∀n∈ns,0<=n/\n<1099511627776)->0<=ői/\ői<=1099511627776*(ś:Å)
 | [],_=>{ða _,by decide}|n::ns,h=>by
  let{a,b}:=lM λm e=>h m ϧn
  let{c,d}:=h n ī;rw[Že,Ď]
  rw[ύo];omega;push_cast
  omega
def y1a{K:Ñ}:Yx K (f_ K) CO:=λG H m t d Q s r b q=>by
 rcases m with _|⟨x_,r_⟩;cases b
 cases x_<;>first|(cases b;done)|skip
 cases r_<;>first|(cases b;done)|skip
 rename_i j;let{ns,o,b}:=zD (show(kO j).bind _=À d from b);cases c:(ns.all Ýj&&decide (ś<=1000))with
 |Â=>rw[c]at b;cases b|Æ=>
  rw[c]at b;cases b;rw[Ğ]at c;let w:=ŭ c.2
  let f:∀n∈ns,0<=n/\n<1099511627776:=λn e=>by let:=ϐa c.1 n e;rw[Ğ]at this;show{ŭ this.1,ŭ this.2}
  let{v,rfl,a,u,rfl,g,p,l}:=uU r;rw[Ek o p]at g;show{a,ns,rfl,.inl g,{λn e=>?_,λk x=>?_},q _ _ _ ϫ rfl};let:=f n e
  constructor<;>omega;let:=lM (ns:=ns.take k) λn e=>f n (įe e)
  let h:(Ϲe).length<=1000:=by rw[ąa];omega
  let y:((Ϲe).length:Å)<=1000:=by exact_mod_cast h
  constructor<;>omega
def GF(i:Ã)(F:D->D->É D)(f:FE):yX:=λβ=>(e2 F Ųi f ϋd).bind λd=>À (.nx ύn)
section
variable{X:Cx}{np:Ã}{x c:È}{p pos èa:Pos}{e:Õ}{f:FE}{F:D->D->É D}
def z66{i:Ã}{n:Ïd}{m:TH}(J:IQ X n m)(I:u9 X.K m F)(s:Ĥa)(hi:X.N[i]?=À x)(c:pV ϸ x)(U:np<=i)(C:SE X e f)(b:Î ża q3) :MS X np (.AugAssign Óh n e pos) (GF i F f):=by let{t,Q,k}:=C.h;show{{_,ef s hi c Q J b,λ{P T S G H β σ R E} Y K b q=>?_}};let{d,a,b}:=zD b;cases b;let{x,c,a}:=zD a;let{y,L,a}:=zD a;let l:=K.Ua;let{v,O,o}:=l.fr _ _ (C9 c);show{v,O,k l L λu p B j z=>I p B x y v u d _ j.gh (ŏi j.g) z a λw Z H2 r A=>?_};show q _ _ _ (((ϴd).go r).Bb Œb.1 Ê A)
#print a
def zO(K:Ñ)(x:È)(st:Ø):Ç:=
 ∃(f:Ì) (od an:É Ì) (sl:Ú ϟa) (oc kV dc pm cd ct:Value),Ū K ď x=À Ņa/\ϋ f=OH x st oc od sl kV dc pm an cd ct/\Ěb K cd x=Æ/\âa K İ=Æ
section
variable{K:Ñ}{mg:È->É Value}{h:Heap}{x p0 p1 p2 p3:È}{st:Ø}{ps:Á È}
def fnp_mk{f:Ì}{g j:É Ì}{e:Ú ϟa}{i kV d h b ct:Value}(a:Ū K ď x=À Ņa)(l:ϋ f=OH x st i g e kV d h j b ct)(c:Ěb K b x=Æ)(k:âa K İ=Æ):zO K x st:={_,_,_,_,_,_,_,_,_,_,a,l,c,k}
def zO.d(a:zO K x st)(X:Ő h)(G:ýa ď mg)(b:∀(kV g j:Value)(i:É Ì)(e ct:Value)(us:Á Value),Ũ=ĥ->Ĕf (Ľc x x çd ϱ ľ .none kV g j i e ct) {us,[]}=pure ϔb):Def K mg x st ps:=by let{f,p,i,q,m,kV,n,j,o,ct,a,l,c,k}:=a;let F:=c7 (st:=st) l c k;show{_,_,F,Śb X G a,F.binds b}
abbrev BA(x:È)(st:Ø)(us:Á Value)(ps:Á È):Ç:=∀(kV doc pm:Value)(an:É Ì)(cdv ct:Value),Ĕf (Ľc x x çd ϱ ľ .none kV doc pm an cdv ct) {us,[]}=pure ϔb
def zO.d1(a:zO K x st)(X:Ő h)(G:ýa ď mg)(b:Î (∀u,BA x st [u] [p0]) q15):Def K mg x st [p0]:=a.d X G λ_ _ _ _ _ _=>us1 λu=>b u _ _ _ _ _ _
def zO.d2(a:zO K x st)(X:Ő h)(G:ýa ď mg)(b:Î (∀u v,BA x st [u,v] ϳd) q15):Def K mg x st ϳd:=a.d X G λ_ _ _ _ _ _=>us2 λu v=>b u v _ _ _ _ _ _
def zO.d3(a:zO K x st)(X:Ő h)(G:ýa ď mg)(b:Î (∀u v y,BA x st [u,v,y] ôn) q15):Def K mg x st ôn:=a.d X G λ_ _ _ _ _ _=>us3 λu v y=>b u v y _ _ _ _ _ _
def zO.d4(a:zO K x st)(X:Ő h)(G:ýa ď mg)(b:Î (∀u v y z,BA x st [u,v,y,z] łd) q15):Def K mg x st łd:=a.d X G λ_ _ _ _ _ _=>us4 λu v y z=>b u v y z _ _ _ _ _ _
def _root_.L2.Def.oS(d:Def K mg x st ps)(P:ë)(w:å)(a:Heap)(k:Ã)(F:Á D->É ê)(S:zc N ps ľ)(i:∀ds r,F ds=À r->ę=ĥ/\yI ϗ b ds=À r)(h:∀{f:Ì}{c:Value}{A:û}{Ā:Á Env}{s:Ï}{H:Hp}{E:XK},yj k æg->uf (öj).t6 ϱ b)(g:Î Ëf q7):wB P w K mg a x ps Ĝ ϡd:=Def.nk d S g i λ_ _ _ _ _ _ _ e=>h e
def _root_.L2.Def.oM(d:Def K mg x st ps)(P:ë)(w:å)(a:Heap)(k:Ã)(F:FM)(S:zc N ps ľ)(i:∀ms r,F ms=À r->Ϻ=ĥ/\vK ĥ ϗ b ms=À r)(h:∀{f:Ì}{c:Value}{A:û}{Ā:Á Env}{s:Ï}{H:Hp}{E:XK},yj k æg->pX (öj).t6 ĥ ϱ b)(g:Î Ëf q7):wB P w K mg a x ps Ĝ ϟd:=Def.J_ d S g i λ_ _ _ _ _ _ _ e=>h e
def wR.oM(d:wR K x q st f fd)(P:ë)(w:å)(mg:È->É Value)(a:Heap)(k:Ã)(F:FM)(S:zc N ps ľ)(i:∀ms r,F ms=À r->Ϻ=ĥ/\vK ĥ ϗ b ms=À r)(h:∀{c:Value}{A:û}{Ā:Á Env}{s:Ï}{H:Hp}{E:XK},yj k ϥj->pX (øj).t6 ĥ ϱ b)(g:Î Ëf q7):y_ P w K mg a yu Ĝ f fd ps ϟd:=d.J_ S g i λ_ _ _ _ _ _ e=>h e
def wR.oF(d:wR K x q st f fd)(P:ë)(w:å)(mg:È->É Value)(a:Heap)(k:Ã)(F:Á D->É ê)(S:zc N ps ľ)(i:∀ds r,F ds=À r->ę=ĥ/\yI ϗ b ds=À r)(h:∀{c:Value}{A:û}{Ā:Á Env}{s:Ï}{H:Hp}{E:XK},yj k ϥj->uf (øj).t6 ϱ b)(g:Î Ëf q7):y_ P w K mg a yu Ĝ f fd ps ϡd:=d.nj S g i λ_ _ _ _ _ _ e=>h e
#print a
#print L3
namespace L2
open ě ħ ź Ģ
nonrec def w6(p:Ù):Å:=numOf p.1
def yR(p q:Ù):Ç:=w6 p<=w6 q
def Xr(p:Ù):Ç:=∃n t,p.1=.int n t
def vQ(x:Ú Ù):Ç:=∀(i:Ã) p,x[i]?=À p->Xr p
nonrec def XF:Ð->Ù->Ú Ù->Ã->Ã->Ã->Ņ ø Sem ėc:=sortPriv% PySem.Builtin.gallop
nonrec def dZ:Ú Ù->Ú Ù->Ņ ø Sem ϟb:=sortPriv% PySem.Builtin.mergeLo
nonrec def dY:Ú Ù->Ú Ù->Ņ ø Sem ϟb:=sortPriv% PySem.Builtin.mergeHi
section
variable{Ē:ë}{w:å}{A:û}{E:Value->Ï->Ç}{s:Ï}
def v6{x:Ú Ù}{i:Ã}{p:Ù}{st:ø}{Q}(h:x[i]?=À p)(q:Q p st):wpS è A E s (æa x i) Q st:=by rw[elem'_eq,h];show î q
def w_lt{p q:Ù}{st:ø}{Q:É Ð->ø->Ç}(hk:ţf st=ϑd)(d:Xr p)(c:Xr q)(h:Q (À (decide (w6 p<w6 q))) st):wpS è A E s (lt' p q) Q st:=by obtain⟨⟨a,t,e⟩,⟨b,u,f⟩⟩:=æ d c;rw[lt'_eq];rw[ϻo];unfold w6 at h;rw[hk,keyLt'_oneType,e,f];rw[e,f]at h;show ä (čg (ļe (śn {rfl,î h})))
def Nf(B:Ã->Ð)(n hi:Ã):Ç:=hi<=n/\(∀i,i<hi->B i=Æ)/\∀i,hi<=i->i<n->B i=Â
nonrec def jK(left:Ð)(k:Å)(f:Ã->Å)(i:Ã):Ð:=if left then decide (f i<k)else !decide (k<f i)
def x6y{left:Ð}{a x:Ù}{st:ø}{Q:É Ð->ø->Ç}(hk:ţf st=ϑd)(b:Xr a)(c:Xr x)(h:Q (À (jK left (w6 a) (λ_=>w6 x) 0)) st) :wpS è A E s (if left=Æ then lt' x a else do let y <-lt' a x;pure Ék) Q st:=by
 cases left with
 |Æ=>show w_lt hk c b h|Â=>show ä (w_lt hk b c (î h))
def MJ{β:Type}{n:Ã}{c:β}{f:Ã->β->Ņ ø Sem (Ϛa β)}{st:ø}{Q R:β->ø->Ç}(I:Ã->β->Ç)(h:I 0 c)(d:∀i c,i<n->I i c->wpS è A E s (f i c) (λr st'=>match r with|.done c'=>Q c' st'|.yield c'=>st'=st/\I ù c') st)(a:∀c,I n c->Q c st)(b:∀c st',Q c st'->R c st'):wpS è A E s ϓl R st:=by show őc (ſa (I:=λi c st'=>st'=st/\I i c) (Q:=Q) ?_ ?_ {rfl,h}) b;rintro i c _ _ e ⟨rfl,h⟩;show d i c e h;rintro c _ ⟨rfl,h⟩;rw[Ϙe]at h;show a c h
def mC{B:Ã->Ð}{n lo hi:Ã}{st:ø}{f:Ã->É ėc×Ã×Ã->Ņ ø Sem (Ϛa (É ėc×Ã×Ã))}{R:É ėc×Ã×Ã->ø->Ç}(a:∀i j,i<=j->j<n->B j=Æ->B i=Æ)(F:lo<=hi)(v:hi<=n)(z:∀i,i<lo->B i=Æ)(C:∀i,hi<=i->i<n->B i=Â)(f1:∀x l r Q,r<=l->Q (.done (Ä,l,r)) st->wpS è A E s řl Q st)(f2:∀x l r Q,l<r->r<=n->(B Ϻe=Æ->Q (.yield (Ä,l+(r-l)/2+1,r)) st)->(B Ϻe=Â->Q (.yield (Ä,l,l+(r-l)/2)) st)->wpS è A E s řl Q st)(q:∀m,Nf B n m->R (Ä,m,m) st):wpS è A E s (âb [:n] (Ä,lo,hi) f) R st:=by show MJ (Q:=λc o=>o=st/\∃m,c=(Ä,m,m)/\Nf B n m) (λx c=>∃l r,c=(Ä,l,r)/\l<=r/\r<=n/\r+x<=n+l/\(∀i,i<l->B i=Æ)/\∀i,r<=i->i<n->B i=Â) {lo,hi,rfl,F,v,ſl v ňf,z,C} ?_ ?_ ?_;rintro x _ H ⟨l,r,rfl,k,b,G,d,h⟩;by_cases c:r<=l;cases öc k c;show f1 _ _ _ _ c {rfl,l,rfl,b,d,h};let u:=ϓa l ((r-l)/2);let t:=Ĉk (Nat.div_lt_self (łg ĵe) (ïb 1));show f2 _ _ _ _ ĵe b ?_ ?_<;>(generalize l+(r-l)/2=m at u t ⊢;intro e);show{rfl,_,r,rfl,t,b,by omega,λi p=>a i m (Ÿc p) (Ŧ t b) e,h};refine{rfl,l,_,rfl,u,by omega,by omega,d,λi p y=>?_};cases e2:B i;rfl;rw[a _ i p y e2]at e;cases e;rintro _ ⟨l,r,rfl,k,b,G,d,h⟩;cases öc k Ê;show{rfl,l,rfl,b,d,h};rintro _ _ ⟨rfl,m,rfl,g⟩;show q m g
def x73{left:Ð}{f:Ù}{x:Ú Ù}{b n d:Ã}{st:ø}{Q:É Ã->ø->Ç}(hk:ţf st=ϑd)(S:Xr f)(J:vQ x)(X:b+n<=ļ)(G:d<n)(P:∀i j,i<=j->j<n->K x (b+i)<=K x (b+j))(h:∀hi,Nf ŕj n hi->Q (À hi) st) :wpS è A E s (XF left f x b n d) Q st:=by
 have H:∀i Q,i<n->Q (À (jK left Øe Še i)) st->wpS è A E s (æa x (b+i) >>= λx=>if left=Æ then lt' x f else do let y <-lt' f x;pure Ék) Q st:=by
  intro i Q hi q;rw[Ųo];show ä (v6 e (x6y hk S (J _ _ e) ?_));let e2:K x (b+i)=w6 x[b+i]:=by unfold K;rw[e];rfl
  let L:jK left Øe (λ_=>w6 x[b+i]) 0=jK left Øe Še i:=by unfold jK;simp only[e2]
  rw[L];show q
 let k:∀i j,i<=j->j<n->jK left Øe Še j=Æ->jK left Øe Še i=Æ:=by intro i j U R;let:=P i j U R;unfold jK;cases left;simp only[Ĵa,Ÿ,Bool.not_eq_true',decide_eq_false_iff_not];omega;simp only[Ŗ,Çl];omega
 generalize ŕj=B at h H k;unfold XF;show ä (H d _ G ?_);cases e:B d;show ä (MJ (Q:=λc v=>v=st/\∃l o,c=(Ä,l,o)/\l<=d/\B (d-l)=Â/\l<o/\∀i,i+o<=d->B i=Æ) (λx c=>∃l o,c=(Ä,l,o)/\l<=d/\B (d-l)=Â/\l<o/\x<o) {0,1,rfl,Ĉa _,e,įd,įd} ?_ ?_ ?_);rw[ŭo]
 split;show î {rfl,l,o,rfl,t,p,u,λi _=>by omega};let lo:=Àb (Nat.sub_le d o) G;show ä Đm;cases e2:B (d-o);show î {rfl,o,_,rfl,by omega,e2,by omega,by omega};show î {rfl,l,o,rfl,t,p,u,λi F=>k i _ (Nat.le_sub_of_add_le F) lo e2};rintro _ ⟨l,o,rfl,t,p,u,C⟩;show{rfl,l,o,rfl,t,p,u,λi _=>by omega};rw[Ϟo];refine ä (mC (B:=B) (lo:=d+1-min o (d+1)) (hi:=d-l) k (ģ (ők (ϗg {u,Ĭe t}) _) (ŀb (Nat.add_sub_add_right ..))) (ϯ (Àb Ļb G)) (λi a=>C i (by let:=Nat.add_lt_of_lt_sub a;omega)) (λi F I=>?_) Šk Úk λm g=>î (h m g));cases e2:B i;rfl;rw[k _ i F I e2]at p;cases p;rw[Ϙo];show ä (MJ (Q:=λc v=>v=st/\∃l o,c=(Ä,l,o)/\d+l<n/\B (d+l)=Æ/\l<o/\∀i,d+o<=i->i<n->B i=Â) (λx c=>∃l o,c=(Ä,l,o)/\d+l<n/\B (d+l)=Æ/\l<o/\x<o) {0,1,rfl,G,e,įd,įd} ?_ ?_ ?_);rw[ŭo]
 split;rw[ŵo]
 replace c:=Nat.le_add_of_sub_le c
 show î {rfl,l,o,rfl,t,p,u,λi _ _=>by omega};rw[ŵo];let lo:=Ĉk ĵe;show ä Đm;cases e2:B (d+o);show î {rfl,l,o,rfl,t,p,u,λi F I=>by cases L:B i;rfl;rw[k _ i F I L]at e2;cases e2};show î {rfl,o,_,rfl,lo,e2,by omega,by omega};rintro _ ⟨l,o,rfl,t,p,u,C⟩;show{rfl,l,o,rfl,t,p,u,λi _ _=>by omega};rw[Ϟo];show ä (mC (B:=B) (lo:=d+l+1) (hi:=d+min o (n-d)) k (Nat.add_lt_add_left (Nat.lt_min.mpr {u,Nat.lt_sub_of_add_lt (Ϡc .. ▸ t)}) _) (ģ (ůc (ϭf ..) _) (ŀb (šc (ϯ G)))) (λi F=>k i (d+l) (Ÿc F) t p) (λi a b=>?_) Šk Úk λm g=>î (h m g));rcases Ϛe o (n-d)with z|z;rw[řa z]at a;show C i a b;rw[ře z,šc (ϯ G)]at a;show Þ b (ϔc a);rw[Ϙo]
#print a
structure u0(R:Ù->Ù->Ç)(t o x y:Á Ù):Ç where
 p:(o++Õe).Perm t
 sx:(o++x).Pairwise R
 sy:(o++y).Pairwise R
section
variable{R:Ù->Ù->Ç}{t o m x y:Á Ù}
def ĳf(h:u0 R t o x y):u0 R t o y x:={(ďg o List.perm_append_comm).trans h.p,h.sy,h.sx}
def Ĵf(h:u0 R t o (m++x) y)(c:∀p∈m,∀q∈y,R p q):u0 R t (o++m) x y:=by let{p,a,b}:=h;show{?_,?_,?_};rw[ř]at p ⊢;show p;rw[ř];show a;rw[List.pairwise_append]at a b ⊢;show{?_,b.2.1,λp e q d=>?_};show Şc {a.1,(ķb a.2.1).1,λp e q d=>a.2.2 p e q (ãc _ d)};rcases Ăa e with z|z;show b.2.2 p z q d;show c p z q d
def ŋi(h:u0 R t o x y)(c:∀p∈x,∀q∈y,R p q):(Éo).Perm t/\(Éo).Pairwise R:=by let:=(Ĵf (m:=x) (x:=[]) (by rw[ŷ];show h) c);show{by rw[ř];show h.p,this.sy}
#print a
def Ŵa{p q r:Ù}(a:yR p q)(b:yR q r):yR p r:=ϡc a b
section
variable{Ē:ë}{w:å}{A:û}{E:Value->Ï->Ç}{s:Ï}
def Vy{left:Ð}{a:Ù}{x:Ú Ù}{b n d:Ã}{st:ø}{Q:É Ã->ø->Ç}(hk:ţf st=ϑd)(f:Xr a)(t:vQ x)(r:b+n<=ļ)(o:d<n){z:Á Ù}(m:(Ìm b).take n=z)(q:z.Pairwise yR)(h:∀k,k<=n->(∀p∈z.take k,if left then w6 p<w6 a else yR p a)->(∀p∈z.drop k,if left then yR a p else w6 a<w6 p)->Q (À k) st) :wpS è A E s (XF left a x b n d) Q st:=by
 have y:ĕ=n:=by rw[<-m,ąa,ϔa,ť];omega
 let g:∀i (l:i<ĕ),K x (b+i)=w6 z[i]:=by intro i l;subst m;rw[Ųo];unfold K;rw[e,Ìl,Íl,Ŭc];rfl
 show x73 hk f t r o (λi j u v=>?_) λk c=>h k c.1 (λp f=>?_) λp f=>?_;rw[g i Ê,g j Ê];by_cases e:i=j;subst e;rw[žo];show Õg q i j _ _ Ê;let{i,l,rfl}:=List.mem_take_iff_getElem.mp f;let:=c.2.1 i Ê;simp only[jK,g i (show i<ĕ by omega)]at this;cases left;show íc ĕk;rw[ċo];let{i,l,rfl}:=List.mem_drop_iff_getElem.mp f;let:=c.2.2 (k+i) Ê Ê;simp only[jK,g (k+i) Ê]at this;simp only[Ϡc k i]at this ⊢;cases left;rw[ċo];show íc ĕk
def qE{β:Type}(Q I:β->Ç):Ϛa β->Ç
 |.done c=>Q c|.yield c=>I c
abbrev yL(a:Ú Ù)(p:Ú Ęa)(f:É Value)(g:Ã):ø:=Čb ϑd a p g f
def Vx{β:Type}{n:Ã}{c:β}{f:Ã->β->Ņ ø Sem (Ϛa β)}{a p fl g}{R:β->ø->Ç}(I:Ã->β->Ç)(Q:β->Ç)(h:I 0 c)(e:∀i c g,i<n->I i c->wpS è A E s (f i c) (λr st'=>∃g',st'=yL a p fl g'/\qE Q (I ù) r) Ëh)(b:∀c,I n c->Q c)(d:∀c g,Q c->R c Ëh):wpS è A E s ϓl R Ëh:=by show őc (ſa (I:=λi c st'=>∃g,st'=yL a p fl g/\I i c) (Q:=λc st'=>∃g,st'=yL a p fl g/\Q c) ?_ ?_ {g,rfl,h}) ?_;rintro i c _ _ j ⟨g,rfl,h⟩;show őc (e i c g j h) ?_;rintro r _ ⟨g,rfl,h⟩;cases r<;>show{g,rfl,h};rintro c _ ⟨g,rfl,h⟩;rw[Ϙe]at h;show{g,rfl,b c h};rintro c _ ⟨g,rfl,h⟩;show d c g h
#print a
def xZ(t:Á Ù)(a b o:Ú Ù)(i j:Ã):Ç:=u0 yR t Ϻh ŉf (Žb j)
def vo(t:Á Ù)(r:Ú Ù):Ç:=r.toList.Perm t/\r.toList.Pairwise yR
section
variable{t:Á Ù}{a b o:Ú Ù}{i j k:Ã}{p:Ù}
def C7(h:a[i]?=À p):ŗa i=p::ŗa ù:=by let{b,rfl}:=řc h;rw[ĸb ūk,Ŭc]
theorem xZ.swap(h:xZ t a b o i j):xZ t b a o j i:=ĳf h
def xZ.pa(h:xZ t a b o i j)(e:a[i]?=À p)(c:∀q∈Žb j,yR p q):xZ t a b Èd ù j:=by unfold xZ at h ⊢;rw[C7 e]at h;rw[ňg];show Ĵf (m:=[p]) h λq d=>Üa d▸c
def xZ.pb(h:xZ t a b o i j)(e:b[j]?=À p)(c:∀q∈ŗa i,yR p q):xZ t a b Èd i ϒ:=(ŗl).swap
def xZ.ca(h:xZ t a b o i j)(c:∀p∈(ŉf).take k,∀q∈Žb j,yR p q):xZ t a b ţe Ŋc j:=by unfold xZ at h ⊢;rw[<-Ŕa k ŉf,ϙg]at h;rw[æc,ēd,Ĉd,õg];show h.move c
def xZ.cb(h:xZ t a b o i j)(c:∀p∈(Žb j).take k,∀q∈ŗa i,yR p q):xZ t a b (o++ϝa j (j+k)) i (j+k):=(Ťn c).swap
theorem xZ.fin(h:xZ t a b o i j)(c:∀p∈ŗa i,∀q∈Žb j,yR p q):vo t (o++ąb i ó++ϝa j Ű):=by
 let e:∀(x:Ú Ù) k,(ŷc k ļ).toList=Ìm k:=λx k=>by rw[ēd,Ĉd];show ţc (by rw[ϔa,ť];show ïa _)
 unfold vo;rw[æc,æc,e,e];show ŋi h c
def xZ.hd(h:xZ t a b o i j)(e:a[i]?=À p):∀q∈ŗa i,yR p q:=by unfold xZ at h;let:=(ķb h.sx).2.1;rw[C7 e]at this ⊢;intro q c;rcases Ī c with rfl|c;rw[žo];show(Ũc this).1 q c
def xZ.sa(h:xZ t a b o i j):(ŉf).Pairwise yR:=īj.2.1
def dk(h:i=ó){P:Ù->Ç}:∀p∈ŗa i,P p:=by rw[Ťc ğd];intro p b;cases b
def aN(h:Ű-i=k):(Žb i).take k=Žb i:=ţc (by rw[ϔa,ť];omega)
#print a
abbrev iw:=É ϟb×Ú Ù×Ã×Ã×Ã
abbrev Ln:=É ϟb×Ú Ù×Ã×Ã×Ã×Ã
abbrev YJ:=É ϟb×Ú Ù×Ã×Ã×Ã×Ã×Ã
structure Xs(t:Á Ù)(a b:Ú Ù)(x:Ã)(o:Ú Ù)(i j:Ã):Ç where
 l:xZ t a b o i j
 p:i+1<ó
 q:j<Ű
 s:x<i+j
section
variable(t:Á Ù)(a b:Ú Ù)(x:Ã)
inductive Ly:iw->Ç
 |mk {o i j m}:Xs t a b x o i j->Ly (Ä,o,i,j,m)
inductive JE:Ln->Ç
 |mk {o i j m n}:Xs t a b x o i j->JE (Ä,o,i,j,m,n)
inductive YK:Ln->Ç
 |fin {r c}:vo t r->YK (À r,c)
 |go {o i j m n}:Xs t a b x o i j->YK (Ä,o,i,j,m,n)
inductive Vs:YJ->Ç
 |mk {o i j m n q}:Xs t a b x o i j->Vs (Ä,o,i,j,m,n,q)
inductive jL:YJ->Ç
 |fin {r c}:vo t r->jL (À r,c)
 |go {o i j m n q}:Xs t a b x o i j->jL (Ä,o,i,j,m,n,q)
#print a
def kS{a b:Ã}(h:a<=b)(c:¬ϋi=Æ):a<b:=ϋk h λe=>c (ϓc e)
def Y9{a:Ã}(c:¬(a==0)=Æ):∃n,a=n+1:=Nat.exists_eq_succ_of_ne_zero λe=>c (ϓc e)
nonrec def Lv(r:É Ã)(f:Ã->Ņ ø Sem β)(g:Ņ ø Sem β):Ņ ø Sem β:=(sortPriv% PySem.Builtin.mergeLo.match_1) ħe r f λ_=>g
section
variable(a b:Ú Ù)
nonrec def Z1(o:Ú Ù)(i j:Ã):Ú Ù:=o++ąb i ó++ϝa j Ű
nonrec def Lm(o:Ú Ù)(i j:Ã):Ú Ù:=o++ϝa j Ű++ąb i ó
def No(o:Ú Ù)(i j g k m:Ã):Ņ ø Sem Ĝf:=do
 let p <-æa a i
 if Ŕm=Æ then pure (.done (À ϻk,ţ p,i+1,j,g,k,m))
 else if(decide (k<7)&&decide (m<7))=Æ then pure (.done (Ä,ţ p,i+1,j,g,k,m))else pure (.yield (Ä,ţ p,i+1,j,g,k,m))
def Nn(o:Ú Ù)(i j g k u:Ã):Ņ ø Sem Ĝf:=do
 let q <-æa b j
 if Ğn=Æ then pure Äj
 else do
  let p <-æa a i
  let r <-XF Æ p b ϒ (Ű-ϒ) 0
  Lv r (λm=>
   if m>0 then
    if(j+1+m==Ű)=Æ then pure (.done (À (Z1 a b Ϻj i ĵi),ţ q++ϝa ϒ ĵi,i,j+1+m,g,k,m))
    else No a b Ϻj i ĵi g k m
   else No a b Ňf i ϒ g k m) (pure Äj)
def Nm(o:Ú Ù)(i j n u g:Ã):Ņ ø Sem Ĝf:=do
 Ļc λs=>Čb Đc Ęc ϵb g ĉc
 let q <-æa b j
 let r <-XF Â q a i (ó-i) 0
 Lv r (λk=>
  if k>0 then
   if(i+k+1==ó)=Æ then pure (Γd (Lm a b ţe Ŋc j) Ŋc)
   else if(i+k==ó)=Æ then pure (Γd (Z1 a b ţe Ŋc j) Ŋc)
   else Nn a b ţe Ŋc j g k u
  else Nn a b o i j g k u) (pure (.done (À Ŵe,o,i,j,g,n,u)))
nonrec def JD(r:É α)(f:α->Ņ ø Sem β)(g:Ņ ø Sem β):Ņ ø Sem β:=Break.runK.match_1 ħe r f λ_=>g
nonrec def i_(r:É Ð)(f:Ð->Ņ ø Sem β)(g:Ņ ø Sem β):Ņ ø Sem β:=(sortPriv% PySem.Builtin.countRun.match_1) ħe r f λ_=>g
def l6(o:Ú Ù)(i j g m n:Ã):Ņ ø Sem (Ϛa Ln):=do
 let q <-æa b j
 let p <-æa a i
 let r <-lt' q p
 i_ r (λt=>
  if t=Æ then do
   let q <-æa b j
   if Ğn=Æ then pure (.done (À (Z1 a b Ňf i ϒ),ţ q,i,j+1,0,n+1))
   else if n+1≥g then pure (.done (Ä,ţ q,i,j+1,0,n+1))else pure (.yield (Ä,ţ q,i,j+1,0,n+1))
  else do
   let p <-æa a i
   if Ŕm=Æ then pure (.done (À ϻk,ţ p,i+1,j,m+1,0))
   else if m+1≥g then pure (.done (Ä,ţ p,i+1,j,m+1,0))else pure (.yield (Ä,ţ p,i+1,j,m+1,0))) (pure (.done (À Ŵe,o,i,j,m,n)))
def y8w(x:YJ):Ņ ø Sem Ĝf:=if x.2.2.2.2.1>1 then Nm a b x.2.1 x.2.2.1 x.2.2.2.1 x.2.2.2.2.2.1 x.2.2.2.2.2.2 (x.2.2.2.2.1-1)else Nm a b x.2.1 x.2.2.1 x.2.2.2.1 x.2.2.2.2.2.1 x.2.2.2.2.2.2 x.2.2.2.2.1
def y8x(o:Ú Ù)(i j g:Ã):Ņ ø Sem (Ϛa iw):=do
 let d <-âb [:ó+Ű] ((Ä,o,i,j,0,0):Ln) λ_ d=>l6 a b d.2.1 d.2.2.1 d.2.2.2.1 g d.2.2.2.2.1 d.2.2.2.2.2
 JD d.1 Èj do
  liftM ϫj
  let e <-âb [:ó+Ű] ((Ä,d.2.1,d.2.2.1,d.2.2.2.1,g+1,d.2.2.2.2.1,d.2.2.2.2.2):YJ) λ_ e=>y8w a b e
  JD e.1 ϭi do
   Ļc λs=>Čb Đc Ęc ϵb Šl ĉc
   pure Îj
#print a
def Zn(x:Ú Ù)(i:Ã)(h:i<ļ):∃p,x[i]?=À p:={_,getElem?_pos x i h}
section
variable{t:Á Ù}{a b:Ú Ù}(hl:∀q∈Ģc,∀p∈ŗa ōf,yR q p)
include hl in
theorem xZ.lst{o i j}(l:xZ t a b o i j)(e:i+1=ó):vo t (Lm a b o i j):=çn λq d p c=>hl q (List.drop_subset _ _ d) p (by rw[show ó-1=i by omega];show c)
def xZ.da{o i j}(l:xZ t a b o i j)(e:i=ó):vo t Ŵe:=żf (dk e)
def xZ.db{o i j}(l:xZ t a b o i j)(e:j=Ű):vo t Ŵe:=żf λp c=>dk e
#print a
section
variable{Ē:ë}{w:å}{A:û}{E:Value->Ï->Ç}{s:Ï}
def yo{α:Type}{c:Ç}[Űn c]{m n:Ņ ø Sem α}{Q:α->ø->Ç}{st:ø}(a:c->wpS è A E s m Q st)(b:¬c->wpS è A E s n Q st):wpS è A E s (if c then m else n) Q st:=by by_cases h:c;rw[Ò h];show a h;rw[Ó h];show b h
section
variable{t:Á Ù}{a b:Ú Ù}(ha:vQ a)(hb:vQ b)(hl:∀q∈Ģc,∀p∈ŗa ōf,yR q p){a0:Ú Ù}{p0:Ú Ęa}{f0:É Value}{x y g m k u:Ã}{o:Ú Ù}{i j:Ã}{p q:Ù}
include hl in
theorem mI(l:xZ t a b o i j)(ep:a[i]?=À p)(c:∀r∈Žb j,yR p r)(e:i+1<ó)(d:j<Ű)(h:x<=i+j)(f:y<=x):wpS è A E s (No a b o i j g k m) (θ (jL t a b y) (Vs t a b x)) Źb:=by
 replace l:=l.pa ep c
 show ä (v6 ep (υ (γb Ϫl)))
 replace c:=kS e c
 show yo (λ_=>î {g,rfl,jL.go {l,c,d,by omega}}) λ_=>î {g,rfl,Vs.mk {l,c,d,by omega}}
include ha hb hl in
theorem mH(l:xZ t a b o i j)(n:b[j]?=À q)(c:∀r∈ŗa i,yR q r)(h:i+1<ó)(G:x<i+j+1)(e:y<=x):wpS è A E s (Nn a b o i j g k u) Ĭj Źb:=by
 let B:=(řc n).1
 replace l:=l.pb n c
 show ä (v6 n (υ (γb (l.db ķa))))
 replace c:=kS B c
 replace e:=ōe e
 let{p,d}:=Zn a i (ëc h);show ä (v6 d (ä (Vy rfl (ha _ _ d) hb ŋl (łg c) (aN rfl) şn λm f e1 e2=>?_)));rw[ϙg]at e2
 replace f:j+1+m<=Ű:=Ϡc .. ▸ Ĩk įc f
 show yo þf λC=>?_;let v:=l.cb λp F r z=>Ŵa (áa (e1 p F)) (l.hd d r z)
 refine yo (γb (v.db ķa)) λc=>mI hl v d e2 h (kS f c) Ê e;cases Æg C;show mI hl l d e2 h c G e
include ha hb hl in
theorem mG(l:xZ t a b o i j)(z:i+1<ó)(J:j<Ű)(I:x<i+j)(B:y<=x){n G:Ã}:wpS è A E s (Nm a b o i j n u g) Ĭj (yL a0 p0 f0 G):=by
 let{q,e}:=Zn b j J;let h:=ëc z;show ä (Φ (νd (Vy rfl (hb _ _ e) ha (ŀb (šc (ϯ h))) (łg h) (aN rfl) l.sa λk m K d=>?_)));rw[ϙg]at d
 replace d:=λp v=>áa (d p v)
 replace m:i+k<=ó:=Ϡc .. ▸ Ĩk (ϯ h) m
 show yo þf λc=>?_;let f:=l.ca λp v r C=>Ŵa (K p v) (åf e r C)
 refine yo (Τd (f.lst hl ķa)) λH=>yo (Τd (f.da ķa)) λF=>mH ha hb hl f e d (kS (kS m F) H) Ê B;cases Æg c;show mH ha hb hl l e d z (êc I) B
include ha hb hl in
theorem x76(l:Xs t a b x o i j)(B:y<=x+1){n:Ã}:wpS è A E s (l6 a b o i j g m n) (θ (YK t a b y) (JE t a b Ϸa)) ūe:=by
 let{l,h,k,z}:=l;let{p,e}:=Zn a i (ëc h);let{q,f}:=Zn b j k;show ä (v6 f (νd (Κc (hb _ _ f) (ha _ _ e))));by_cases c:w6 q<w6 p;rw[ĉ c];let d:=l.pb f λr v=>Ŵa (áa c) (l.hd e r v)
 show ä (v6 f (χc ğn))
 replace c:=kS k c
 show yo (λ_=>î {_,rfl,YK.go {d,h,c,by omega}}) λ_=>î {_,rfl,JE.mk {d,h,c,ĉl z}};rw[į c];let d:=l.pa e λr v=>Ŵa ġi (åf f r v)
 show ä (v6 e (χc ϯl))
 replace c:=kS h c
 show yo (λ_=>î {_,rfl,YK.go {d,c,k,by omega}}) λ_=>î {_,rfl,JE.mk {d,c,k,by omega}}
include ha hb hl in
theorem x77(l:Xs t a b x o i j):wpS è A E s (y8x a b o i j g) (θ ĉe (Ly t a b Ϸa)) ūe:=by show ä (Ζb (λz=>JE t a b (x+z)) (YK t a b Ϸa));rintro z _ g m ⟨l⟩;show x76 ha hb hl l Ŋl;rintro _ ⟨_,d,e,h⟩;rw[ýo];show ä (Βa (Ζb (λz=>Vs t a b (x+1+z)) (jL t a b Ϸa)));rintro z _ g m ⟨l,d,e,h⟩;let k:=ϓa Ϸa z;show yo (λ_=>mG ha hb hl l d e h k) λ_=>mG ha hb hl l d e h k;rintro _ ⟨_,d,e,h⟩;rw[ýo];show ä (Φ (î {_,rfl,Ly.mk l}))
#print a
def x7b{a b:Ú Ù}{a0 p0 f0 g}{t:Á Ù}{Q:Ú Ù->ø->Ç}(u:vQ a)(n:vQ b)(v:0<ó){y:Ù}(i:b[0]?=À y)(d:xZ t a b #[y] 0 1)(j:∀q∈Ģc,∀p∈ŗa ōf,yR q p)(h:∀r g,vo t r->Q r Źb):wpS è A E s (dZ a b) Q Źb:=by let k:0<Ű:=(řc i).1;unfold dZ;show ä (Βa (v6 i (yo (Δb ğn) λo=>yo (Δb (d.lst j ķa)) λm=>?_)));show ä (Ιb (Vx (λx=>Ly t a b x) ĉe {d,kS v m,kS k o,Nat.one_pos} ?_ ?_ ?_));rintro x _ g C ⟨l⟩;show x77 u n j l;rintro _ ⟨_,B,F,z⟩;rw[ņo]
#print a
def xi(t:Á Ù)(a b o:Ú Ù)(i j:Ã):Ç:=u0 (λp q=>yR q p) t Ϻh (Ϲd).reverse (Ģi).reverse
section
variable{t:Á Ù}{a b o:Ú Ù}{i j k:Ã}{p:Ù}
def Nv(h:a[i]?=À p):öb ù=öb i++[p]:=by let{b,rfl}:=řc h;rw[þe ūk,Ŭc]
theorem xi.swap(h:xi t a b o i j):xi t b a o j i:=ĳf h
def xi.pa(h:xi t a b o ù j)(e:a[i]?=À p)(c:∀q∈ļb j,yR q p):xi t a b Èd i j:=by unfold xi at h ⊢;rw[Nv e,Ĥg]at h;rw[ňg];show Ĵf (m:=[p]) h λq f r d=>Üa f▸c r Ěi
def xi.pb(h:xi t a b o i ϒ)(e:b[j]?=À p)(c:∀q∈öb i,yR q p):xi t a b Èd i j:=(ŗl).swap
def xi.ca(h:xi t a b o i j)(hk:k<=i)(c:∀p∈(Ϲd).drop k,∀q∈ļb j,yR q p):xi t a b ćg k j:=by unfold xi at h ⊢;rw[<-Ŕa k Ϲd,Ĥg,Ϙg,řa hk]at h;rw[æc,Ĭk,ēd,Ĉd,<-List.drop_take];show h.move λp e r d=>c p (ϸf e) r Ěi
def xi.cb(h:xi t a b o i j)(hk:k<=j)(c:∀p∈(Ģi).drop k,∀q∈öb i,yR q p):xi t a b (o++(ϝa k j).reverse) i k:=(Ťn hk c).swap
theorem xi.fin(h:xi t a b o i j)(c:∀p∈öb i,∀q∈ļb j,yR p q):vo t (ąb 0 i++ϝa 0 j++ųh):=by
 let e:∀(x:Ú Ù) k,(ŷc 0 k).toList=x.toList.take k:=λx k=>by rw[ēd,Ĉd];rfl
 let:=ŋi (ĳf h) λq d p g=>c p (ϸf g) q Ěi
 unfold vo;rw[æc,æc,e,e,Ĭk]
 let f:(Ϻh++(Ģi).reverse++(Ϲd).reverse).reverse=öb i++ļb j++o.toList.reverse:=by simp only[Ĥg,List.reverse_reverse,ř]
 rw[<-f];show{(ńg _).trans this.1,äg this.2}
def xi.sa(h:xi t a b o i j):(Ϲd).Pairwise yR:=List.pairwise_reverse.mp īj.2.1
def xi.hd(h:xi t a b o ù j)(e:a[i]?=À p):∀q∈öb ù,yR q p:=by let:=h.sa;rw[Nv e]at this ⊢;intro q c;rcases Ăa c with c|c;show(ķb this).2.2 q c p ī;rw[Üa c];rw[žo]
def dg(h:i=0){P:Ù->Ç}:∀p∈öb i,P p:=by subst h;intro p b;cases b
#print a
abbrev Vr:=É ϟb×Ã×Ã×Ú Ù×Ã×Ã×Ã
abbrev iy:=É ϟb×Ã×Ã×Ú Ù×Ã
abbrev Lo:=É ϟb×Ã×Ã×Ú Ù×Ã×Ã
structure YL(t:Á Ù)(a b:Ú Ù)(x:Ã)(o:Ú Ù)(i j:Ã):Ç where
 l:xi t a b o ù ýd
 p:i<ó
 q:j+1<Ű
 s:x+i+j+3<ó+Ű
section
variable(t:Á Ù)(a b:Ú Ù)(x:Ã)
inductive Lz:iy->Ç
 |mk {o i j m}:YL t a b x o i j->Lz (Ä,i+1,j+2,o,m)
inductive JF:Lo->Ç
 |mk {o i j m n}:YL t a b x o i j->JF (Ä,i+1,j+2,o,m,n)
inductive YM:Lo->Ç
 |fin {r c}:vo t r->YM (À r,c)
 |go {o i j m n}:YL t a b x o i j->YM (Ä,i+1,j+2,o,m,n)
inductive Vt:Vr->Ç
 |mk {o i j m n q}:YL t a b x o i j->Vt (Ä,i+1,j+2,o,m,n,q)
inductive jN:Vr->Ç
 |fin {r c}:vo t r->jN (À r,c)
 |go {o i j m n q}:YL t a b x o i j->jN (Ä,i+1,j+2,o,m,n,q)
#print a
section
variable(a b:Ú Ù)
nonrec def Z2(o:Ú Ù)(i j:Ã):Ú Ù:=ąb 0 i++ϝa 0 j++ųh
nonrec def Lw(o:Ú Ù)(i j:Ã):Ú Ù:=ϝa 0 j++ąb 0 i++ųh
def Nl(o:Ú Ù)(i j g k m:Ã):Ņ ø Sem Ñi:=do
 let p <-æa a ëe
 if(i-1==0)=Æ then pure (.done (À ľk,i-1,j,ţ p,g,k,m))
 else if(decide (k<7)&&decide (m<7))=Æ then pure (.done (Ä,i-1,j,ţ p,g,k,m))else pure (.yield (Ä,i-1,j,ţ p,g,k,m))
def Nk(o:Ú Ù)(i j g k u:Ã):Ņ ø Sem Ñi:=do
 let q <-æa b Ÿa
 if(j-1==1)=Æ then pure (ωc Āk)
 else do
  let p <-æa a ëe
  let r <-XF Æ p b 0 Ÿa (j-1-1)
  Lv r (λm=>
   if j-1-m>0 then
    if(m==1)=Æ then pure (μc (Lw a b Ëg i m) Ϧm)
    else if(m==0)=Æ then pure (μc (Z2 a b Ëg i m) Ϧm)
    else Nl a b Ëg i m g k (j-1-m)
   else Nl a b Ňf i Ÿa g k (j-1-m)) (pure (ωc (Z2 a b Ňf i Ÿa)))
def Nj(o:Ú Ù)(i j n u g:Ã):Ņ ø Sem Ñi:=do
 Ļc λs=>Čb Đc Ęc ϵb g ĉc
 let q <-æa b Ÿa
 let r <-XF Â q a 0 i ëe
 Lv r (λk=>
  if i-k>0 then
   if(k==0)=Æ then pure (.done (À (Z2 a b ćg k j),k,j,o++(ąb k i).reverse,g,i-k,u))
   else Nk a b ćg k j g (i-k) u
  else Nk a b o i j g (i-k) u) (pure (.done (À ųe,i,j,o,g,n,u)))
def l5(o:Ú Ù)(i j g m n:Ã):Ņ ø Sem (Ϛa Lo):=do
 let q <-æa b Ÿa
 let p <-æa a ëe
 let r <-lt' q p
 i_ r (λt=>
  if t=Æ then do
   let p <-æa a ëe
   if(i-1==0)=Æ then pure (.done (À ľk,i-1,j,ţ p,m+1,0))
   else if m+1≥g then pure (.done (Ä,i-1,j,ţ p,m+1,0))else pure (.yield (Ä,i-1,j,ţ p,m+1,0))
  else do
   let q <-æa b Ÿa
   if(j-1==1)=Æ then pure (.done (À Āk,i,j-1,ţ q,0,n+1))
   else if n+1≥g then pure (.done (Ä,i,j-1,ţ q,0,n+1))else pure (.yield (Ä,i,j-1,ţ q,0,n+1))) (pure (.done (À ųe,i,j,o,m,n)))
def y8v(o:Ú Ù)(i j g:Ã):Ņ ø Sem (Ϛa iy):=do
 let d <-âb [:ó+Ű] ((Ä,i,j,o,0,0):Lo) λ_ d=>l5 a b d.2.2.2.1 d.2.1 d.2.2.1 g d.2.2.2.2.1 d.2.2.2.2.2
 JD d.1 Èj do
  liftM ϫj
  let e <-âb [:ó+Ű] ((Ä,d.2.1,d.2.2.1,d.2.2.2.1,g+1,d.2.2.2.2.1,d.2.2.2.2.2):Vr) λ_ e=>if e.2.2.2.2.1>1 then Nj a b e.2.2.2.1 e.2.1 e.2.2.1 e.2.2.2.2.2.1 e.2.2.2.2.2.2 (e.2.2.2.2.1-1)else Nj a b e.2.2.2.1 e.2.1 e.2.2.1 e.2.2.2.2.2.1 e.2.2.2.2.2.2 e.2.2.2.2.1
  JD e.1 ϭi do
   Ļc λs=>Čb Đc Ęc ϵb Šl ĉc
   pure Îj
#print a
section
variable{Ē:ë}{w:å}{A:û}{E:Value->Ï->Ç}{s:Ï}
section
variable{t:Á Ù}{a b:Ú Ù}(ha:vQ a)(hb:vQ b)(hl:∀q∈ĕf,∀p∈ļb 1,yR p q){a0:Ú Ù}{p0:Ú Ęa}{f0:É Value}{x y g m k u:Ã}{o:Ú Ù}{i j:Ã}{p:Ù}
include hl in
theorem xi.lst(l:xi t a b o i j)(e:j=1):vo t (Lw a b o i j):=çn λq d p c=>hl p (List.take_subset _ _ c) q (e▸d)
def xi.da(l:xi t a b o i j)(e:i=0):vo t ųe:=żf (dg e)
def xi.db(l:xi t a b o i j)(e:j=0):vo t ųe:=żf λp c=>dg e
def mF(l:xi t a b o ù j)(ep:a[i]?=À p)(c:∀r∈ļb j,yR r p)(f:2<=j)(d:j<=Ű)(q:x+i+j<ó+Ű)(h:y<=x):wpS è A E s (Nl a b o ù j g k m) Ŏj Źb:=by
 let e:=(řc ep).1
 replace l:=l.pa ep c
 show ä (v6 ep (υ (ωa (l.da ķa))));let{i,rfl}:=Y9 c;obtain⟨j,rfl⟩:∃n,j=n+2:={j-2,(ĝd f).symm};show yo (λ_=>î {g,rfl,jN.go {l,ëc e,d,by omega}}) λ_=>î {g,rfl,Vt.mk {l,ëc e,d,by omega}}
include ha hb hl in
theorem mE(l:xi t a b o ù ýd)(v:b[j+1]?=À q)(c:∀r∈öb ù,yR r q)(I:i<ó)(J:x+i+j+1<ó+Ű)(C:y<=x):wpS è A E s (Nk a b o ù ýd g k u) Ŏj Źb:=by
 let h:=(řc v).1
 replace l:=l.pb v c
 show ä (v6 v (υ (ωa Ϫl)));let{j,rfl}:=Y9 (a:=j) λe=>c îg
 let{p,f}:=Zn a i I
 replace h:=ϯ h
 show ä (v6 f (ä (Vy rfl (ha _ _ f) hb (show 0+(j+1+1)<=Ű from(ģi).symm▸h) Ϻd (z:=ļb (j+1+1)) rfl şn λm d e1 e2=>?_)))
 replace d:m<=j+1+1:=d
 rw[Ϙg,řa d]at e1
 replace e1:=λp B=>áa (e1 p B)
 show yo þf λc=>?_;let n:=l.cb d λp B r F=>Ŵa (l.hd f r F) (e2 p B)
 show yo (ωa (n.lst hl ķa)) λG=>yo (ωa (n.db ķa)) λH=>by
  let{m,rfl}:=Y9 H;let{m,rfl}:=Y9 (a:=m) λe=>G îg
  show mF n f e1 łk (ģ d h) Ê C
 cases öc d ŗj;show mF l f e1 łk h Ê C
include ha hb hl in
theorem mD(l:YL t a b x o i j)(e:y<=x){n F:Ã}:wpS è A E s (Nj a b o ù ýd n u g) (θ (jN t a b y) (Vt t a b Ϸa)) (yL a0 p0 f0 F):=by
 let{l,h,C,I}:=l;let{q,d}:=Zn b ϒ C
 replace e:=ōe e
 show ä (Φ (ä (v6 d (ä (Vy rfl (hb _ _ d) ha (show 0+(i+1)<=ó from(ģi).symm▸h) Ϻd (z:=a.toList.take (i+1)) rfl l.sa λk f m G=>?_)))));rw[Ϙg,řa f]at m;show yo þf λc=>?_;let v:=l.ca f λp H r B=>Ŵa (åf d r B) (áa (G p H))
 show yo (λc=>î {_,rfl,jN.fin (v.da ķa)}) λc=>?_
 let{k,rfl}:=Y9 c;show mE ha hb hl v d m (ģ f h) Ê e;cases öc f ŗj;show mE ha hb hl l d m h Ê e
include ha hb hl in
theorem x74(l:YL t a b x o i j)(C:y<=x+1){n:Ã}:wpS è A E s (l5 a b o ù ýd g m n) (θ (YM t a b y) (JF t a b Ϸa)) ūe:=by
 let{l,h,f,B}:=l;let{p,k}:=Zn a i h;let{q,v}:=Zn b ϒ f;show ä (v6 v (ä (v6 k (ä (Κc (hb _ _ v) (ha _ _ k))))));by_cases c:w6 q<w6 p;rw[ĉ c];let d:=l.pa k λr z=>Ŵa (åf v r z) (áa c)
 show ä (v6 k (υc Ġn));let{i,rfl}:=Y9 c
 replace h:=ëc h
 show yo ýj λ_=>î {_,rfl,JF.mk {d,h,f,by omega}};rw[į c];let d:=l.pb v λr z=>Ŵa (l.hd k r z) ġi
 show ä (v6 v (υc ϯl));let{j,rfl}:=Y9 (a:=j) λe=>c îg
 replace f:=ëc f
 show yo ýj λ_=>î {_,rfl,JF.mk {d,h,f,by omega}}
include ha hb hl in
theorem x75(l:YL t a b x o i j):wpS è A E s (y8v a b o ù ýd g) (θ ĉe (Lz t a b Ϸa)) ūe:=by show ä (Ζb (λz=>JF t a b (x+z)) (YM t a b Ϸa));rintro z _ g e ⟨l⟩;show x74 ha hb hl l Ŋl;rw[ϖo];rw[ýo];show ä (Βa (Ζb (λz=>Vt t a b (x+1+z)) (jN t a b Ϸa)));rintro z _ g e ⟨l⟩;let d:=ϓa Ϸa z;show yo (λ_=>mD ha hb hl l d) λ_=>mD ha hb hl l d;rw[ϖo];rw[ýo];show ä (Φ (î {_,rfl,Lz.mk l}))
#print a
def x7a{a b:Ú Ù}{a0 p0 f0 g}{t:Á Ù}{Q:Ú Ù->ø->Ç}(u:vQ a)(m:vQ b)(j:0<Ű){y:Ù}(v:a[ó-1]?=À y)(d:xi t a b #[y] ōf Ű)(i:∀q∈ĕf,∀p∈ļb 1,yR p q)(h:∀r g,vo t r->Q r Źb):wpS è A E s (dY a b) Q Źb:=by
 unfold dY;show ä (Βa (v6 v (yo (Δb Ġn) λo=>yo (Δb (d.lst i ķa)) λk=>?_)));let{n,e1}:=Y9 o;obtain⟨B,e2⟩:∃n,Ű=n+2:={Ű-2,(ĝd (ϋk j λe=>k (ϓc Ťf))).symm};let C:ó=n+2:=by omega
 rw[e1,e2]at d;refine ä (Ιb (Vx (λx=>Lz t a b x) ĉe (by rw[e1,e2];show{d,by omega,by omega,by omega}) ?_ ?_ ?_));rintro x _ g F ⟨l⟩;show x75 u m i l;rw[ϖo];rw[ņo]
#print a
def jM(x:Ú Ù)(l n:Ã):Ç:=∀i j,i<=j->j<n->K x (l+i)<=K x (l+j)
def iz(x:Ú Ù):Ç:=∀i j,i<ļ->j<ļ->K x i=K x j->i=j
def y87(h:jM x l n)(c:n=0\/K x (l+n-1)<=K x (l+n)):jM x l ı:=by
 intro i j a b;by_cases e:j<n;show h i j a e;obtain rfl:j=n:=by omega
 by_cases e2:i=j;rw[e2];rw[žo];let:=h i Ÿa Ê Ê;rw[show l+Ÿa=l+j-1 by omega]at this;show ϡc this (Žl Ê)
section
variable{Ē:ë}{w:å}{A:û}{E:Value->Ï->Ç}{s:Ï}
def Vz{i j p f g}(c:vQ x)(hi:i<ļ)(d:j<ļ)(h:Q (À (decide (K x i<K x j))) ņb):wpS è A E s (ltAt' i j) Q ņb:=by let b:x[i]?=À x[i]:=getElem?_pos x i hi;let a:x[j]?=À x[j]:=getElem?_pos x j d;rw[ltAt'_eq];show ä (Ιb (v6 b (ä (v6 a (Κc (c _ _ b) (c _ _ a))))));unfold K at h;rw[b,a]at h;show h
def mB{x:Ú Ù}{a lo n p f g}{F:Ã->É ėc×Ã->Ņ ø Sem (Ϛa (É ėc×Ã))}{R:É ėc×Ã->ø->Ç}(l:1<=a)(b:a<=n)(j:jM x lo a)(k:∀y m Q,1<=m->m<n->(K x ńc<K x Ød->Q (.done (Ä,m)) ņb)->(¬ K x ńc<K x Ød->Q (.yield (Ä,m+1)) ņb)->wpS è A E s (F y (Ä,m)) Q ņb)(h:∀m,a<=m->m<=n->jM x lo m->(m=n\/K x ńc<K x Ød)->R (Ä,m) ņb):wpS è A E s (âb [a:n] (Ä,a) F) R ņb:=by show ſa (I:=λy c st=>st=yL x p f g/\c=(Ä,y)/\jM x lo y) ?_ ?_ {rfl,rfl,j};rintro y _ _ e i ⟨rfl,rfl,d⟩;show k _ _ _ Ê i (λc=>h y e Ê d (.inr c)) λc=>{rfl,rfl,y87 d (.inr ġi)};rintro _ _ ⟨rfl,rfl,d⟩;rw[Śe b]at d ⊢;show h n b ċ d ą
def de{lo m j:Ã}(h:j<m):lo+ńc-1-żi=lo+(m-1-j):=by rw[ϐm,ϐm,Nat.add_left_comm 1,Nat.add_sub_add_left,Nat.add_sub_assoc (by rw[Ϡc];show h)]
theorem x72{x:Ú Ù}{lo n p f g}{Q:É Ã->ø->Ç}(r:vQ x)(B:iz x)(P:lo+n=ļ)(J:1<=n)(h:∀m y,ŭa x->(∀k,k<lo->y[k]?=x[k]?)->1<=m->m<=n->jM y lo m->Q Ϭa Ņm):wpS è A E s (èf lo n) Q ņb:=by
 unfold èf;refine ä (mB (lo:=lo) (ïa 1) J (λi j a b=>by rw[show i=j by omega];rw[žo]) ?_ ?_);intro y m Q a b u v;refine ä Œg;by_cases c:K x ńc<K x Ød;rw[Ĥo];intro m a b o c;show yo (λe=>î (h m x Ęi Ōd a b o)) λe=>?_
 replace c:=Žl ϒa
 replace b:m<n:=by simp at e;omega
 show yo (λe=>?_) λe=>?_;refine ä Œg
 let:K x lo<K x Ød:=by let z:=o 0 (m-1) Ê (by dsimp only at e;omega);rw[show lo+(m-1)=lo+m-1 by omega,Nat.add_zero]at z;let C:=B lo Ød Ê Ê;dsimp only at e;omega
 simp only[this,ċb,Ŗ];show î (h m x Ęi Ōd a Ê o);obtain rfl:m=1:=by dsimp only at e;omega
 show ä (čg (Ēe {rfl,?_}));show ä (ε (ſa (I:=λy c st=>st=yL x p f g/\c=(Ä,y,0)/\∀i j,i<=j->j<y->K x żi<=K x Ųa) (Q:=λc st=>st=yL x p f g/\∃m,c=(Ä,m,0)/\2<=m/\m<=n/\∀i j,i<=j->j<m->K x żi<=K x Ųa) ?_ ?_ {rfl,rfl,?_}));rintro y _ _ C G ⟨rfl,rfl,d⟩;refine ä (Vz r ĕg ĕg ?_);by_cases c:K x Żi<K x âi;simp only[c,ċb,Ŗ];show î {rfl,rfl,λi j q l=>?_};by_cases e:j<y;show d i j q e;obtain rfl:j=y:=by omega
 by_cases e2:i=j;rw[e2];rw[žo];let:=d i Ÿa Ê Ê;rw[show lo+Ÿa=lo+j-1 by omega]at this;omega;simp only[c,ϖe,Ĵa,Ÿ];refine ä Œg
 let:K x âi<K x Żi:=by let O:=B âi Żi Ê Ê;omega
 simp only[this,ċb,Ŗ];show î {rfl,y,rfl,by omega,by omega,d};rintro _ _ ⟨rfl,rfl,d⟩;rw[Śe Ê]at d ⊢;show{rfl,n,rfl,by omega,by omega,d};intro i j q l;by_cases e2:i=j;rw[e2];show ða _;rw[show i=0 by omega,show j=1 by omega];show áa c;rintro _ _ ⟨rfl,m,rfl,C,G,d⟩;let F:∀k,K üe k=_:=λk=>K_mirror Ê k
 refine ä (wpS_reverse (ä (mB (x:=mirror x lo ńc ((lo+m-lo)/2)) (lo:=lo) ĕg G ?_ ?_ ?_)));intro i j q l;dsimp only at l;rw[F,F,Ò Ê,Ò Ê];let:=d (m-1-j) (m-1-i) (ők q _) (Àb Ļb (Nat.sub_lt (Àb ňf l) įd));rw[de (Àb q l),de l];rw[đo];intro y t Q a b u v;let L:(üe).Perm x:=Ŷm _ _ _ _;show ä (Vz ?_ ϟj ϟj ?_);intro i p N;let{H,z}:=ìg ((Òg L).mem_iff.mp (Ϻf (Êg N)));show r H p (by rw[<-ϋa];show z);by_cases c:K üe (lo+t)<K üe (lo+t-1);rw[Ĥo];intro t a b o _;show î (h t _ (Ŷm _ _ _ _) (λk R=>?_) (by dsimp only at a;omega) b o);rw[getElem?_mirror_all Ê,Ó Ê]
#print a
def TW{x y:Ú Ù}(h:vQ x)(p:ŭa x):vQ y:=by intro i q c;let{a,b}:=ìg ((Òg p).mem_iff.mp (Ϻf (Êg c)));show h a q ėk
section
variable{Ē:ë}{w:å}{A:û}{E:Value->Ï->Ç}{s:Ï}
def z62{l r:Ã}(h:l<r):l<=(l+r)/2/\(l+r)/2<r:=by omega
def x70{x:Ú Ù}{lo n ok p f g}{Q:Ð->ø->Ç}(hx:vQ x)(hn:lo+n<=ļ)(zb:ok<=n)(d:jM x lo ok)(h:∀y,ŭa x->(∀k,k<lo->y[k]?=x[k]?)->jM y lo n->Q Æ Ņm):wpS è A E s ìm Q ņb:=by
 unfold ūg;show ä (ε (ſa (I:=λk c st=>c=(Ä,())/\∃y,st=yL y p f g/\ŭa x/\(∀k,k<lo->y[k]?=x[k]?)/\(k<=n->jM y lo k)) (Q:=λc st=>c=(Ä,())/\∃y,st=yL y p f g/\ŭa x/\(∀k,k<lo->y[k]?=x[k]?)/\jM y lo n) ?_ ?_ {rfl,x,rfl,ąj _,λ_ _=>rfl,λ_ i j a b=>?_}));rintro k _ _ hk T ⟨rfl,y,rfl,v,H,d⟩
 replace d:=d (ϯ T)
 let hy:=TW hx v;let L:lo+k<ìd:=by let:=v.size_eq;omega
 let sj:∀j,j<=k->lo+j<ìd:=λj hj=>Àb (ůc hj lo) L
 show ä (MJ (Q:=λc st=>st=yL y p f g/\∃l r,c=(Ä,l,r)/\l<=k/\(∀i,i<l->K y Ųa<=K y ĩb)/\∀i,l<=i->i<k->K y ĩb<K y Ųa) (λz c=>∃l r,c=(Ä,l,r)/\l<=r/\r<=k/\r+z<=k+l/\(∀i,i<l->K y Ųa<=K y ĩb)/\∀i,r<=i->i<k->K y ĩb<K y Ųa) {0,k,rfl,Ĉa _,ïa _,ïa _,λi N=>Þ N Łe,λi a b=>Þ b (ϔc a)} ?_ ?_ ?_);rintro z _ hz ⟨l,r,rfl,S,o,g3,C,B⟩;show yo Ϥh λc=>?_;cases öc S c;show î {rfl,l,l,rfl,o,C,B};let{U,R}:=z62 ĵe;dsimp only;generalize (l+r)/2=m at U R ⊢;let P:=Ŧ R o;show ä (Vz hy L (sj m (ϯ P)) ?_);by_cases c2:K y ĩb<K y ńc;simp only[c2,ċb,Ŗ];show î {rfl,l,_,rfl,U,ϯ P,by omega,C,λi q O=>Int.lt_of_lt_of_le c2 (d _ _ q O)};simp only[c2,ϖe,Ĵa,Ÿ];show î {rfl,_,r,rfl,R,o,by omega,λi q=>ϡc (d i m (Ÿc q) P) (íc c2),B};rintro _ ⟨l,r,rfl,S,o,g3,C,B⟩;cases öc S Ê;show{rfl,l,l,rfl,o,C,B};rintro _ _ ⟨rfl,l,r,rfl,o,C,B⟩;let e:lo+k-ϐe=lo+l:=Nat.sub_sub_self (ůc o lo);show ä (Φ (î {rfl,Ŝi y ĩb ϐe,rfl,(bubble_perm _ _ _).trans v,λi N=>?_,λ_=>?_}));let z:=Ŧ N (ϓa lo l);rw[<-H i N,getElem?_bubble L _ Ļb,e,Ó (ϓ z),Ó λc=>Ĩm z c.1];let G:∀i,K (Ŝi y ĩb ϐe) i=_:=K_bubble L Ļb;generalize Ŝi y ĩb ϐe=b at G;rw[e]at G;let J:∀i,i<l->K b Ųa=K y Ųa:=λi a=>by rw[G,Ó λc=>ϓ a (Nat.add_left_cancel c),Ó λc=>Ĩm a (Nat.lt_of_add_lt_add_left c.1)]
 let Z:K b (lo+l)=K y ĩb:=by rw[G,Ò rfl]
 let Y:∀i,l<=i->i<k->K b (lo+ù)=K y Ųa:=λi a c=>by rw[G,Ó Ê,Ò Ê];rfl
 intro i j q O;rcases Ńg j l with z|rfl|z;rw[J i (Àb q z),J j z];show d i j q (Ŧ z o);rcases Nat.lt_or_eq_of_le q with z|rfl;rw[J i z,Z];show C i z;show ða _;obtain⟨j,rfl⟩:∃t,j=t+1:={j-1,by omega};let F:=Nat.lt_of_succ_lt_succ O;rw[Y j (Ÿc z) F];rcases Ńg i l with u|rfl|u;rw[J i u];show d i j Ê F;rw[Z];show áa (B j (Ÿc z) F);obtain⟨i,rfl⟩:∃t,i=t+1:={i-1,by omega};let X:=Nat.le_of_succ_le_succ q;rw[Y i (Ÿc u) (Àb X F)];show d i j X F;rintro _ _ ⟨rfl,y,rfl,v,H,d⟩;show{rfl,y,rfl,v,H,?_};by_cases e:n=0;intro i j a b;omega;rw[Śe Ê]at d;show d ċ;by_cases e:ok=0;rw[show i=j by omega];show ða _;show d i j a Ê;rintro _ _ ⟨rfl,y,rfl,v,H,d⟩;show î (h y v H d)
#print a
theorem ie{F:Ú Ù->Ù×Ã->Ú Ù}{s:Ã}(b:∀a p j,F a (p,j)=Ŭg (s+j) p){R:Á Ù}:∀(l Z P:Á Ù)(n:Ã)(x:Ú Ù),Ϣb=P++(Z++R)->Áa=s+n->Z.length=ġc->((l.zipIdx n).foldl F x).toList=P++(l++R)
 | [],Z,P,n,x,h,_,hz=>by rw[ág hz]at h;show h|p::l,z::Z,P,n,x,h,hp,hz=>by
  rw[Ŝg,ųg,b]
  let:=ie b (R:=R) l Z (P++[p]) ı (x.setIfInBounds (s+n) p) (by rw[ϗj,h,Ďg _ _ Ê,hp,ćc,ř];rfl) (by rw[í,hp];rfl) (õc hz)
  rw[this,ř];rfl
def bh{x:Ú Ù}{P X R:Á Ù}{a b:Ã}(h:Ϣb=P++(X++R))(c:Áa=a)(d:a+ϖ=b):(ŷc a b).toList=X:=by rw[ēd,Ĉd,h,ŵg c,Ůg Ê]
theorem IZ{x:Ú Ù}{P R:Á Ù}{p:Ù}{a:Ã}(h:Ϣb=P++p::R)(b:Áa=a):x[a]?=À p:=by rw[<-ϋa,h,Ķb Ê,b,ćc];rfl
def aL{x y:Ú Ù}(h:vQ x)(c:∀p∈Ϥa,p∈Ϣb):vQ y:=by intro i q d;let{a,b}:=ìg (c q ôm);show h a q ėk
section
variable{Ē:ë}{w:å}{A:û}{E:Value->Ï->Ç}{s:Ï}
def x7d{a st:ø}{Q:PUnit->ø->Ç}(h:Q ⟨⟩ a):wpS è A E s (set a:Ņ ø Sem PUnit) Q st:=by unfold wpS;rw[StateT.run_set];show č {rfl,h}
def x79{x:Ú Ù}{p:Ú Ęa}{g i d N T:Ã}{p1 p2:Á Ęa}{P u v R:Á Ù}{l o:Ù}{Q:Ð->ø->Ç}(S:vQ x)(ep:ϐd=p1++(d,(Öd).length,N)::(d+(Öd).length,(Ûe).length,T)::p2)(hi:p1.length=i)(ex:Ϣb=P++(Öd++(Ûe++R)))(L:Áa=d)(O:(Öd).Pairwise yR)(H:(Ûe).Pairwise yR)(h:∀y q g Z,Ϥa=P++(Z++R)->Z.Perm (Öd++Ûe)->Z.Pairwise yR->Ėb=p1++(d,(Öd).length+(Ûe).length,N)::p2->Q Æ þc):wpS è A E s (Đf i) Q ϟl:=by
 generalize eX:u++[l]=X at ep ex O h;generalize eY:o::v=Y at ep ex H h
 have e1:p[i]?=À (d,ϖ,N):=by rw[<-ϋa,ep,Ķb Ê,hi,ćc];rfl
 have e2:p[i+1]?=À (d+ϖ,Ϙd,T):=by rw[<-ϋa,ep,Ķb Ê,hi,õg];rfl
 let e3:(ϑi).toList=p1++(d,ϖ+Ϙd,N)::p2:=by rw[Array.toList_eraseIdxIfInBounds,ϗj,ep,Ďg _ _ Ê,hi,ćc,List.eraseIdx_append_of_length_le Ê,hi,õg];rfl
 let xl_:∀q∈X,yR q l:=by intro q f;rw[<-eX]at f O;rcases Ăa f with z|z;show(ķb O).2.2 q z l ī;rw[Üa z];rw[žo]
 let I:∀q∈Y,yR o q:=by intro q f;rw[<-eY]at f H;rcases Ī f with z|z;rw[z];rw[žo];show(Ũc H).1 q z
 let mX:l∈X:=eX▸Ĳa _ ī;let mY:o∈Y:=eY▸ī;have lX:ϖ=u.length+1:=by rw[<-eX,í];rfl
 have lY:Ϙd=v.length+1:=by rw[<-eY];rfl
 have szx:ļ=d+(ϖ+(Ϙd+Ĥc)):=by rw[<-ť,ex,í,í,í,L]
 have ay:x[d+ϖ]?=À o:=IZ (P:=P++X) (R:=v++R) (by rw[ex,ř,<-eY];rfl) Ϣg;have ax:x[d+ϖ-1]?=À l:=IZ (P:=P++u) (R:=Y++R) (by rw[ex,<-eX,ř,ř];rfl) (by rw[í];omega);let B:(∀p∈X,∀q∈Y,yR p q)->Q Æ ěl:=λc=>h x _ g (X++Y) (by rw[ex,ř]) ěi (Şc {O,H,c}) e3
 unfold Đf;rw[ϻo];exact wpS _ _ _ _ (match(p[i]?,p[i+1]?)with|_=>_) _ _;rw[e1,e2];refine ä (x7d (ä (v6 ay (ä (Vy (z:=X) (x:=x) (b:=d) (n:=ϖ) rfl (S _ _ ay) S Ê Ê (by rw[ex,ŵg L,Ůg rfl]) O λk hk d1 d2=>?_)))));show yo (Υd (d1 p ?_) (I q f)) λc=>?_;rw[ţc (by simp at c;omega)];show j
 replace c:k<ϖ:=by simp at c;omega
 let ax2:x[d+k+(ϖ-k)-1]?=À l:=by rw[Ŀd,šc įc];show ax
 refine ä (v6 ax2 (ä (Vy (z:=Y) (x:=x) (b:=d+ϖ) (n:=Ϙd) rfl (S _ _ ax) S Ê Ê (by rw[ex,<-ř,ŵg Ϣg,Ůg rfl]) H λe hk2 f1 f2=>?_)));show yo (Υd (xl_ p j) (f2 q ?_)) λc2=>?_;rw[çf c];show f
 replace c2:0<e:=by simp at c2;omega
 have G:(ľe).toList=ϧd k:=bh (P:=P++Ėf k) (R:=Y++R) (Φd đi) (by rw[í,ąa,L,řa įc]) (by rw[ϔa,Ŀd,šc įc]);have C:(Ċe).toList=ύd e:=bh (P:=P++X) (R:=ši e++R) (Φd łf) Ϣg (by rw[ąa,řa hk2])
 have fin:∀r g,vo ĕd r->wpS è A E s (do Ļc λs=>Čb Đc (r.toList.zipIdx.foldl (λa x=>Ŭg Ðo x.1) Ęc) ϵb øh ĉc;return (Äi (<-get)).isNone) Q ěl:=by
  rintro r g ⟨r1,r2⟩;show ä (Φ (ä (ÿd (î (h _ _ _ Ţj ?_ ?_ ?_ e3)))));have:=ie (F:=λa x=>Ŭg Ðo x.1) (s:=d+k) (λ_ _ _=>rfl) (R:=ši e++R) r.toList ĕd (P++Ėf k) 0 x (by rw[ex];simp only[ř];rw[<-ř łf,Ŕa,<-ř đi,Ŕa]) (by rw[í,ąa,L,řa įc];rfl) r1.length_eq.symm
  rw[this];simp only[ř];let a:(Ţj).Perm (Ėf k++ĕd++ši e):=āg _ (ďg _ r1);rw[<-ř đi Ēi,Ŕa,ř X,Ŕa]at a;show a;let m:∀q∈r.toList,q∈ϧd k\/q∈ύd e:=λq f=>Ăa (r1.mem_iff.mp f)
  let tX:=Ŕa k X;let tY:=Ŕa e Y;let J:=O;let K:=H;rw[<-tX]at J;rw[<-tY]at K;show Şc {Şc {(ķb J).1,r2,λp j q f=>?_},(ķb K).2.1,λp j q f=>?_};rcases m q f with z|z;show(ķb J).2.2 p j q z;show Ŵa (d1 p j) (I q (įe z));rcases Ăa j with j|j;show Ŵa (d1 p j) (I q (Ĝg f));rcases m p j with z|z;show Ŵa (xl_ p (Ĝg z)) (f2 q f);show(ķb K).2.2 p z q f
 let A1:vQ ľe:=aL S λp j=>by rw[G]at j;rw[ex];show Ĳa _ (ãc _ (Ĝg j))
 let A2:vQ Ċe:=aL S λp j=>by rw[C]at j;rw[ex];show Ĳa _ (Ĳa _ (ãc _ (įe j)))
 have z1:(ľe).size=ϖ-k:=by rw[<-ť,G,ϔa]
 have z2:(Ċe).size=e:=by rw[<-ť,C,ąa,řa hk2]
 let sX':(Ēi).Pairwise yR:=ĉk (List.drop_sublist _ _) O;let U:(łf).Pairwise yR:=ĉk ßk H;have b0:Ċe[0]?=À o:=IZ (P:=[]) (R:=v.take (e-1)) (by rw[C,<-eY];obtain⟨n,rfl⟩:∃n,e=n+1:={e-1,by omega};rfl) rfl;have al:ľe[ϖ-k-1]?=À l:=IZ (P:=u.drop k) (R:=[]) (by rw[G,<-eX,List.drop_append_of_le_length Ê]) (by rw[ϔa];omega);generalize ŷc (d+k) (d+ϖ)=xx at *;generalize ŷc (d+ϖ) (d+ϖ+e)=yy at *;refine yo (λ_=>ä (x7b (t:=ϧd k++ύd e) A1 A2 Ê b0 ?_ ?_ λr g hr=>fin r g hr)) λ_=>ä (x7a (t:=ϧd k++ύd e) A1 A2 Ê (y:=l) ?_ ?_ ?_ λr g hr=>fin r g hr);have a0:xZ ĕd xx yy #[] 0 0:={by rw[<-G,<-C];show Ęd _,G▸sX',C▸U};show a0.pb b0 λq f=>áa Ϯl;intro q f p j;rw[z1,C7 al,Ťc ğd]at j;rw[Üa j];show áa (f1 q (C▸f));rw[z1];show al;let a0:xi ĕd xx yy #[] ăm yy.size:=by let t1:xx.toList.take ăm=xx.toList:=ţc ğd;let t2:yy.toList.take yy.size=yy.toList:=ţc (by rw[ť];show ïa _);unfold xi;rw[t1,t2,G,C];let pz:=List.Perm.append (ńg Ēi) (ńg łf);show{pz,äg sX',äg U}
 show a0.pa (by rw[z1];show al) λq f=>áa (f1 q (C▸įe f));intro q f p j;rw[Nv b0]at j;rw[Üa j];show áa Ϯl
#print a
def vF:Ã->Á Ęa->Á Ù->Ç
 |_,[],L=>L=[]|n,r::p,L=>r.1=n/\∃X M,L=X++M/\ϖ=r.2.1/\X≠[]/\ĸh yR/\vF (n+r.2.1) p M
theorem hV:∀{p q:Á Ęa} {n:Ã} {L:Á Ù},vF n (p++q) L->∃M N,L=M++N/\vF n p M/\vF (n+ęf) q N
 | [],q,n,L,h=>{[],L,rfl,rfl,h}|r::p,q,n,L,h=>by let{f,X,M,rfl,c,e,d,g}:=h;let{M,N,rfl,a,b}:=hV g;show{X++M,N,(ř ..).symm,{f,X,M,rfl,c,e,d,a},by rw[í,c,<-Ŀd];show b}
theorem HN:∀{p q:Á Ęa} {n:Ã} {M N:Á Ù},vF n p M->vF (n+ęf) q N->vF n (p++q) (M++N)
 | [],q,n,M,N,h,h2=>by rw[show M=[]from h]at h2 ⊢;show h2|r::p,q,n,M,N,h,h2=>by let{d,X,M,rfl,a,c,b,e}:=h;show{d,X,M++N,ř ..,a,c,b,HN e (by rw[í,a,<-Ŀd]at h2;show h2)}
theorem hX:∀{p:Á Ęa} {n:Ã} {L:Á Ù},vF n p L->p.length<=ěb
 | [],n,L,h=>Ĉa _|r::p,n,L,h=>by let{d,X,M,rfl,e,a,c,b}:=h;let:=hX b;let:=Ók a;rw[í,Ď];omega
theorem hZ{F:Ã×Ã×Ã->Ã×Ã×Ã}(a:∀r,(F r).1=r.1/\(F r).2.1=r.2.1):∀{p:Á Ęa} {k n:Ã} {L:Á Ù},vF n p L->vF n (p.modify k F) L
 | [],0,n,L,h=>h| [],_+1,n,L,h=>h|r::p,0,n,L,h=>by let{d,X,M,rfl,f,c,b,e}:=h;show{(a r).1.trans d,X,M,rfl,ŕb (a r).2.symm,c,b,(a r).2▸e}
 |r::p,k+1,n,L,h=>by let{d,X,M,rfl,f,c,b,e}:=h;show{d,X,M,rfl,f,c,b,hZ a e}
def y7v{x y:Ú Ù}{L R:Á Ù}{lo m:Ã}(ex:Ϣb=L++R)(o:ěb=lo)(f:∀k,k<lo->y[k]?=x[k]?)(h:jM y lo m)(n:lo+m<=ìd):∃X M,Ϥa=L++ße/\ϖ=m/\ĸh yR:=by
 let e:y.toList.take lo=L:=by
  show Ŏe λk=>?_
  rw[ϐk]
  split;rename_i l;rw[ϋa,f k l,<-ϋa,ex,ϊa Ê];rw[ñb Ê]
 let c:(ϧg).length=m:=by rw[ąa,ϔa,ť];omega
 show{(Âg).take m,(Âg).drop m,?_,c,List.pairwise_iff_getElem.mpr λi j b d a=>?_};rw[Ŕa,<-e,Ŕa];let g:∀i (b:i<(ϧg).length),K y Ųa=w6 ϧg[i]:=by intro i b;let e:y[lo+i]?=À y[lo+i]:=getElem?_pos _ _ Ê;unfold K;rw[e,Ìl,Íl,Ŭc];rfl
 let:=h i j (ϯ a) Ê;rw[g i b,g j d]at this;rw[đo]
def z0n{x y:Ú Ù}(h:(èl).Nodup)(p:ŭa x):iz y:=by
 let n:(çl).Nodup:=((Òg p).map w6).nodup_iff.mpr h;intro i j a b e
 let g:∀i (a:i<ìd),çl[i]?=À (K y i):=by intro i a;let e:y[i]?=À y[i]:=getElem?_pos y i a;rw[ſ,ϋa];unfold K;rw[e];rfl
 show(List.getElem?_inj (by rw[ì,ť];show a) n).mp (by rw[g i a,g j b,e])
section
variable{Ē:ë}{w:å}{A:û}{E:Value->Ï->Ç}{s:Ï}
def mJ{x:Ú Ù}{p:Ú Ęa}{g i:Ã}{L R:Á Ù}{Q:Ð->ø->Ç}(C:vQ x)(ex:Ϣb=L++R)(k:vF 0 ϐd L)(hi:i+1<şf)(h:∀y q g M,Ϥa=M++R->M.Perm L->vF 0 Ėb M->ħb+1=şf->Q Æ þc):wpS è A E s (Đf i) Q ϟl:=by
 let F:p.toList.length=şf:=ť;obtain⟨⟨J,O,pw⟩,⟨sb,U,v⟩,b⟩:∃r1 r2,ϐd=Ϸg i++r1::r2::ϸg (i+2):={ϐd[i],ϐd[i+1],by rw[<-ĸb,<-ĸb,Ŕa]};let d:(Ϸg i).length=i:=by rw[ąa];omega
 let l:(ϸg (i+2)).length=şf-(i+2):=by rw[ϔa,F]
 generalize Ϸg i=p1 at b d;generalize ϸg (i+2)=p2 at b l;rw[b]at k;let{P,N,rfl,H,t}:=hV k;let{f,X,N,rfl,o,r,B,j,Y,N,rfl,m,G,u,a}:=t;dsimp only at f o j m a;let{T,xl,rfl}:=(List.eq_nil_or_concat X).resolve_left r;rw[List.concat_eq_append]at *;let{S,K,rfl}:=List.exists_cons_of_ne_nil G;subst o m;rw[ϔ]at f j;subst f;subst j;refine x79 C b d (P:=P) (R:=N++R) (by rw[ex];simp only[ř]) rfl B u λy q g Z z c I n=>h y q g (P++(Z++N)) (by rw[z];simp only[ř]) ?_ ?_ ?_;show ďg _ ((āg N c).trans ?_);rw[ř];rw[n];show HN H {(ģi).symm,Z,N,rfl,c.length_eq.trans (í ..),?_,I,?_};intro e;rw[e]at c;let:=c.length_eq;rw[í,Ď]at this;cases this;rw[ϔ]at a ⊢;rw[Ŀd]at a;show a;let:=ŕ Ϗb n;rw[ť,í,Ď,d,l]at this;omega
abbrev Ng:=Ϛa (É þa×Ã)
nonrec def Lq(lo n:Ã):Ņ ø Sem Ng:=do
 Ļc λs=>Čb Đc Ęc ((ϵb).push (lo,n,0)) øh ĉc
 pure (.yield (Ä,lo+n))
nonrec def Lu{β:Type}(r:É Ęa)(f:Ã->Ã->Ã->Ņ ø Sem β)(g:Ņ ø Sem β):Ņ ø Sem β:=(sortPriv% PySem.Builtin.sortRuns.match_1) ħe r f λ_=>g
def Nh(N lo n:Ã)(e:Ã->Ã->Ã):Ņ ø Sem Ng:=do
 let d <-get
 Lu (ϸd).back? (λg f _=>do
  let r <-âb [:N] ((Ä,()):É þa×þa) λ_ _=>do
   let d <-get
   Lu (if(ϸd).size>1 then ϸd[(ϸd).size-2]? else Ä) (λ_ _ a=>
    if a<=e g f then pure Ĩl else do
     let b <-Đf ((ϸd).size-2)
     if(!b)=Æ then pure (.done (À (),()))else pure (.yield (Ä,()))) (pure Ĩl)
  JD r.1 (λr=>pure (.done (À r,lo))) do
   let _ <-Ļc λs=>Čb Đc Ęc ((ϵb).modify ((ϵb).size-1) λx=>(sortPriv% PySem.Builtin.sortRuns.match_3) (λ_=>Ã×Ã×Ã) x λst c _=>(st,c,e g f)) øh ĉc
   Lq lo n) (Lq lo n)
inductive Ni(X M L:Á Ù):É þa×þa->ø->Ç
 |mk {y q g N}:Ϥa=N++ße->N.Perm L->vF 0 Ėb N->Ni X M L (Ä,()) þc
def x7f{x y:Ú Ù}{q:Ú Ęa}{g k lo N:Ã}{L X M:Á Ù}{F:Ã->Ã->Ã}{Q:Ng->ø->Ç}(C:vQ x)(G:ŭa x)(o:vF 0 Ėb L)(t:ěb=lo)(n:Ϥa=L++ße)(l:ϖ=k)(H:ĸh yR)(hk:1<=k)(h:∀y q g L,Ϥa=L++M->ěb=lo+k->vF 0 Ėb L->ŭa x->Q (.yield (Ä,lo+k)) þc):wpS è A E s (Nh N lo k F) Q þc:=by
 let u:∀{f:Ú Ù}{b},f.toList=b++ße->Ši L->f.Perm x:=λe1 e2=>Array.Perm.trans (śj (by rw[e1,n];show āg _ e2)) G
 let j:∀{f:Ú Ù}{a:Ú Ęa} {m b},f.toList=b++ße->Ši L->vF 0 ĕf b->wpS è A E s (Lq lo k) Q (yL f a Ä m):=by intro f a m b e1 e2 d;refine ä (Φ (î (h _ _ _ (b++X) (by rw[ř];show e1) (by rw[í,ġm,t,l]) ?_ Äo)));exact vF 0 (a.push (lo,k,0)).toList _;rw[ňg];show HN d {by rw[ϔ,ġm,t],X,[],(ŷ _).symm,l,λe=>Æb hk (l▸ŕ Ϗb e),H,rfl}
 rw[ϻo];exact wpS _ _ _ _ (Lu q.back? _ _) _ _;cases q.back? with
 |Ä=>show j n ěi o|À r=>
  show ä (ε (ſa (I:=λ_=>Ni X M L) (Q:=Ni X M L) ?_ (λ_ _ h=>h) (.mk n ěi o)));rintro _ _ _ _ _ ⟨e1,e2,d⟩;rename_i f a m b;rw[ϻo];exact wpS _ _ _ _ (Lu (if ó>1 then a[ó-2]? else Ä) _ _) _ _;by_cases c:ó>1;rw[Ò c];cases a[ó-2]? with
  |Ä=>show î Òh|À r=>show yo (λ_=>î Òh) λ_=>ä (mJ (p:=a) (i:=ó-2) (TW C Äo) e1 d Ê λJ O K M2 z v B P=>î (.mk z (v.trans e2) B))
  rw[Ó c];show î Òh;rintro _ _ ⟨e1,e2,d⟩;show ä (Φ (j e1 e2 ?_));exact vF 0 (Array.modify _ _ _).toList _;rw[Array.toList_modify];show hZ ?_ d;show λ⟨_,_,_⟩=>{rfl,rfl}
inductive L_(x:Ú Ù)(z:Ã):É þa×Ã->ø->Ç
 |mk {lo y q g L R}:Ϥa=L++R->ěb=lo->vF 0 Ėb L->ŭa x->z<=lo->L_ x z (Ä,lo) þc
def x7e{x:Ú Ù}{g:Ã}{Q:þa->ø->Ç}(B:vQ x)(hd:(èl).Nodup)(h:∀y q g,ŭa x->y.toList.Pairwise yR->Q () þc):wpS è A E s äf Q (yL x #[] Ä g):=by
 unfold äf;rw[ϻo];show ä (ε (ſa (I:=λz=>L_ x z) (Q:=λc st=>c.1=Ä/\∃y q g,st=yL y q Ä g/\vF 0 Ėb Ϥa/\ŭa x) ?_ ?_ (.mk (L:=[]) (R:=Ϣb) rfl rfl rfl Ęi ċ)));rintro z _ _ _ hz ⟨i,o,d,a,l⟩;rw[ĥo]
 show yo Ϥh λc=>?_;let:R=[]:=ág (by dsimp only at c;omega);subst this;rw[ŷ]at i;show î {rfl,y,q,g,rfl,i▸d,a};replace c:lo<ļ:=by dsimp only at c;omega
 refine ä (x72 (lo:=lo) (n:=ļ-lo) (TW B a) (z0n hd a) Ê Ê λm y1 u T K v S=>?_);let Y:=TW B (Āi a);let z1:=(Āi a).size_eq
 let N:∀{k f U},1<=k->lo+k<=ļ->f.Perm y->(∀j,j<lo->f[j]?=y[j]?)->jM f lo k->wpS è A E s (Nh ļ lo k U) (λr st=>qE ϣi ðk r) (yL f q Ä g):=by intro k f U P h4 C t J;let{X,M,eY,lX,sX}:=y7v (m:=k) i o t J (by rw[(ďi a).size_eq];show h4);show x7f B (ďi a) d o eY lX sX P λy q g L e1 e2 e3 e4=>.mk e1 e2 e3 e4 (ſl l P)
 show őc (Q:=λr st=>qE ϣi ðk r) ?_ λr st h=>by cases r<;>show h
 show yo (λp=>ä (Βa (x70 (lo:=lo) (n:=min (ļ-lo) Įg) (ok:=m) Y ?_ ?_ S λf C t J=>yo Ěl λ_=>N ?_ ?_ (ďi u) (λk O=>(t k O).trans (T k O)) J))) λp=>N K Ê u T S;omega;show ϗg {v,ϯ p};show ϗg {ģ K v,ģ K (ϯ p)};show ģ (ůc Łk _) ŋl;rintro _ _ ⟨i,o,d,a,l⟩;rw[ĥo]
 let:R=[]:=ág (by dsimp only at l;omega);subst this;rw[ŷ]at i;show{rfl,y,q,g,rfl,i▸d,a};rintro⟨_,lo⟩ _ ⟨rfl,y,q,g,rfl,d,a⟩;show ä (ε (ſa (I:=λz c st=>c=(Ä,())/\∃y q g,st=yL y q Ä g/\vF 0 Ėb Ϥa/\ŭa x/\(ħb<=1\/ħb+z<=ļ)) (Q:=λc st=>c=(Ä,())/\∃y q g,st=yL y q Ä g/\vF 0 Ėb Ϥa/\ŭa x/\ħb<=1) ?_ ?_ {rfl,y,q,g,rfl,d,a,.inr ?_}));rintro z _ _ _ hz ⟨rfl,y,q,g,rfl,d,a,F⟩;show ä (ÿd (υ (λc=>î {rfl,y,q,g,rfl,d,a,c})))
 replace c:¬ ħb<=1:=c
 show ä (mJ (TW B a) (ŷ _).symm d ?_ λf t Z M H p c3 c4=>?_);let:∀(b:Ç) [Űn b],(if b then ħb-2-1 else ħb-2)+1<ħb:=λb _=>by rw[ϐo]
 show this _;rw[ŷ]at H;refine î {rfl,f,t,Z,rfl,H▸c3,(śj (H▸p)).trans a,.inr Ê};rw[ϝo];show{rfl,y,q,g,rfl,d,a,by rw[Ϙe]at F;dsimp only at F;omega};let:=hX d;rw[ť,ť,żh]at this;rw[đo];rw[ϝo];show î (h y q g a ?_)
 match e:Ėb,d,(ť (xs:=q))with
 | [],d,_=>rw[show Ϥa=[]from d];show ņg| [r],d,_=>let{_,X,M,e,_,_,h5,h6}:=d;rw[e,show M=[]from h6,ŷ];show h5
 |_::_::_,_,v=>simp only[Ď]at v;omega
def y8j(m:Ă a=À Ϫk)(o:ģb vs ns)(G:ns.Nodup)(t:ü<=â)(h:∀(out:Ú Value)(b:Á Å),ģb ån b->Ši ns->Ķh (·<=·)->P Ġg { s with é:=Ĳh ß a vs out }):Û è A ňj P E s:=by
 by_cases h64:ü<64;show list_sort_tree m o h64 h
 obtain⟨l,f,r,rfl⟩:∃l f r,vs=l::f::r:=by
  match vs,h64 with
  | [],h=>show Þ Í h| [_],h=>show Þ (show 1<64 by decide) h|l::f::r,_=>show{l,f,r,rfl}
 generalize e:l::f::r=vs at *;let k:¬ Ĵl<2:=by rw[ė];omega
 let v:a<Ý:=Ĥ m;obtain⟨c,B⟩:∃c,(îk).get? a=À ňe:={_,get?_update_seq m Ŏh}
 let C:(ŧg).get? a=À ňe:=by rw[ŏe _ _ _ (ςc (êc v)),ŏe _ _ _ (by rw[ĭe];show ϓ v)];show B
 rw[Ķl];refine Ô (ğm m rfl (Ô (ćd m rfl (hsz:=by rw[ė];show t) ?_)));show Ô (Ăe B rfl (Ô (ęg ?_ (by show t))));rw[Ĺo];rw[Ó k,Ó k,<-e,keyKind_ints (e▸o),e];show Ô (Κa (ηd (x7e (x:=ϭd vs) (g:=7) (Q:=λ_ st=>(Îf).Perm āc/\Äi st=Ä/\SortedTo Îf (āc).size) ?_ ?_ ?_)));intro i p d;show o.intKeys p ôm;have:(āc).toList.map w6=ns:=by rw[ϓg,show w6=numOf∘Prod.fst from rfl,<-Èb,ŝg ċ,o.nums]
 rw[this];show G;intro y q g d u;show{d,rfl,λi j R O=>?_};let z:=d.size_eq;let F:y[i]?=À y[i]:=getElem?_pos y i Ê;let H:y[j]?=À y[j]:=getElem?_pos y j Ê;unfold K;rw[F,H];by_cases c:i=j;subst c;rw[žo];let:=Õg u i j ğd ğd Ê;rw[Ŭc,Ŭc]at this;rw[đo];rintro⟨⟨⟩,st⟩ _ ⟨rfl,d,L,u⟩;dsimp only;show Ô (Ăe C rfl (Ô (ćd C rfl ?_ (hsz2:=by refine ģ (ŀb ((Array.size_map ..).trans (d.size_eq.trans (åh _)))) (ōe t)))));rw[L];rw[ϡo];let{b,J,N,I}:=sorted_out o d u;show č (h _ b J N I)
def y8m(u:ēb=Ä)(lo:Îa=Â)(o:ϵg Ła a kvs ep)(hk:ßd (·.1)=Īa Ãa)(i:ś<=â)(h:∀h' tk p out c ns',Ý<=p->Ė p=À (seqObj Ġ out c)->ģb ån ns'->ns'.Perm ns->ns'.Pairwise (·<=·)->(∀b ob,Ă b=À ob->Ė b=À ob)->Q Ů { s with é:=h',Ċ:=tk }) :Û è A (źa Ϙc Òa) Q E s:=by
 let l:Ĺ=ś:=by
  let:=ŕ Ϗb hk
  rwa [ì,ì]at this
 let r:ns.Nodup:=by let:=o.nodup;rw[hk]at this;show(List.pairwise_map.mp this).imp λh z=>h (ŕ _ z)
 rw[Ŋo];refine Ô (m:=ìn Ša 1 1 _) (Κa (sU (by show u) lo o (l▸i) λk tk d j B n q=>Ô (ēe ?_ ŭk)));let C:=z3v d kvs ns j hk B;let g:(k.push Ák).get? źm=À Ák:=Ř _ rfl;refine Ô (ύa (Ůb ŷl {_,g,rfl} ķl (y8j g C r ŭk λout ns' x t v=>{_,rfl,?_}) Ϸk));let{c,y}:=sortedHeap_at (vs:=d) (out:=out) g;show č {_,rfl,h _ tk źm out c ns' (ϯ n) y x t v λb ob e=>?_};let f:=Ĥ ěn;rw[sortedHeap_old (wJ (ϓ f)) (by rw[ãn];show êc f)];show ĝ _ ěn
#print a
section
variable{X:Cx}
def y5c:Á V->Hp->VK->Ç:=λb H Q=>∃(a:Ì) (kvs:Á Ϗ) (ns:Á Å),b=Òa/\Rd H a ň/\ßd (·.1)=Īa Ãa/\ś<=â/\∀l,H l=Ä->Q Ϯb Ľm
def sI(b:Ż=Æ):wM X Ϙc y5c:=by
 intro P s σ H S R Q I r h;let{a,C,d,rfl,L,A,j,q}:=h;rw[ěo];let{_,k,G,e,o,N,B,K,v,E,x,t,O}:=kC đ L;let n:ϵg Ņb a G B:={o,N,K,v,E,x,t,O};show y8m (Ďa b) k n ((Eu e).trans A) j λh' tk p g c f i y J l F z=>?_
 obtain rfl:f=Åc d:=Na (l.trans (ϗb d).symm) F (ϕe d);show{.ref p,_,īa (t':=tk) (h':=h') z i (show yz ô X.w _ _ _ (Ε ((Åc d).map ûd))from{?_,g.toList,c,ci J,?_}),rfl,q _ (þb i)};rw[ì,(ϗb d).length_eq];show j;rw[ĭk];show y
#print a
#print L2
namespace L3
open ě ħ Ģ L2
def CN:Á D->É D
 | [.dic ks _]=>(VN ks).bind λa=>À Ϩj|_=>Ä
def y84(c:Ż=Æ)(u:Gl X Ša)(s:ñ Ša=Ä)(C:SA X [e] fs)(o:Î ϊ q11) :SF X īg (eL CN fs):=by
 let{t,I,k}:=C.h;refine{{_,(Qr (p:=p) (pos:=pos) (sI c) u s Fn {I} Í Í ϰk).h,λ{N K G H τ σ d Q} E b q=>?_}};let{B,x,b}:=zD b;show k E x λO J L g r=>?_
 rcases B with _|⟨x_,r_⟩;cases b
 cases x_<;>first|(cases b;done)|skip
 cases r_<;>first|(cases b;done)|skip
 rename_i y P;let{i,m,b}:=zD b;cases b;let{v,rfl,a,A,rfl,F,w,n,l}:=uU r
 let j:Ęb<=â:=by let:=Ĕh n;rw[Es m,ì]at w;omega
 show{a,y.zip A,i,rfl,ϯb g.gh F,?_,j,λz f=>?_};rw[<-Es m];show ŝg Ê;show q z _ _ (ϯd (ĭa g.gh f)) (Ãi f) (ŷh f) {_,yS,íf,?_};rw[ì,(ϗb i).length_eq];show j
def Gn(K:Ñ)(x:È):Ç:=Ū K ď x=À Ä
def Gs(K:Ñ)(x:È)(v:Value):Ç:=Ū K ď x=À Ϥ
def Tq(K:Ñ)(d:É Ì)(a:Ì)(vs:Á Value):Ç:=∃n sl,ϋ a=À {.type ō,d,.seq ϝ n,sl}
def Tp(K:Ñ)(a:Ì)(vs:Á Value):Ç:=∃d,Tq K d a vs
def Dc(K:Ñ)(w:å)(a:Ì)(l:Á Œe):Ç:=(∃n,ϋ a=À { cls:=.type Ź,ă:=.dict (ϲi).toArray n })/\Îa=Â
nonrec def vD:Á Value->É ϛl
 | []=>À ([],[])|.int i _::r=>(ŭf).bind λp=>À (.int i::p.1,.int i::p.2)|.str s _::r=>match śb Ďf 1000 with
  |Æ=>(ŭf).bind λp=>À (.str s::p.1,.str s::p.2)|Â=>Ä
 |_=>Ä
def vT(vs:Á Value):É ϛl:=match śb ü 1000 with
 |Æ=>vD vs|Â=>Ä
nonrec def vU:Á Value->É (Á V)
 | []=>À []|.ref a::r=>(vU r).bind λp=>À (.ref a::p)|_=>Ä
section
variable{K:Ñ}{w:å}{h:Heap}{mg:È->É Value}{a:Ì}{x:È}{v:Value}{d:É Ì}{n:Ã}{i:Å}{t:Tok}{s:È}{sl:Ú ϟa}{xs:Á È}{vs:Á Value}{us:Á V}{ds:Á D}{l:Á Œe}
def gn_mk(h:Ū K ď x=À Ä):Gn K x:=h
def gs_mk(h:Ū K ď x=À Ϥ):Gs K x v:=h
def tq_mk(h:ϋ a=À {.type ō,d,.seq ϝ n,sl}):Tq K d a vs:={_,_,h}
def tp_mk(h:ϋ a=À {.type ō,d,.seq ϝ n,sl}):Tp K a vs:={_,_,_,h}
def dc_mk(h:ϋ a=À { cls:=.type Ź,ă:=.dict (ϲi).toArray n })(q:Îa=Â):Dc K w a l:={{n,h},q}
def tq(X:Ő h)(G:ýa ď mg)(g:Gn K x):mg x=Ä:=W.mg_none_of X G g
def gT(X:Ő h)(G:ýa ď mg)(g:Gs K x ŝ):xU mg x ŝ:={_,Śb X G g,rfl}
def gS(X:Ő h)(G:ýa ď mg)(g:Gs K x Øf):xU mg x Ϡ:={_,Śb X G g,{_,rfl}}
def cB(X:Ő h)(G:ýa ď mg)(g:Gs K x (.str s t)):xU mg x (.str s):={_,Śb X G g,{_,rfl}}
theorem Xv:∀{vs:Á Value}{us:Á V}{ds:Á D},vD vs=À (us,ds)->zm us vs/\∀H,ã K H ds us
 | [],_,_,e=>by cases e;show{.nil,λ_=>rfl}|.int i t::r,_,_,e=>by let{p,e1,e}:=zD (show(ŭf).bind _=_ from e);cases e;let{b,c}:=Xv e1;show{.cons {_,rfl} b,λH=>{_,_,rfl,rfl,c H}}
 |.str s t::r,_,_,e=>by
  cases z:śb Ďf 1000 with
  |Â=>rw[show vD Ēm=match śb Ďf 1000 with|Æ=>_|Â=>Ä from rfl,z]at e;cases e
  |Æ=>rw[show vD Ēm=match śb Ďf 1000 with|Æ=>_|Â=>Ä from rfl,z]at e;let{p,e1,e}:=zD (show(ŭf).bind _=_ from e);cases e;let{b,c}:=Xv e1;show{.cons {_,rfl} b,λH=>{_,_,rfl,{rfl,įa (Ģe z)},c H}}
theorem l_:∀{vs:Á Value}{us:Á V},vU vs=À us->zm us vs
 | [],_,e=>by cases e;show .nil|.ref a::r,_,e=>by let{p,e1,e}:=zD (show(vU r).bind _=_ from e);cases e;show .cons rfl (l_ e1)
def M8(g:Tq K d a vs)(e:vT vs=À (us,ds))(H:Hp):zW K H ăf ŝ:=by
 let{n,sl,g}:=g;cases z:śb ü 1000 with
 |Â=>rw[show vT vs=match śb ü 1000 with|Æ=>_|Â=>Ä from rfl,z]at e;cases e
 |Æ=>rw[show vT vs=match śb ü 1000 with|Æ=>_|Â=>Ä from rfl,z]at e;let{b,c}:=Xv (K:=K) e;let q:=įa (Ģe z);show{a,us,rfl,si g q b H,c H,by rw[<-(c H).length,ϣ];show q}
def wj(g:Tp K a vs)(e:vT vs=À (us,ds))(H:Hp):zW K H ăf ŝ:=let ⟨_,g⟩:=g;M8 g e H
def Nx(g:Tq K Ä a vs):DT K a:=let ⟨_,_,g⟩:=g;{_,g,rfl,rfl}
theorem Tk:∀l:Á Œe,je w (ş λp=>({žl w.params p.1,.str p.1 p.2.1,p.2.2}:Ēb)) (ş (·.1)) (ş (·.2.2))
 | []=>.nil|_::l=>.cons Ŵf
def bL(g:Dc K w a l)(e:vU (ş (·.2.2))=À us)(b:ğc)(ex:ş (·.1)=xs)(c:∀H,ã K H ds us):u8 K w a ăc ds:=by rw[Ēo];show cC g Ŵf b q (l_ e) c
def O3(g:Dc K w a l)(e:vD (ş (·.2.2))=À (us,ds))(b:ğc)(ex:ş (·.1)=xs):u8 K w a ăc ds:=by rw[Ēo];show cC g Ŵf b q Ďm.1 (Xv e).2
def C0(g:Dc K w a l)(e:vD (ş (·.2.2))=À (us,ds))(b:ğc)(ex:ş (·.1)=xs):qt K w a ăc us:=by rw[Ēo];show z1e g Ŵf b q Ďm.1
def C1(_:Dc K w a l)(e:vD (ş (·.2.2))=À (us,ds)):∀H,ã K H ds us:=(Xv e).2
#print a
abbrev HD(x:È)(ps:Á È)(k:Ã)(F:Á D->É ê)(P:ë)(w:å)(K:Ñ)(mg:È->É Value)(Ë:Heap):Ç:=wB P w K mg Ë x ps k ϡd
def g_(K:Ñ)(m q:È)(st:Ø)(ps:Á È)(f:Ì):Ç:=Ðe K İ=Æ/\âa K İ=Æ/\∃fd,wR K m q st f fd/\vq K fd ps []
def T8(K:Ñ)(m:È)(f:Ì)(c:È):Ç:=∃C,Ū K ď c=À ôa/\ud K C/\ħa K Ō m=À Ņa
def ji(K:Ñ)(c d m q:È)(st:Ø)(ps:Á È):Ç:=∃f,T8 K m f c/\T8 K m f d/\g_ K m q st ps f
def T7(K:Ñ)(c q:È)(st:Ø)(ps:Á È):Ç:=∃C f,Ū K ď c=À ôa/\ìf K C=Æ/\ħa K Ō Ϡa=À Ņa/\âa K Ō=Æ/\g_ K Ϡa q st ps f
def IC(K:Ñ)(c m q:È)(st:Ø)(ps:Á È):Ç:=∃C f,Ū K ď c=À ôa/\ďh K Ō Ĵg=À ϱf/\ϋh K C ŵe=Æ/\όh K Ō ŵe m=À ŕh/\g_ K m q st ps f
def qr(K:Ñ)(x:È)(st:Ø)(f:Ì):Ç:=Ū K ď x=À Ņa/\zO K x st
section
variable{K:Ñ}{w:å}{mg:È->É Value}{h:Heap}{c d m q x:È}{st:Ø}{ps xs ns:Á È}{f a:Ì}{C D:Ì}{sp:Sp}{k:Ã}{l:Á Œe}{fs:Á Ì}
def cls_mk(b:ťd K C ώh=Æ)(a:Ϭe K C=Æ)(c:Đh K C=Æ)(d:ħa K Ō ϳg=À ϴf):ud K C:={b,a,c,d}
def mdp_mk{o:Value}{j g:É Ì}{n:Ú ϟa}{d kV c h a ct:Value}(i:Ðe K İ=Æ)(l:ϋ f=À {o,j,.func íj,n})(e:Ěb K a q=Æ)(k:âa K İ=Æ)(b:vq K íj ps []):g_ K m q st ps f:={i,k,_,z16 l e k,b}
def mtc_mk(n:Ū K ď c=À ôa)(a:ud K C)(g:ħa K Ō m=À Ņa):T8 K m f c:={C,n,a,g}
def mtp_mk(a:T8 K m f c)(b:T8 K m f d)(e:g_ K m q st ps f):ji K c d m q st ps:={f,a,b,e}
def mkp_mk(n:Ū K ď c=À ôa)(a:ìf K C=Æ)(g:ħa K Ō Ϡa=À Ņa)(b:âa K Ō=Æ)(e:g_ K Ϡa q st ps f):T7 K c q st ps:={C,f,n,a,g,b,e}
def cmp_mk(n:Ū K ď c=À ôa)(b:ďh K Ō Ĵg=À ϱf)(a:ϋh K C ŵe=Æ)(g:όh K Ō ŵe m=À ŕh)(e:g_ K m q st ps f):IC K c m q st ps:={C,f,n,b,a,g,e}
def fnq_mk{g j:É Ì}{e:Ú ϟa}{i kV d h b ct:Value}(a:Ū K ď x=À Ņa)(l:ϋ f=OH x st i g e kV d h j b ct)(c:Ěb K b x=Æ)(k:âa K İ=Æ):qr K x st f:={a,fnp_mk a l c k}
def aW(b:∀s us,Ő ß->Ũ=ĥ->Ýb s fd {us,[]} ϔb):vq K fd ps []:=λs us c a=>by rw[ŷ]at a ⊢;show b s us c a
def ji.hh(a:ji K c d m q st ps)(P:ë)(w:å)(mg:È->É Value)(e:Heap)(ok:∀{f fd},wR K m q st f fd->y_ P w K mg e yu k f fd ps sp):qN P w K mg e c m ps k sp/\qN P w K mg e d m ps k sp:=by let{f,{C,o,l,h},{D,j,n,p},i,g,fd,F,b}:=a;show{{C,f,fd,o,l,{h,i,g},b,ok F},{D,f,fd,j,n,{p,i,g},b,ok F}}
def T7.hh(a:T7 K c q st ps)(X:Ő h)(G:ýa ď mg)(P:ë)(w:å)(d:Heap)(ok:∀{f fd},wR K Ϡa q st f fd->y_ P w K mg d yu k f fd ps sp):IJ P w K mg d c ps k sp:=by let{C,f,n,j,g,e,i,l,fd,F,b}:=a;show{C,f,fd,n,Śb X G n,{j,g,i,e},b,ok F}
def IC.hh(a:IC K c m q st ps)(X:Ő h)(G:ýa ď mg)(P:ë)(w:å)(d:Heap)(ok:∀{f fd},wR K m q st f fd->y_ P w K mg d yu k f fd ps sp):II P w K mg d c m ps k sp:=by let{C,f,n,j,e,g,i,l,fd,F,b}:=a;show{{C,f,fd,_,Śb X G n,j,e,g,l,b,ok F}}
def qr.n(a:qr K x st f)(X:Ő h)(G:ýa ď mg):mg x=À İ:=Śb X G a.1
def z06(g:Dc K w a l)(e:ş (·.2.2)=Įc Ĉ)(b:ğc)(ex:ş (·.1)=xs)(m:Yv mg ns fs):Zi K w mg a ăc ns:=by rw[Ēo];show z1l g (e▸Tk l) b q m
#print a
nonrec def Vq(b:Ð)(vs:Á V):HO:=match b with
 |Æ=>.lst vs|Â=>.tup vs
def y8r{K:Ñ}{G:Hp}{b:Ð}{p:Ì}{vs:Á V}:SqB K (zT G p (Vq b vs)) b p vs:=match b with
 |Æ=>yS|Â=>åb yS
section
variable{K:Ñ}{n:Ã}{P:Á V}{G0 H0 G H:Hp}{β:yC}{σ:St}
def gI.sq(f:Ð)(h:gI K n P G0 H0 G H β σ ms vs)(C:H p=Ä)(Z:Ϻ<=â) :zk K ı P G0 H0 ϣk Ÿg (β++[À (.tp f ms)]) Œl:=by
 let{L,H1,E,N,a,b}:=h;let{S,F}:=ûa;let I:G p=Ä:=ám C;let t:∀q,q≠p->Ÿg q=H q:=λq z=>zy z
 let R:∀q,q≠p->ϣk q=G q:=λq z=>zy z
 let A:∀q,L q->Bx H q:=ċc (λm _ v L1 oo=>oo.cells m v L1) N
 let k:∀q,Bx H q->q≠p:=λq z w=>by subst w;show z.some C
 let J:∀i q,S i q->¬ L q:=λi q z w=>by let e:=ĉb.2.1;rw[Ľi.2.2]at e;show ĉb.2.2.some e
 let X:¬ L p:=λz=>k p (A p z) rfl
 let U:H0 p=Ä:=by
  cases e:H0 p with
  |Ä=>rfl|À o=>have:=Ķc p o ((b p X).trans e);rw[C]at this;cases this
 let r:∀q,Bx H q->Bx Ÿg q:=λq z=>by let{u,O,T}:=z;show{u,(t q (k q {u,O,T})).trans O,T}
 show{{âm Øi,λq o z=>?_,Qz òa,λq z=>?_},by rw[Æp],by rw[í,Ŕ];rfl,by rw[ϣo],λi w h=>?_,λj=>if j<n then S j else if j=n then L else λ_=>õ,λi B h=>?_,λi j q Q l d=>?_,λi q z=>?_};let c:¬ L q:=λw=>by rw[Ľi.2.1]at z;cases z
 rw[t q λw=>by subst w;rw[U]at z;cases z];show Ķc _ _ ((b q c).trans z);rcases P5 z with e|e;show .inr (e▸U);rcases űd q e with w|w;show .inl w;rw[ŝo];show .inr (a q c).2.1;rw[b q c]at w;show .inr w;let hi:i<σ.length:=by rw[ğo]
 rw[wu hi];show ŷa i w h;rcases Vo h with⟨c,e⟩|⟨c,e⟩;rw[Ŕ]at c;let{w,ew,ow}:=ϥ i B e;refine{w,by rw[wu ŭc];show ew,?_};simp only[Ò c];show ow.loc Øi B w _ λq z=>t q (k q ĉb.2.2);rw[Ąo];show{p,vs,rfl,y8r,ϛb (λB _ v' Y s o=>ùd Øi B v' Y λq z=>t q (k q (A q Ϧd))) N,Z};split at l;rw[Ħo];show ŵ i j q Q l d;rw[Ħo];show J i q l d;show d;split at l;rw[Ħo];show J j q d l;rw[Ħo];show Q Ê;show d;show l;rw[Ŗo];let{x,y,w}:=ϵ i q z;show{(R q (k q w)).trans x,by rw[b q (J i q z)]at y;show y,r q w};rw[Ŗo];show{(R q (k q (A q z))).trans Ãe.1,Ãe.2.1,r q (A q z)};show Ť
#print a
structure ML(X:Cx)(es:Á Õ)(fs:yC->É ϫc):Ç where
 h:∃t,PA X es t/\∀{P:Á V}{G0 H0 G H:Hp}{β β':yC}{σ:St}{ms:Á M}{Q:Á V->Hp->Ç},zk X.K ú P G0 H0 G H β σ->fs β=À (ms,β')->(∀vs G' H',zt G G'->gI X.K ú P G0 H0 G' H' β' σ ms vs->ü=Ϻ->Q vs H')->t σ H Q
nonrec def Fp(b:Ð)(fs:yC->É ϫc):wS:=λβ=>(fs β).bind λr=>match śb r.1.length 1000 with
 |Æ=>À (.tp b r.1,r.2)|Â=>Ä
section
variable{X:Cx}{e v:Õ}{es:Á Õ}{x y:È}{pos:Pos}{f:wS}{fs:yC->É ϫc}
def z65:ML X [] F_:={{_,Xb,λ{P d c G H β β' σ b Q} E a q=>by cases a;show q [] _ _ ńf (gI.nil E) rfl}}
def QX(hv:MC X e f)(j:ML X es fs)(h:Î ϊ q11):ML X ē (X7 f fs):=by
 let{z,r,k}:=ōc;let{K,n,y}:=j.h;show{{_,YD r n h,λ{P J C G H β β' σ B Q} E c q=>?_}};obtain⟨⟨m,β1⟩,x,c⟩:=zD c;obtain⟨⟨t,β2⟩,s,c⟩:=zD c;cases c;show k E x λu A I v p=>?_
 let{L,F,i,o,a,b}:=p.hold ÿa;show y i s λw N O d h l=>?_
 show q (u::w) _ _ (v.trans d) (gI.cons o a b i.ext.g d h) ϴk
def z5w(h:ML X es fs):MC X Ŗg (Fp Â fs):=by
 let{t,j,i}:=h.h;show{{_,eP j,λ{P o u G H β β' σ m Q} E a q=>?_}};obtain⟨⟨n,β1⟩,g,a⟩:=zD a
 rw[Åp];cases a;refine i E g λr s v e b l=>{by rw[l];show įa (Ģe c),λp d=>?_}
 show q _ _ _ (ϰb (we ?_ _)) (b.sq Â d (įa (Ģe c)));let{_,_,f,_}:=b;show f.ext.gh.free d;cases a
#print a
section
variable{K:Ñ}{fd:Ļ}{p0 p1 p2 p3:È}
def bd2(b:∀s x y,Ő ß->Ýb s fd {Ťb,[]} ((ϳd).zip Ťb)):vq K fd ϳd []:=aW λs a d c=>us2 (P:=λa=>Ýb s fd {a,[]} ((ϳd).zip a)) (λx y=>b s x y d) a c
def bd4(b:∀s x y z u,Ő ß->Ýb s fd {ŷn,[]} ((łd).zip ŷn)):vq K fd łd []:=aW λs a c d=>us4 (P:=λa=>Ýb s fd {a,[]} ((łd).zip a)) (λx y z u=>b s x y z u c) a d
#print a
def TV:Á M->É Ĥb
 | []=>À []|m::ms=>(X6 m).bind λd=>(TV ms).bind λa=>À ϊi
def Fo(f:wS):wS:=λβ=>(áb).bind λr=>match r.1 with
 |.tp Â ms=>(TV ms).bind λa=>À (.fz (.tup a),r.2)|_=>Ä
def y2e{K:Ñ}{G H:Hp}:∀{ms:Á M}{ds:Á D}{vs:Á V}{L:Ft},TV ms=À ds->Š K G H ms vs L->ã K G ds vs:=λ{ms}=>by
 induction ms with
 |nil=>intro ds vs L e h;cases e;show h.1|ā m ms ih=>rintro ds vs L e ⟨v,r,c,b,rfl,o,h,_,_⟩;let{d,e1,e}:=zD e;let{a,e2,e}:=zD e;cases e;cases TZ e1;show{v,r,rfl,o.1,ih e2 h}
def oJ:∀{ms:Á M}{ds:Á D},TV ms=À ds->ę=Ϻ:=λ{ms}=>by
 induction ms with
 |nil=>intro ds e;cases e;rfl|ā m ms ih=>intro ds e;let{d,e1,e}:=zD e;let{a,e2,e}:=zD e;cases e;show ŕ Ëi (ih e2)
def z5v{X:Cx}{e:Õ}{f:wS}(h:MC X e f):MC X e (Fo f):=by
 rw[ķo];show{{t,p,λ{P A w G H β β' σ y Q} E a q=>?_}};obtain⟨⟨m,β1⟩,g,a⟩:=zD a;show k E g λv d i s b=>?_
 dsimp only at a
 rw[Ęo];rename_i x;let{B,e,a}:=zD a;cases a;let{z,F}:=b.own;let{u,c,p,j,rfl,r,o,l}:=ϥ ú _ (v_ b.qL);rw[v_ b.gv]at c;cases c;let n:=y2e e o;show q _ d i s ((b.down ÿa).Yk {p,j,rfl,r,n,by rw[oJ e];show l});cases a
#print L3
namespace L2
open ě ħ ź Ģ
def Zl(h:Heap)(v:Value)(n:Å):Ç:=∃a o xs k t,v=.ref a/\Ě a=À o/\úa=.type ō/\Đa=.seq xs k/\xs[0]?=À (.int n t)
abbrev u4(κ:SortKind)(a:Ú Ù)(p:Ú Ęa)(f:É Value)(g:Ã):ø:=Čb κ a p g f
section
variable{Ē:ë}{w:å}{A:û}{E:Value->Ï->Ç}{s:Ï}{x:Ú Ù}
def z5i{u v:Value}{a b:Å}{Q:Ð->Ï->Ç}(m:Zl ß u a)(r:Zl ß v b)(h:b<a)(q:Q Â s):Û è A (keyLt' ĵa u v) Q E s:=by
 let{p,o,{g},k,t,rfl,n,z,j,i}:=m;let{y,x,{f},B,C,rfl,e,l,d,c}:=r;show W.kat_lt n j e d ?_;cases g with
 |nil=>cases i|ā x1 g=>
  cases f with
  |nil=>cases c|ā y1 f=>cases(show À x1=_ from i);cases(show À y1=_ from c);show W.kat_cons (Ăl ?_);rw[show ϋi=Â from Üc Ê];show W.kat_no ?_;exact Û _ _ (oneLt' Æ _ _) _ _ _;show śn ?_;rw[į Ê];show q
structure Lx(h:Heap)(x:Ú Ù):Ç where
 up:∀i,i+1<ļ->∃u v a b,x[i]?=À u/\x[i+1]?=À v/\Zl h u.1 a/\Zl h v.1 b/\a<b
def x78{m:Ã}{p f g}{Q:É Ð->ø->Ç}(U:Lx ß x)(l:1<=m)(e:m<ļ)(q:Q (À Â) Ţe):wpS è A E s (ltAt' (0+m) (0+m-1)) Q Ţe:=by obtain⟨k,rfl⟩:∃k,m=k+1:={m-1,by omega};let{u,v,a,b,d,h,j,c,i}:=U.up k e;rw[show 0+Ĝ-1=k by omega,show 0+Ĝ=k+1 by omega,ltAt'_eq];show ä (Ιb (v6 h (ä (v6 d ?_))));rw[lt'_eq];show ä ϩb;show ä (čg (ļe (z5i c j i {rfl,î q})))
def x71{p f g}{Q:É Ã->ø->Ç}(U:Lx ß x)(b:1<=ļ)(q:Q (À ņf) Ţe):wpS è A E s (èf 0 ņf) Q Ţe:=by unfold èf;show ä (ε (ſa (I:=λy c st=>st=u4 ĵa x p f g/\c=(Ä,y)) (Q:=λc st=>st=u4 ĵa x p f g/\c=(Ä,ļ-0)) ?_ ?_ {rfl,rfl}));rintro y _ _ d a ⟨rfl,rfl⟩;show ä (x78 U d a ?_);simp only[Ĵa,Ÿ];show î {rfl,rfl};rw[ďo];rw[Śe (show 1<=ļ-0 from b)];rw[ϓo];rw[ďo];show yo (λ_=>î q) λe=>Þ (ſc _) e
def x6z{lo n ok:Ã}{st:ø}{Q:Ð->ø->Ç}(h:n<=max ok 1)(q:Q Æ st):wpS è A E s ìm Q st:=by unfold ūg;show ä (ε (ſa (I:=λ_ c a=>a=st/\c=(Ä,())) (Q:=λc a=>a=st/\c=(Ä,())) ?_ ?_ {rfl,rfl}));rintro y _ _ d b _;show Þ b (ϔc (ģ h d));rw[ďo];rw[ϓo];rw[ďo];show î q
def x7c{g:Ã}{Q:þa->ø->Ç}(U:Lx ß x)(j:1<=ļ)(h:∀q g,Q () (u4 ĵa x q Ä g)):wpS è A E s äf Q ĸk:=by
 unfold äf;rw[ϻo];show ä (ε (ſa (I:=λz c st=>z=0/\c=(Ä,0)/\st=u4 ĵa x #[] Ä g\/1<=z/\c=(Ä,ļ)/\∃q,ħb<=1/\st=u4 ĵa x q Ä g) (Q:=λc st=>c.1=Ä/\∃q,ħb<=1/\st=u4 ĵa x q Ä g) ?_ ?_ (.inl {rfl,rfl,rfl})));rintro z _ _ _ i (⟨rfl,rfl,rfl⟩|⟨l,rfl,q,a,rfl⟩);refine yo (λc=>Þ (show 0≥ļ from c) Ê) λc=>?_
 show ä (x71 U j ?_)
 let b:∀k f,k=ļ->wpS è A E s (Nh ļ 0 k f) (λr st=>qE Ïj ϕi r) ĸk:=λk f e=>by subst e;rw[ϻo];exact wpS _ _ _ _ (Lq 0 ļ) _ _;show ä (Φ (î (.inr {ϒm _,?_,#[(0,ļ,0)],ϒm _,rfl})));exact(Ä,0+ļ)=_;rw[ϔ]
 show őc (Q:=λr st=>qE Ïj ϕi r) ?_ λr st h=>by cases r<;>show h
 show yo (λd=>ä (Βa (x6z (n:=min ņf Įg) (ok:=ļ-0) ?_ (yo Ěl λ_=>b (min ņf Įg) _ ?_)))) λd=>b _ _ rfl;show ģ Łk (Nat.le_max_left ..);show řa (ϯ d);show yo (λc=>î {rfl,q,a,rfl}) λc=>Þ (ïa ļ) c;rintro _ _ (⟨z,rfl,rfl⟩|⟨_,rfl,q,a,rfl⟩);rw[Ϙe]at z;show Þ z (by exact ¬ ļ=0;omega);show{rfl,q,a,rfl};rintro⟨_,m⟩ _ ⟨rfl,q,a,rfl⟩;show ä (ε (ſa (I:=λz c st=>c=(Ä,())/\st=u4 ĵa x q Ä g) (Q:=λc st=>c=(Ä,())/\st=u4 ĵa x q Ä g) ?_ ?_ {rfl,rfl}));rintro z _ _ _ i ⟨rfl,rfl⟩;show ä (ÿd (yo (λc=>î {rfl,rfl}) λc=>Þ a c));rw[ďo];rw[ϓo];rw[ďo];show î (h q g)
#print a
def Zl.to{h h':Heap}{v:Value}{n:Å}(p:Zl h v n)(k:∀b o,Ě b=À o->úa=.type ō->Ė b=À o):Zl h' v n:=by let{a,o,d,m,t,e,f,c,r}:=p;show{a,o,d,m,t,e,k a o f c,c,r}
structure gL(h:Heap)(vs:Á Value)(ns:Á Å):Ç where
 ln:ś=ü
 up:ŵm (·<·)
 el:∀(i:Ã) v n,vs[i]?=À v->ns[i]?=À n->Zl h v n
theorem gL.to{h h':Heap}{vs:Á Value}{ns:Á Å}(U:gL h vs ns)(k:∀b o,Ě b=À o->úa=.type ō->Ė b=À o):gL h' vs ns:={U.ln,U.up,λi v n a b=>(U.el i v n a b).to k}
def gL.sr{h:Heap}{vs:Á Value}{ns:Á Å}(U:gL h vs ns):Lx h āc:=⟨λi a=>by
 rw[åh]at a
 have g:∀j (b:j<ü),āc[j]?=À (vs[j],vs[j]):=λj b=>by rw[<-ϋa,ϓg,ĳ (by rw[ĸa,Ľa];show b),List.getElem_zip]
 let c:=U.ln;refine{_,_,ns[i]' Ê,ns[i+1]' Ê,g i Ê,g ù a,U.el i _ _ Ϣh Ϣh,U.el ù _ _ (ĳ a) Ϣh,?_};show Õg U.up i ù Ê Ê (ïb i)⟩
def gL.uP{h:Heap}:∀{vs:Á Value}{ns:Á Å},gL h vs ns->∃fs,W.KatTups h vs fs/\Ġa=ü/\∀v∈fs,∃n t,v=.int n t:=λ{vs}=>by
 induction vs with
 |nil=>show λ_=>{[],trivial,rfl,λ_ z=>(Ìa z).elim}|ā v vs ih=>
  intro ns U;cases ns with
  |nil=>show Þ U.ln nofun|ā n ns=>
   let{fs,k,l,a}:=ih (ns:=ns) {õc U.ln,(Ũc U.up).2,λi v n e1 e2=>U.el ù v n e1 e2};let{p,o,d,m,t,e,g,f,c,j}:=U.el 0 v n rfl rfl
   show{.int n t::fs,{{p,o,d,m,e,g,f,c,j},k},ŕ Ëi l,λu b=>by rcases Ī b with rfl|b;show{n,t,rfl};show a u b}
section
variable{Ē:ë}{w:å}{A:û}{E:Value->Ï->Ç}{s:Ï}{a:Ì}{vs:Á Value}{ns:Á Å}{n:Ã}
def eG:(āc).map (·.2)=ϝ:=by apply Array.toList_inj.mp;rw[Array.toList_map,ϓg,Ċl ċ]
theorem y8l{P:ïf->Ï->Ç}(f:Ă a=À Ϫk)(U:gL ß vs ns)(j:ü<=â)(h:P Ġg { s with é:=Ĳh ß a vs ϝ }):Û è A ňj P E s:=by
 let l:a<Ý:=Ĥ f;obtain⟨c,p⟩:∃c,(îk).get? a=À ňe:={_,get?_update_seq f Ŏh}
 let i:(ŧg).get? a=À ňe:=by rw[ŏe _ _ _ (ςc (êc l)),ŏe _ _ _ (by rw[ĭe];show ϓ l)];show p
 let m:∀b o,Ă b=À o->úa=.type ō->(ŧg).get? b=À o:=λb o e y=>by show ĝ _ (ĝ _ ?_);rw[œk _ _ _ _ ϭn];show e;subst z;rw[f]at e;cases e;show Þ (ěg y) Í
 rw[Ķl];refine Ô (ğm f rfl (Ô (ćd f rfl (hsz:=by rw[ė];show j) ?_)));show Ô (Ăe p rfl (Ô (ęg ?_ (by show j))));rw[Ĺo]
 let d:∀st:ø,arrOf st=ϭd vs->P Ġg { s with é:=Ĳh ß a vs ((Îf).map (·.2)) }:=λst e=>by rw[e,eG];show h
 let k:∀st:ø,arrOf st=ϭd vs->((Îf).map (·.2)).size<=â+1:=λst e=>by rw[e,eG,ė];show ōe j
 by_cases h2:Ĵl<2;rw[Ò h2,Ò h2];show Ô Ģa;dsimp only;rw[StateT.run_pure];show Ô Ģa;dsimp only;show Ô (υd (ćd i rfl ?_ (hsz2:=k ųj rfl)));rw[ϡo];show č (d ųj rfl);rw[Ó h2,Ó h2];rw[ė]at h2;let{G,B,F,r}:=(U.to m).uP
 refine Ô (W.kat_kind (T:=.type ϲa) B Ê (λv u=>by let{n,t,rfl}:=r v u;show W.Looks.of_pure rfl) Í ?_)
 refine Ô (ηd (x7c (x:=ϭd vs) (g:=7) (Q:=λ_ st=>arrOf st=ϭd vs/\Äi st=Ä) (U.to m).sr (by rw[åh];omega) λq g=>{rfl,rfl}));rintro⟨⟨⟩,st⟩ _ ⟨rfl,e,C⟩;dsimp only;show Ô (υd (ćd i rfl ?_ (hsz2:=k st e)));rw[C];rw[ϡo];show č (d st e)
def y8n{l:Ì}{Q:Value->Ï->Ç}(g:Ľd l ϝ)(U:gL ß vs ns)(d:ü<=â)(h:Q Łn { s with é:=űh ß vs ϝ }) :Û è A (źa Ϙc [.ref l]) Q E s:=by
 rw[Ŋo];show Ô (m:=ìn Ša 1 1 _) Ģa;show Ô (collect_list g ?_ d);show Ô (ēe ?_ d)
 let c:((øf).update Ý (čb (·++ϝ))).objs.size=Ý+1:=by rw[ĭe,ãn]
 have a:(((øf).update Ý (čb (·++ϝ))).push Ňe).get? (Ý+1)=À Ňe:=by rw[<-c];show Ř _ rfl
 exact Û _ _ _ _ _ { s with é:=((øf).update Ý (čb (·++ϝ))).push Ňe };rw[c]
 let f:∀b o,Ă b=À o->úa=.type ō->(((øf).update Ý (čb (·++ϝ))).push Ňe).get? b=À o:=λb o e _=>by show ĝ _ ?_;rw[œk _ _ _ _ ùf];show ĝ _ e
 show Ô (ύa (Ůb ŷl {_,a,rfl} ķl (y8l a (U.to f) d {_,rfl,č {_,rfl,h}}) Ϸk))
#print a
section
variable{X:Cx}
def sJ:wM X Ϙc (λxs H Q=>∃(p:Ì) (vs:Á V) (ns:Á Å),xs=őb/\yU X.K H p vs/\ś=ü/\ŵm (·<·)/\(∀(i:Ã) v n,vs[i]?=À v->ns[i]?=À n->∃b us,v=.ref b/\ye X.K H b ţm)/\∀l,H l=Ä->Q Ϯb (zT H l Åd)):=by
 intro O s σ H xs us Q I r h;let{p,vs,ns,rfl,L,A,z,B,q}:=h;let{u,rfl,g}:=wv r;cases g;let{a,e,F,x}:=ű L;let d:=e.length
 let U:gL ß a ns:=⟨A.trans d,z,λi v n e1 e2=>by
  let m:i<ü:=by rw[d];show(Ŭ e1).1
  let{b,us,G,J}:=B i vs[i] n (ĳ m) e2;let{R,y,j}:=e.get (ĳ m);rw[e1]at y;cases y;rw[G]at j;cases(show v=.ref b from j);let{P,C,{o,N,f,k,E},_}:=ώ J;cases C with
  |ā g _=>let{t,rfl}:=g;show{b,o,_,k,t,rfl,N,f,E,rfl}⟩
 let{c,f}:=ĝm ß a ϣa;show y8n F.isList U (d▸x) ?_;show{.ref ãa,_,īa (t':=Ć) (h':=űh ß a ϣa) ók (İd _) (show yz ô X.w _ _ _ Åd from{x,a,c,e,f}),rfl,q _ Èh}
#print a
#print L2
namespace L3
open ě ħ Ģ L2
nonrec def XE:Á D->É üf
 | []=>À []|.tup (.int n::_)::r=>(XE r).bind λa=>À (n::a)|_=>Ä
def OE:Á D->É D
 | [.lst xs]=>(XE xs).bind λa=>match decide (ķh (·<·))with
  |Æ=>À Ċa|Â=>Ä
 |_=>Ä
section
variable{X:Cx}{e:Õ}{fs:FA}{p pos:Pos}
def z15{K:Ñ}{H:Hp}:∀{xs:Á D}{vs:Á V}{ns:Á Å},XE xs=À ns->ã K H xs vs->ś=ü/\∀(i:Ã) v n,vs[i]?=À v->ns[i]?=À n->∃b us,v=.ref b/\ye K H b ţm:=λ{xs}=>by
 induction xs with
 |nil=>intro vs ns h r;cases h;cases(show vs=[]from r);show{rfl,λi v n e _=>by cases e}|ā x xs ih=>
  intro vs ns h r
  match x,h with
  |.tup (.int m::ds),h=>
   let{f,j,h}:=zD h;cases h;let{v,p,rfl,{a,us,rfl,g,o,_},r}:=r;let{u,d,rfl,c,_}:=o;cases(show u=.int m from c);let{l,k}:=ih j r;show{ŕ Ëi l,λi v n e1 e2=>?_};cases i with
   |ϙ=>cases e1;cases e2;show{a,d,rfl,g}|Ϛ i=>show k i v n e1 e2
def y85(y:Gl X Ša)(u:ñ Ša=Ä)(I:SA X [e] fs)(r:Î ϊ q11):SF X īg (eL OE fs):=by
 let{t,O,k}:=I.h;refine{{_,(Qr sJ y u Fn {O} Í Í (by rw[Ś,r];rfl)).h,λ{T R G H τ σ d Q} E c q=>?_}};let{F,z,c}:=zD c;show k E z λU P S f s=>?_
 rcases F with _|⟨x_,r_⟩;cases c
 cases x_<;>first|(cases c;done)|skip
 cases r_<;>first|(cases c;done)|skip
 rename_i B;let{w,J,c}:=zD (show(XE B).bind _=À d from c)
 split at c;rename_i m;cases c;let{v,rfl,a,C,rfl,N,j,l}:=uU s;let{L,o}:=z15 J j
 show{a,C,w,rfl,vn f.gh N,L,ŭ m,λi v n e1 e2=>by let{b,x,K,A}:=o i v n e1 e2;show{b,x,K,vO f.gh A},λp g=>q p _ _ (ŕb (ĭa f.gh g)) (f.h.free g) (f.gh.free g) {_,yS,j,l}};cases c
#print a
def T6(K:Ñ)(x:È)(st:Ø)(ps:Á È):Ç:=∃f,Ū K ď x=À Ņa/\g_ K x x st ps f
section
variable{K:Ñ}{w:å}{mg:È->É Value}{h:Heap}{x:È}{st:Ø}{ps:Á È}{f:Ì}{sp:Sp}{k:Ã}
def fnd_mk(n:Ū K ď x=À Ņa)(e:g_ K x x st ps f):T6 K x st ps:={f,n,e}
def T6.hh(a:T6 K x st ps)(X:Ő h)(G:ýa ď mg)(P:ë)(w:å)(c:Heap)(ok:∀{f fd},wR K x x st f fd->y_ P w K mg c yu k f fd ps sp):wB P w K mg c x ps k sp:=by let{f,n,i,d,fd,F,b}:=a;show{f,fd,Śb X G n,d,b,ok F}
#print a
#print L3
namespace L3
open ě
nonrec def cL:Á D:=[Ń,ϡ,ĉa,Ĉf]
def VG:D:=.tup cL
nonrec def Q0:Á D:=[ũd,řh,Śh]
def kI:D:=.tup Q0
nonrec def z1n:Á D:=[Ñf,Òf,Ôf]
def OO:D:=.tup z1n
nonrec def tu:Á Ķ:=ĥc .inr ["label",őa,Ħb,ϸb,Űa,Ūa,ŏa,Ŭa,ţb,ťb,Ãc,ŝb,ϯa,Ģb,ĥb,ġb,Ôa,õa,Ûb,Úb,Ìb,ëd]
nonrec def kJ:Á D:=[şm,ťe,ťe,Ĵb,Ĵb,Ĵb,Ĵb,Ĵb,Ĵb,Ĵb,Ĵb,Ĵb,ťe,ťe,Ķe,Ķe,Ķe,Ķe,şm,Ħl,Ħl,áo]
nonrec def T_:Á Ķ:=ĥc .inr [őa,Ħb,ϯa,Ģb,ĥb,ġb,Ôa,õa]
nonrec def Q2:Á D:=[ĉa,ĉa,Ϫa,Ϫa,ϡ,ϡ,ϡ,ϡ]
nonrec def uk:Á Ķ:=ĥc .inr [Ïa,"d","s",όd,Ľb]
nonrec def ul:Á D:=[(.tup [(.int 27),Ϫa]),(.tup [Ĉf,Ňa]),(.tup [ïo,Ňa]),(.tup [Ĉf,Ŕb]),(.tup [Ń,Ϫa])]
nonrec def jo:Á Ķ:=ĥc .inr [ëd,őa,Ħb,ϸb,Űa,Ūa,ŏa,Ŭa,ţb,ťb,Ãc,ŝb,ϯa,Ģb,ĥb,ġb,Ôa,õa]
nonrec def jp:Á D:=[Ń,ča,Ŕb,Ňa,ĭf,Ϫa,(.int 6),(.int 7),ϡ,(.int 9),(.int 10),(.int 11),(.int 12),(.int 13),(.int 14),Ěc,ĉa,(.int 17)]
nonrec def OP:Á L2.V:=[.int 0,.int 1,.int 2,.int 3,.int 4,.int 5,.int 6,.int 7,.int 8,.int 9,.int 10,.int 11,.int 12,.int 13,.int 14,.int 15,.int 16,.int 17]
nonrec def XH:Á Ķ:=ĥc .inr åm
nonrec def Y1:Á D:=[(.int 18),(.int 19),(.int 20)]
nonrec def OR:Á L2.V:=[.int 18,.int 19,.int 20]
nonrec def XG:Á Ķ:=ĥc .inr åm
nonrec def Y0:Á D:=[ïo,(.int 22),(.int 23)]
nonrec def OQ:Á L2.V:=[.int 21,.int 22,.int 23]
theorem VR{g:FG}{c:FT}{e:FE}{σ:yK}(p:D->Ð)(v:D->D):∀{ds:Á D},(∀d∈ds,∃σ1,g d σ=À σ1/\c σ1=À (p d)/\(p d=Æ->e σ1=À (v d)))->yc g c e σ ds=À ((ds.filter p).map v)
 | [],_=>rfl|d::ds,h=>by
  let{σ1,e1,e2,b}:=h d Òd;let a:=VR p v (ds:=ds) λx f=>h x (Ça _ f)
  exact(Ģf).bind _=_;rw[e1];exact(c σ1).bind _=_;rw[e2];cases hp:p d with
  |Â=>rw[List.filter_cons_of_neg (by rw[hp];decide)];show a|Æ=>rw[ùg hp];exact(œf).bind _=_;rw[b hp];exact(yc g c e σ ds).bind _=_;rw[a];rfl
def VS(v:D->D)(h:∀d∈ds,∃σ1,g d σ=À σ1/\e σ1=À (v d)):yc g yl e σ ds=À (ĺf v):=by
 let:=VR (g:=g) (c:=yl) (e:=e) (σ:=σ) ōh v (ds:=ds) λd f=>by let{σ1,a,b}:=h d f;show{σ1,a,rfl,λ_=>b}
 rw[this,øg Ōd]
inductive jd(R:D->D->Ç):Á D->Á D->Ç
 |nil:jd R [] []
 |ā {x y:D} {xs ys:Á D}:R x y->jd R xs ys->jd R Ĭi (y::ys)
def Vw{n i:Ã}{d:D}(h:(wE n)[i]?=À d):i<n/\d=.int (i:Å):=by
 let a:i<n:=by let:=Ōa.1;rw[ċo]
 show{a,?_};simp[a]at h;show h.symm
def ly{n:Ã}{d:D}(h:d∈wE n):∃i:Ã,i<n/\d=.int (i:Å):=by let{i,a,e}:=List.getElem_of_mem h;show{i,(Vw (List.getElem?_eq_some_iff.mpr {a,e}))}
def JS(n:Ã):(wE n).length=n:=by simp
def IY{α:Type}{xs:Á α}{i:Å}{a:α}(b:0<=i)(h:xs[Ϯd]?=À a):uh xs i=À a:=by unfold uh;rw[Ò b,h]
def ga:Ã->D->Ð
 |0,_=>Â|n+1,.tup xs=>Ĺc (ga n)|n+1,.lst xs=>Ĺc (ga n)|_+1,d=>xV d
theorem Fv{f:D->D->Ð}:∀{xs:Á D},(∀x∈xs,f x x=Æ)->qz f xs xs=Æ
 | [],_=>rfl|x::xs,h=>by exact(f x x&&qz f xs xs)=Æ;rw[h x Òd,Fv λy a=>h y Âd];rfl
theorem Fz:∀{xs:Á D},(∀x∈xs,wH x x=Æ)->ŧb xs xs=Æ
 | [],_=>rfl|x::xs,h=>by exact(wH x x&&ŧb xs xs)=Æ;rw[h x Òd,Fz λy a=>h y Âd];rfl
theorem Qd:∀(n:Ã)(d:D),ga n d=Æ->uC n d d=Æ/\wH d d=Æ
 |0,_,h=>by cases h|n+1,d,h=>by
  cases d with
  |tup xs=>have c:∀x∈xs,ga n x=Æ:=ϐa h;show{Fv λx a=>Ťe.1,Fz λx a=>Ťe.2}|lst xs=>have c:∀x∈xs,ga n x=Æ:=ϐa h;show{Fv λx a=>Ťe.1,Fz λx a=>Ťe.2}|dic ks vs=>cases h|exc _=>cases h|obj _ _ _=>cases h|zG=>show{rfl,rfl}|bl b=>show{rfl,ſc b}|int i=>show{rfl,ſc i}|str z=>show{rfl,ſc z}
def z0v(h:ga 6 d=Æ):kE d d=À Æ:=by
 let{a,b}:=Qd 6 d h
 have e:kE d d=match uC 6 d d with
  |Æ=>À (wH d d)|Â=>Ä:=by cases d<;>rfl
 rw[e,a,b]
theorem z6s(h:ga 6 d=Æ):xE d d=À ò:=by unfold xE;rw[z0v h];rfl
def Oc{i j:Å}(h:i=j):zh Ϡ ĭc=À ŉ:=by subst h;exact À (ıb (i==i))=_;rw[ſc]
theorem cf{i j:Å}(h:i≠j):zh Ϡ ĭc=À ò:=by exact À Ñh=_;rw[Üc h]
theorem ŋa{i j:Å}:yf Ϡ ĭc=À Řd:=rfl
theorem lH:∀ts:Á È,Xt óf=À ts
 | []=>rfl|t::ts=>by exact(Xt óf).bind _=_;rw[lH ts];rfl
def z4b(h:(Ϧb (·.length)).sum+ãf*čc<=1000000):OB (.str sep) (.lst óf)=À (.str (Ïl sep ts)):=by exact(Xt óf).bind _=_;rw[lH];exact(if _<=yr then _ else _)=_;rw[Ò Úg]
theorem TU{L M:Á D}(h:ěb+ęf<=1000):yf (.lst L) (.lst M)=À (Ε (L++M)):=by exact(if ěb+ęf<=yr then _ else _)=_;rw[Ò Úg]
theorem L6{x y:D}{b:Ð}(h:zh x y=À ϭa):xE x y=À (.bl (!b)):=by
 unfold zh at h;unfold xE;cases e:kE x y with
 |Ä=>rw[e]at h;cases h|À k=>rw[e]at h;cases h;rfl
def oQ(b:n<2 ^ w)(a:y/2 ^ l%2 ^ w=0):(y &&& ϩh)=0:=by
 apply ħk;intro i;rw[Ĺl,Ĉl];rw[ôg];by_cases hl:l<=i;by_cases hi:i-l<w;let e:y.testBit i=(y/2 ^ l%2 ^ w).testBit (i-l):=by rw[Ðk,Ñk,ĉ hi,ãm,ĝd hl]
 rw[e,a,Ĉl,ϕc];let:n.testBit (i-l)=Â:=Nat.testBit_lt_two_pow (Ŧ b (Ħk Í Ê));rw[this];simp;simp[hl]
theorem oP(x l w:Ã):(x &&& (ßo*2 ^ l))=x/2 ^ l%2 ^ w*2 ^ l:=by apply ħk;intro i;rw[Ĺl,ôg,ôg,Nat.testBit_two_pow_sub_one,Ðk,Ñk];by_cases hl:l<=i;simp[hl,ĝd hl];rw[Bool.and_comm];simp[hl]
theorem sO(l w:Ã):ég=((ßo*2 ^ l:Ã):Å):=by let h:1<=2 ^ w:=Nat.one_le_two_pow;rw[Int.natCast_mul,Int.natCast_sub h];simp
def rN(a:0<=x)(l w:Ã):ďd x ég=x/2^l%2^w*2^l:=by let{n,rfl}:=Šc a;rw[sO,êk ŋf ŋf,ϧ,ϧ,oP];simp
def rM(h:0<=y)(c:0<=n)(g:n<2 ^ w)(i:y/2 ^ l%2 ^ w=0):ďd y ϩh=0:=by
 let{a,rfl}:=Šc h;let{b,rfl}:=Šc c;let e:(b:Å)*2 ^ l=((b*2 ^ l:Ã):Å):=by simp
 let d:b<2 ^ w:=by
  let:((2 ^ w:Ã):Å)=(2:Å) ^ w:=by simp
  omega
 let f:a/2 ^ l%2 ^ w=0:=by
  let:((a/2 ^ l%2 ^ w:Ã):Å)=(a:Å)/2 ^ l%2 ^ w:=by simp
  omega
 rw[e,êk ŋf ŋf,ϧ,ϧ,oQ d f];rfl
def s_{x p r:Å}(f:0<=x)(a:0<p)(b:0<r):0<=x-x/p%r*p/\ϴe/p%r=0/\ϴe/p/r=x/p/r/\ϴe%p=x%p:=by
 let g:0<=x/p:=Ľl f (áa a);let e1:x-x/p%r*p=x+p*(-(x/p%r)):=by rw[Int.mul_neg,Int.mul_comm p];omega
 let e2:ϴe/p=x/p-x/p%r:=by rw[e1,Int.add_mul_ediv_left _ _ (ϝe a)];omega
 let c:x/p-x/p%r=r*(x/p/r):=by let:=Ċk (x/p) r;omega
 show{?_,?_,?_,?_};let d:x/p%r<=x/p:=by let:=Ċk (x/p) r;let e:0<=x/p/r:=Ľl g (áa b);let j:0<=r*(x/p/r):=Int.mul_nonneg (áa b) e;omega
 let i:x/p%r*p<=x/p*p:=Int.mul_le_mul_of_nonneg_right d (áa a);let h:=Int.ediv_mul_le x (ϝe a);omega;rw[e2,c];show ϑk _ _;rw[e2,c];show Int.mul_ediv_cancel_left _ (ϝe b);rw[e1];show Int.add_mul_emod_self_left ..
def eI(x:Å)(w:Ã):ďd x ((1:Å)*2 ^ w-1)=x%2 ^ w:=by rw[ŕd,W.kbt_mask]
theorem x7l{x n:Å}{l w:Ã}(b:0<=x)(f:0<=n)(a:n<2 ^ w):ſe (ďd x (Ģj ég)) ϩh=x+(n-x/2 ^ l%2 ^ w)*2 ^ l:=by let e:(0:Å)<2 ^ l:=ϔm Í;let c:(0:Å)<2 ^ w:=ϔm Í;let{d,g,_,_}:=s_ b e c;rw[PyProof.Rows.bitAnd_not,rN b,PyProof.Rows.bitOr_and,rM d f a g,Int.sub_mul];omega
def aU:FS:=
 (zN (yN (tE (e2 Ďb þ şa))
   (zg ĝe)
   yQ)
  (zg ĩ))
def z3u(ns:Á Å)(k:Ã):Ϩ[k]?=(ns[k]?).map Ş:=ſ
nonrec def Td(ns:Á Å)(k:Å):Å:=Èf Õa 0
nonrec def Us:Á D->É ê
 | [.lst xs,.int k]=>if 0<=k then((xs[Õa]?).getD Ń |> λd=>À (Â,d))else Ä|_=>Ä
def sQ(ns:Á Å){k:Å}(h:0<=k):Us Øl=À (Â,.int Øo):=by exact(if 0<=k then _ else _)=_;rw[Ò h,z3u];unfold Td;rw[Èa];cases ns[Õa]?<;>rfl
def y5u:∀ds r,Us ds=À r->ę=2/\yI 2 aU ds=À r:=λds r h=>by
 rcases ds with _|⟨x,_|⟨y,_|⟨z,w⟩⟩⟩;cases h;cases x<;>cases h
 .cases x<;>first|(cases h;done)|skip
  cases y<;>first|(cases h;done)|skip
  rename_i a k
  replace h:(if 0<=k then À (Â,(Õo).getD Ń)else Ä)=À r:=h
  show{rfl,?_};by_cases h0:0<=k;rw[Ò h0]at h;cases h;unfold aU;by_cases c:k<(Ũa:Å);let e:zL (.lst a) (.int k)=À ((Õo).getD Ń):=by exact uh a k=_;unfold uh;rw[Ò h0,ĳ Ê];rfl
  simp only[Ü,ĉ c,e];let e:a[Õa]?=Ä:=ñb Ê;simp only[Ü,į c,e,Option.getD];rw[Ó h0]at h;cases h
 .cases x<;>first|(cases h;done)|(cases y<;>cases h)
def rP(h:wz i<=m):Ëd<2 ^ m:=by
 rw[ϛo];show ϑm Í;rw[Ŷo]
 show(œg).mp Ê
def rO(h:Ëd<2 ^ m):wz i<=m:=by
 rw[ϛo];show Ĉa _;rw[Ŷo]
 rw[e];show(œg).mpr h
def sP{ns:Á Å}{M:Ã}(a:∀m∈ns,wz m<=M)(k:Å):wz Øo<=M:=by
 unfold Td;rw[Èa];cases e:ns[Õa]? with
 |Ä=>show Ĉa _|À m=>show a m (Ϗa e)
def LJ{i j:Å}(a:0<=j)(c:j<64)(d:0<=i)(b:i<2 ^ 64):qA i j=Æ:=by unfold qA;rw[ĉ a,ĉ (show j<=1000000 by omega),ĉ (show Ëd<2 ^ 64 by omega)];rfl
def aV:FS:=
 (zN (zj 4 (e2 vy όj þ))
  (zg (e2 (qT ſe) (e2 ài Č (e1 CI ů)) (e2 vy Œ þ))))
def y44{d:Ã}(h:d<64):1<=(2:Å) ^ d/\(2:Å) ^ d<2 ^ 64:=by
 let a:(2:Ã) ^ d<2 ^ 64:=Nat.pow_lt_pow_right Í h;let b:0<(2:Ã) ^ d:=ϑm Í;let e:((2 ^ d:Ã):Å)=(2:Å) ^ d:=by simp
 let e2:((2 ^ 64:Ã):Å)=(2:Å) ^ 64:=by decide
 omega
nonrec def Yu:Á D->É ê
 | [.int x,.int l,.int d,.int n]=>if Ïg/\0<=n/\n<2 ^ ĳc then À (Â,.int ϩf)else Ä|_=>Ä
def y5x:∀ds r,Yu ds=À r->ę=4/\yI 5 aV ds=À r:=λds r h=>by
 unfold Yu at h
 split at h;rename_i x l d n;show{rfl,?_}
 split at h;rw[ŵo];obtain⟨⟨k,a,e,f,m⟩,b,o⟩:=c;let{q,p}:=y44 (d:=ĳc) Ê;cases h;let e1:=LJ (i:=1) (j:=d) f m Í Í;let e2:=LJ (i:=1*2 ^ ĳc-1) (j:=l) a e Ê Ê;let g:=LJ (i:=n) (j:=l) a e b Ê;unfold aV;simp only[Ü,e1,e2,g,CI,x7l k b o];cases h;cases h
def x7n{x l d n:Å}(h:Ïg/\0<=n/\n<2 ^ ĳc):Yu [.int x,.int l,.int d,.int n]=À (Â,.int ϩf):=Ò h
def F7:FS:=
 (zN (zj 2 (e2 yf (e2 yf (e2 yf (e2 Zw (za Us Żc) (eC (.int 48271))) (e2 tH (eC (.int 104729)) þ)) (e2 tH (eC (.int 7919)) şa)) ŀ))
  (zg (e2 vx (e2 Zw (e2 vx (e2 CK Đ Đ) (eC (.int 2147483647))) (eC (.int 2003))) (eC (.int 2147483629)))))
def gz:Á D->É ê:=FR 2 3 F7
def z2p(x0 x1:D):gz Ĩ=yI 3 F7 Ĩ:=rfl
def z5p{c k l:Å}{M:Ã}(b:4<=M)(e:wz c<=M)(h:0<=k)(m:k<100)(i:0<=l)(j:l<=63):wz (c*48271+104729*k+7919*l+1)<=M+20:=by
 let f:=rP e;let a:2 ^ 4<=2 ^ M:=Ħk Í b;show rO ?_;rw[Nat.pow_add];generalize 2 ^ M=P at f a;let g:(2:Ã) ^ 20=1048576:=by decide
 let d:(2:Ã) ^ 4=16:=by decide
 rw[g];rw[d]at a;omega
def GI{ns:Á Å}(o:ś<=63)(g:∀m∈ns,wz m<=1048576){k:Å}(a:0<=k)(f:k<100):∃m:Å,0<=m/\m<2147483629/\gz Øl=À (Â,.int m):=by let b:=sQ ns (k:=k) a;let d:=sP g k;generalize Td ns k=c at b d;let p:=z5p (M:=1048576) (l:=(ś:Å)) Í d a f Ê Ê;let e:decide (wz ûe+wz ûe<=134217728)=Æ:=ĉ Ê;let h:tJ 48271=Æ/\tJ 104729=Æ/\tJ 7919=Æ/\tJ 2003=Æ:={by decide,by decide,by decide,by decide};let n:∀{i j:Å},yf Ϡ ĭc=À Řd:=rfl;refine{ûe*ûe%2147483647*2003%2147483629,ļl _ Í,ϒk _ Í,?_};rw[z2p];unfold F7;simp only[shx,Üm,Ûm,b,ì,n,h,CK,e,ċb,Int.reduceLT]
def Ik:FS:=
 (zg (e2 ài şl όj))
def vH:Á D->É ê:=FR 3 3 Ik
def cR(x0 x1 x2:D):vH Àa=yI 3 Ik Àa:=rfl
def Dh:FS:=
 (zN (zj 3 (e2 yf Ŝl ēk))
  (ψ (zA (e2 vx Œ Ùd) (Α (e2 (wZ λi j=>decide (j<=i)) Œ Ùd)))))
def WY:Á D->É ê:=FR 3 4 Dh
def z1z(x0 x1 x2:D):WY Àa=yI 4 Dh Àa:=rfl
def FX:FS:=
 (zN (zj 3 (e2 qU (e2 qU Č þ) ēk))
  (zN (yN (tE (e2 Ďb Œ ĩ))
   (ψ (zA (e2 yf Œ Ùd) Ğg))
   yQ)
  (zg šj)))
def Wo:Á D->É ê:=FR 3 4 FX
def z35(x0 x1 x2:D):Wo Àa=yI 4 FX Àa:=rfl
def rD:FS:=
 (zN (zj 2 (e2 vy Č þ))
  (zN (zj 3 (εc (Τ (zA Ūc Źe))))
  (ψ (zA (za vH (Τ (νa ϣn))) ňb))))
def Bn:Á D->É ê:=FR 2 4 rD
def rE:FS:=
 (zN (zj 2 (εc (Θ (zA (e2 qU þ ŀ) Źe))))
  (ψ (zA şl ĺa)))
def Bo:Á D->É ê:=FR 2 3 rE
def JW:FE:=(za vH (Θ (Υ Ϟh)))
def Dp:FS:=
 (Ζc (Α (xK 1 (wT ĺi) åa yl JW)))
def Wc:Á D->É ê:=FR 1 1 Dp
def z27(x0:D):Wc ö=yI 1 Dp ö:=rfl
def Pe:FE:=(e2 vy þ Đ)
def Fe:FS:=
 (zg (eL CO (Α (xK 2 (um Č ĺi) (xh 1 2) yl Pe))))
def U_:Á D->É ê:=FR 1 1 Fe
def z3c(x0:D):U_ ö=yI 1 Fe ö:=rfl
def Dn:FS:=
 (zg (C8 Č þ ĩ))
def Wb:Á D->É ê:=FR 2 2 Dn
def z25(x0 x1:D):Wb Ĩ=yI 2 Dn Ĩ:=rfl
def Dj:FS:=
 (zg (za vH (zA Ŝl (νa Ϣn))))
def WZ:Á D->É ê:=FR 2 2 Dj
def z21(x0 x1:D):WZ Ĩ=yI 2 Dj Ĩ:=rfl
def MP:FE:=(za WZ Żc)
def Dx:FS:=
 (uV (xK 1 (p9 ĩ øb) åa yl MP))
def Yo:Á D->É ê:=FR 1 1 Dx
def z2f(x0:D):Yo ö=yI 1 Dx ö:=rfl
def MU:FE:=(za Wb (zA Č ĺa))
def Fc:FS:=
 (zg (za U_ (Α (xK 1 (wT (vh Yo (zA þ zF))) Šb yl MU))))
def Uy:Á D->É ê:=FR 2 2 Fc
def z3a(x0 x1:D):Uy Ĩ=yI 2 Fc Ĩ:=rfl
def FK:yX:=
 (XW 0 [] þ (vB (za vH (Τ (zA ĩ Ϟh)))))
def Wl:FM:=vG 3 3 FK
def z2y(x0 x1 x2:M):Wl Àa=vK 3 3 FK Àa:=rfl
def On:yX:=(qV (p_ Wl (qw 0 [] (ug Œ (ug ů uB)))))
def FN:yX:=
 (GH (um Ãn ϱm) (VL 3 4)
   On)
def Uv:FM:=vG 3 5 FN
def z2z(x0 x1 x2:M):Uv Àa=vK 3 5 FN Àa:=rfl
def mR:FE:=šj
def Df:yX:=
 (wD (qW 0 [] [ĸ] Ĵ (Ta (eL V6 Éa)))
  (wD (qW 0 [] [ĸ] ϛa (Ta (Εc (xK 1 (wT Âe) Ôe yl mR))))
  (qW 0 [] [ĸ] ϻ (Ta (eL O9 ĺa)))))
def WV:FM:=vG 3 3 Df
def z1x(x0 x1 x2:M):WV Àa=vK 3 3 Df Àa:=rfl
def Dt:yX:=
 (Δa (vB ťc))
def Ul:FM:=vG 2 2 Dt
def z2b(x0 x1:M):Ul Ĩ=vK 2 2 Dt Ĩ:=rfl
def oh:yX:=
 (gZ 0 Ũe ĳb (qR (za Yu (zA ïe (zA Ýf (zA Ýf (Α ťc)))))))
def Bf:FM:=vG 2 2 oh
def og:yX:=
 (Δa (qR Åg))
def Be:FM:=vG 2 2 og
def FV:FS:=
 (zN (yN (ν (eC Őd))
   (zg (za WY (Υ (Τ (ζ (eC ò))))))
   yQ)
  (zN (yN (ν (eC Óf))
   (zg (za WY (Υ łm)))
   yQ)
  (zg (za Wo (Υ (Τ (Α (Zs Œ (e2 zh Č (eC Ļn))))))))))
def Wn:Á D->É ê:=FR 4 4 FV
def z33(x0 x1 x2 x3:D):Wn ϛc=yI 4 FV ϛc:=rfl
def FC:yX:=
 (wD (χa řh (e2 zh þ ĩ))
  (χa Śh (e2 zh (za vH (Υ (zA (e2 qU Ūc ŀ) Źe))) ŀ)))
def Yr:FM:=vG 2 2 FC
def z2t(x0 x1:M):Yr Ĩ=vK 2 2 FC Ĩ:=rfl
def Dv:yX:=
 (wD (gY 2 (qR (za Wn (ωd (zA Åg (Α (e2 zL (Κ (xL żn ϛa)) (eC ũd))))))))
  (wD (χa ũd żg)
  (wD (θb (ug Ůe uB))
  (VT (μa (e2 xE ób (eC śh)))
   (Δa (vB Ůe))
   VU))))
def gF:FM:=vG 2 3 Dv
def z2d(x0 x1:M):gF Ĩ=vK 2 3 Dv Ĩ:=rfl
def rB:FS:=
 (zN (yN (ν (eC (.str ţb)))
   (ςb ài)
   yQ)
  (zN (yN (ν (eC (.str ťb)))
   (ςb (qT ſe))
   yQ)
  (ςb (qT Ϗl))))
def Bm:Á D->É ê:=FR 3 3 rB
def oZ:yX:=
 (wD (gY 2 (qR (za Bm (ωd (Α (e2 zL (Κ øk) ťc))))))
  (wD (θb Æn)
  (Δa Ýi)))
def Uj:FM:=vG 2 3 oZ
def oj:yX:=
 (wD (gY 2 (qR ïe))
  (wD (gY 3 (vB (vC (tE (Εb (.str ϯa))) (za Bn ňl) (za Bo ňl))))
  (wD (VT (μa (e2 kF úc Ϟ))
   (χa ũd úc)
   VU)
  (wD (θb (ug śl uB))
  (gZ 0 Ũe ĳb (vB śl))))))
def ID:FM:=vG 2 4 oj
def Di:FS:=
 (zg (za WZ (zA Åg (Α (e2 zL þ (eC Ňa))))))
def ZX:Á D->É ê:=FR 2 2 Di
def z20(x0 x1:D):ZX Ĩ=yI 2 Di Ĩ:=rfl
def oi:yX:=
 (Δa (qR (za Wb ϳi)))
def Bg:FM:=vG 2 2 oi
def Ds:yX:=
 (Δa (qR (za Uy ϳi)))
def Uk:FM:=vG 2 2 Ds
def z2a(x0 x1:M):Uk Ĩ=vK 2 2 Ds Ĩ:=rfl
def ot:yX:=
 (qV (p_ Wl ċj))
def Bh:FM:=vG 2 2 ot
def Du:yX:=
 (qV (p_ Uv ċj))
def Um:FM:=vG 2 2 Du
def z2c(x0 x1:M):Um Ĩ=vK 2 2 Du Ĩ:=rfl
nonrec def gO:Á Ķ:=ĥc .inr [őa,Ħb,ϸb,Űa,Ūa,ŏa,Ŭa,ŝb,ţb,ťb,Ãc,ϯa,Ģb,ĥb,Ôa,ġb,õa]
nonrec def bQ:Á È:=[Ċf,àf,áf,ϡb,ϡb,ϡb,ϡb,ϡb,Ϲc,Ϲc,Ϲc,Ŭd,Ŭd,ßf,Âf,Áf,ϫe]
def O4:Á FM:=[Ul,Bf,Be,gF,gF,gF,gF,gF,Uj,Uj,Uj,ID,ID,Bg,Uk,Bh,Um]
def Ic:yX:=
 (VT (μa (e1 (Tl gO) ób))
   (qV (Fu gO O4 ób (qw 0 [] (ug þ uB))))
   VU)
def Za:FM:=vG 2 2 Ic
def cM(x0 x1:M):Za Ĩ=vK 2 2 Ic Ĩ:=rfl
def F8:FS:=
 (zN (yN (tE (Εb Òf))
   (zg ņj)
   yQ)
  (zN (yN (tE (Εb Ôf))
   (zg (Tg ņj))
   yQ)
  (zg (Εb Ñf))))
def Wi:Á D->É ê:=FR 2 2 F8
def z2q(x0 x1:D):Wi Ĩ=yI 2 F8 Ĩ:=rfl
def Db:FS:=
 (zg (Th (e2 zh (Κ (xL [á] äb)) (Κ (xL [á] Őa))) (e2 zh (e2 zL Ñj ĩ) (wp (Α (eC (.str ëd)))))))
def gD:Á D->É ê:=FR 1 1 Db
def z1u(x0:D):gD ö=yI 1 Db ö:=rfl
def Dd:yX:=
 (wD (VT (μa (za gD (qx á ĝc Č zF)))
   (VW (vB (eC ò)))
   VU)
  (wD (gY 1 (qR Ñj))
  (wD (qV (p_ Za (qw 0 ĳd (ug ób uB))))
  (wD (qW 0 [] [á] äb (qR (vC (tE (za Wi (zA ıe (Α ób)))) ťc ĳb)))
  (wD (GG 0 [] [á] şb ŀ)
  (VW (vB ģf)))))))
def gE:FM:=vG 1 2 Dd
def z1v(x0:M):gE ö=vK 1 2 Dd ö:=rfl
abbrev pW:Á Ķ:=[.inr ąc,.inr źe,.inr Ğc]
nonrec def YR(a b c:Ð):D:=.dic pW àc
def st(ws:Á D)(a b c:Ð)(hk:Á Ķ)(hv:Á D):M:=.obj ĸ ém [.own Äd,.own Ϸc,.own ύb]
def tG(ws:Á D)(a b c:Ð)(hk:Á Ķ)(hv:Á D):D:=.obj ĸ ém [.lst ws,YR a b c,.dic hk hv]
abbrev Wt:Á È:=[Ϣ,Őa,Ϻa,Ąb,Ńa,äb,şb]
nonrec def xW(T:D)(e:Å)(fw fh:D)(s:M)(due done:Å):M:=.obj á Wt [.fz T,.fz īf,.fz fw,.fz fh,s,.fz Ùf,.fz Ün]
nonrec def wn(T:D)(e:Å)(fw fh:D)(s:D)(due done:Å):D:=.obj á Wt [T,.int e,fw,fh,s,.int due,.int done]
section
variable{ws ws':Á D}{a b c d':Ð}{hk hk':Á Ķ}{hv hv':Á D}{T fw fh sd:D}{e due done:Å}{s s':M}
def JM:vd Ŵb=tG ws a b c hk hv:=by simp only[st,tG,vd,ŉc]
theorem JL:vd Œc=wn T e fw fh (vd s) due done:=by simp only[xW,wn,vd,ŉc]
theorem oT{i:Ã}{π:Á xX}:k8 Ŵb i π=.p i π:=rfl
def DU:qQ Ŵb Ũe=À (.own Äd):=rfl
def aR:qQ Ŵb Ņl=À (.own (.dic pW àc)):=rfl
def oX:qQ Ŵb Ġd=À (.own ύb):=rfl
def Gh:qB Ŵb Ũe (.own (.lst ws'))=À (st ws' a b c hk hv):=rfl
def y4g:qB Ŵb Ġd (.own (.dic hk' hv'))=À (st ws a b c hk' hv'):=rfl
def fJ{x y z:Ð}:qB Ŵb Ņl (.own (.dic pW [.bl x,.bl y,.bl z]))=À (st ws x y z hk hv):=rfl
def OG:xL [ĸ] Ĵ ĭg=À Äd:=rfl
def bu:xL [ĸ] ϛa ĭg=À Ϸc:=rfl
def br:xL [ĸ] ϻ ĭg=À ύb:=rfl
def lS:zL Ϸc ũd=À (.bl a):=rfl
def x3l:zL Ϸc řh=À ϭa:=rfl
def x3m:zL Ϸc Śh=À (.bl c):=rfl
def y3t:vk pW ŉn=pW:=rfl
def y3v:vk pW Ňn=pW:=rfl
def y3x:vk pW ňn=pW:=rfl
def y4m:wc pW ĝg ŉn úi=[.bl d',.bl b,.bl c]:=rfl
def y4n:wc pW ĝg Ňn úi=[.bl a,.bl d',.bl c]:=rfl
def y4o:wc pW ĝg ňn úi=[.bl a,.bl b,.bl d']:=rfl
def aQ:qQ Œc ĳd=À s:=rfl
def fH:qB Œc ĳd s'=À (xW T e fw fh s' due done):=rfl
def CQ:xL [á] Ϣ Úc=À T:=rfl
def bq:xL [á] Őa Úc=À īf:=rfl
def Tr:xL [á] Ńa Úc=À sd:=rfl
def OF:xL [á] äb Úc=À Ùf:=rfl
def z10:xL [á] şb Úc=À Ün:=rfl
def bv:jF (.fz (.int d2)) üm 0 [] [á] äb=À (Μ (xW T e fw fh s d2 done)):=rfl
def aT:GG 0 [] [á] şb ŀ üm=À (Μ (xW T e fw fh s due (done+1))):=rfl
def aI(h:fo τ=À Úc)(a:m ∉ Wt)(b:fs τ=À ds):qx á m fo fs τ=À (wn T e fw fh sd due done::ds):=by unfold qx;rw[h];exact(match decide ((á : È) = á)&&!(decide (m∈Wt))with|Æ=>_|Â=>_)=_;rw[ĉ (show(á : È) = á from rfl),į a];exact(fs τ).bind _=_;rw[b];rfl
#print a
nonrec def wI(ns:Á Å):Á D:=Īa Ş
def PL{ns:Á Å}{k:Ã}{v:Å}:(æd).set k Īf=wI (ns.set k v):=(List.map_set ..).symm
def PJ{ns:Á Å}:(æd).length=ś:=ì ..
def En{n k:Ã}(h:k<n):L2.ixN n (k:Å)=À k:=by unfold L2.ixN;rw[Ò Ŋf];simp[h]
theorem Og{ns:Á Å}{k:Ã}{v:Å}(h:ns[k]?=À v):zL (Ε æd) (.int (k:Å))=À Īf:=by exact uh æd (k:Å)=_;unfold uh;rw[Ò Ŋf];exact æd[((k:Å)).toNat]?=_;rw[ϧ];unfold wI;rw[ſ,h];rfl
def z0j:z0 0 (À (Â,wn T e fw fh sd due done)::τ)=À Úc:=rfl
def lB{T fw fh sd row nx tg:D}{e due done:Å}{k:Ð}(h:due≠e->zL T Ùf=À Ľg/\zh row Ėd=À Äe) :gD âg=À (Â,.bl (decide (due=e)||k))\/due=e/\gD âg=À (Â,.bl Æ):=by
 let a:∀{i j:Å},zh Ϡ ĭc=À Ϥm:=λ{i j}=>by rw[šo]
 let d:∀{x y z:D},zL ÿc Ń=À x:=rfl;rw[z1u];unfold Db;by_cases c:due=e;right
 show{c,?_};simp only[Ü,OF,bq,a,c,ċb];left
 let{f,g}:=h c;let b:decide (due=e)=Â:=į c;rw[b];simp only[Ü,OF,bq,CQ,a,b,f,d,g];rfl
def y94{T fw fh row tg:D}{e due done:Å}{s s':M}{nx:D}{d2:Å}(c:due≠e)(f:zL T Ùf=À Ľg)(r:zh row Ėd=À ò)(j:ve Ľg=Æ)(ns:∀d,s≠.fz d)(g:Za [s,.fz row]=À ([s',.fz row],.fz .zG))(ld:Ð)(o:Wi [vd s',row]=À (Â,.bl ld))(l:(if ld then tg else nx)=.int d2) :gE [xW T e fw fh s due done]=À ([xW T e fw fh s' d2 (done+1)],.fz ŉ):=by
 let n:gD Ŝj=À (Â,.bl Â):=by rcases lB (T:=T) (fw:=fw) (fh:=fh) (sd:=vd s) (row:=row) (nx:=nx) (tg:=tg) (e:=e) (due:=due) (done:=done) (k:=Â) λ_=>{f,r}with z|⟨z,_⟩;rw[z,į c];rfl;show Þ z c
 let m:∀{x y z:D},zL ÿc Ń=À x:=rfl;let q:∀{x y z:D},zL ÿc ča=À y:=rfl;let i:∀{x y z:D},zL ÿc Ŕb=À z:=rfl
 let h:k8 s 0 ĳd=.p 0 ĳd:=by
  cases s with
  |fz d=>show Þ rfl (ns d)|_=>rfl
 let a:∀τ:yK,qx á ĝc Č zF (À (Â,wn T e fw fh (vd s) due done)::τ)=À Ŝj:=λτ=>aI z0j Ýa rfl
 rw[z1v];unfold Dd;cases ld with
 |Â=>have b:nx=.int d2:=l;subst b;simp only[ϭ,JL,a,n,CQ,OF,f,j,m,q,i,aQ,fH,h,g,Tr,o,bv,aT]|Æ=>have b:tg=.int d2:=l;subst b;simp only[ϭ,JL,a,n,CQ,OF,f,j,m,q,i,aQ,fH,h,g,Tr,o,bv,aT]
theorem Ny{x y z:D}:zL ÿc Ń=À x:=rfl
def lT{x y z:D}:zL ÿc ča=À y:=rfl
def lU{x y z:D}:zL ÿc Ŕb=À z:=rfl
def bU{x y:D}:zL Ϥc Ń=À x:=rfl
def bV{x y:D}:zL Ϥc ča=À y:=rfl
def Íe{i j:Å}:zh Ϡ ĭc=À Ϥm:=by rw[šo]
theorem Oi{x:È}:uo œb=À Įf:=rfl
def dI:decide (3<yr)=Æ:=by decide
def XS:zL (.tup (y::xs)) Ń=À y:=rfl
section
variable{Ws:Á Å}{a b c:Ð}{hk:Á Ķ}{hv:Á D}
def z0k{d:Ã}{n:Å}(e:d<žh):Ul [st ϟ a b c hk hv,.fz Čj]=À ([st (wI (Ţi d n)) a b c hk hv,.fz Čj],.fz .zG):=by rw[z2b];unfold Dt;simp only[ϭ,Ny,lT,lU,DU,Gh,PJ,En e,PL]
theorem z5d{w:Å}{g:Å}(h:vH Õk=À (Â,.int g)):Yr [st ϟ a b c hk hv,.fz ĩf]=À ([st ϟ a (decide (w=0)) (decide (g=1)) hk hv,.fz ĩf],.fz .zG):=by rw[z2t];unfold FC;simp only[ϭ,JM,h,Íe,Oi,aR,fJ,dI,y3v,y3x,y4n,y4o]
theorem z0m{k:È}{d s:Ã}{x y w g:Å}{u:Ð}(e:xE Īc śh=À ŉ)(f:Ws[d]?=À x)(j:Ws[s]?=À y)(h:Wn [.str k,.int x,.int y,.bl a]=À (Â,.tup [.int w,.bl u]))(l:vH Õk=À (Â,.int g)) :gF [st ϟ a b c hk hv,.fz ÿj]=À ([st (wI (Ţi d w)) u (decide (w=0)) (decide (g=1)) hk hv,.fz ÿj],.fz .zG):=by let i:d<žh:=(Ŭ f).1;rw[z2d];unfold Dv;simp only[ϭ,JM,OG,bu,lS,Og f,Og j,h,Ny,lT,lU,bU,bV,Oi,aR,fJ,dI,y3t,y4m,z5d l,oT,e,DU,Gh,PJ,En i,PL]
theorem bS{k:È}{d s:D}{F:FM}{S a:M}(c:Tl gO Īc=À ŉ)(e:Ĳ gO O4 (.inr k)=À F)(f:∀d,S≠.fz d)(i:ve d=Æ)(g:ve s=Æ)(h:F Ϟm=À (Ϝm,.fz .zG)) :Za Ϟm=À (Ϝm,.fz .zG):=by
 rw[cM];unfold Ic
 let b:k8 S 0 []=.p 0 []:=by
  cases S with
  |fz d=>show Þ rfl (f d)|_=>rfl
 simp only[ϭ,Ny,c,Oi,e,b,h]
#print a
inductive qP:D->Ç
 |ēa:qP Ėd
 |BU {w:È} {d n:Å} (hw:w = őa \/ w = Ħb) (d0:0<=d) (d1:d<8) (n0:0<=n) (n1:n<65536):qP Ŗh
 |two {w:È} {d s:Å} (hw:w = ϸb \/ w = Űa \/ w = Ūa \/ w = ŏa \/ w = Ŭa \/ w = ţb \/ w = ťb \/ w = Ãc \/ w = ŝb) (d0:0<=d) (d1:d<8) (s0:0<=s) (s1:s<8):qP İn
 |Rz {w:È} {d n:Å} (hw:w = ϯa \/ w = Ģb) (d0:0<=d) (d1:d<8) (n0:0<=n) (n1:n<32):qP Ŗh
 |mem {w:È} {d s n:Å} (hw:w = ĥb \/ w = ġb \/ w = Ôa \/ w = õa) (d0:0<=d) (d1:d<8) (s0:0<=s) (s1:s<8) (n0:0<=n) (n1:n<256):qP Ĳn
def z43{a:D}{r:Á D}:zL (.tup ņc) Ń=À a:=rfl
nonrec def z41:D->Ð
 |.tup (.str w::_)=>w == Ûb || w == Úb || w == Ìb|_=>Â
nonrec def z4c:D:=.tup [.str Ûb,.str Úb,.str Ìb]
theorem y40{d:D}(h:qP d):∃w,zL d Ń=À ό/\vw ό z4c=À ò/\zh ό Ħe=À ò/\z41 d=Â/\ga 5 d=Æ:=by
 cases h with
 |ēa=>show{_,rfl,rfl,rfl,rfl,rfl}|BU hw=>rcases hw with rfl|rfl<;>show{_,rfl,rfl,rfl,rfl,rfl}
 |two hw=>rcases hw with rfl|rfl|rfl|rfl|rfl|rfl|rfl|rfl|rfl<;>show{_,rfl,rfl,rfl,rfl,rfl}
 |Rz hw=>rcases hw with rfl|rfl<;>show{_,rfl,rfl,rfl,rfl,rfl}
 |mem hw=>rcases hw with rfl|rfl|rfl|rfl<;>show{_,rfl,rfl,rfl,rfl,rfl}
def k7{L:Á D}{r:D}(h:ěb<=1000):j6 (.lst L) r=À (Ε (L++[r])):=by exact(if ěb<yr then _ else _)=_;rw[Ò (by exact _<16777216;omega)]
theorem bX{R:D->D->Ç}:∀{xs ys:Á D},jd R xs ys->ç=ϰ
 |_,_,.nil=>rfl|_,_,.cons _ r=>by rw[Ď,Ď,bX r]
theorem bY{R:D->D->Ç}:∀{xs ys:Á D},jd R xs ys->∀y∈ys,∃x∈xs,R x y
 |_,_,.nil,_,h=>by cases h|x::xs,y::ys,.cons r rs,z,hz=>by rcases Ī hz with rfl|hz;show{x,ī ..,r};let{w,a,h}:=bY rs z hz;show{w,Ça _ a,h}
def z47{l:Á D}{P:D->Ç}(c:Å){n:Å}(h:(ġc:Å)=n)(e:0<n)(a:∀r∈l,P r):∃r,zL (.lst l) (Δ (c%n))=À r/\P r:=by
 let d:=ļl c (show n≠0 by omega);let f:=ϒk c e;let b:(c%n).toNat<ġc:=by omega
 show{l[(c%n).toNat],IY d (ĳ b),a _ (ŷb b)}
def TX{P:D->Ç}{x:D}{l:Á D}(h:P x)(t:∀r∈l,P r):∀r∈x::l,P r:=λr m=>by rcases Ī m with rfl|m;show h;show t r m
def oN{P:D->Ç}:∀r∈([]:Á D),P r:=λ_ m=>Þ m Ìa
nonrec def pD(p:Å×Å):D:=.tup Īg
structure Zm(ps:Á Ĕ):Ç where
 ad:∀p∈ps,0<=p.1/\p.1<65536
 Ye:∀p∈ps,0<=p.2/\p.2<256
 nd:(ń (·.1)).Nodup
def F2:FS:=
 (zN (yN (uw (tE (j5 .bool Č)) (Ψ (j5 .int Č)))
   ſb
   yQ)
  (zg (Zs (e2 Ϡe ĩ Č) (e2 Ďb Č ϒj))))
def pT:Á D->É ê:=FR 2 2 F2
def z2k(x0 x1:D):pT Ĩ=yI 2 F2 Ĩ:=rfl
def Dz:FS:=
 (zg (za pT (Θ Ϣn)))
def Up:Á D->É ê:=FR 1 1 Dz
def z2h(x0:D):Up ö=yI 1 Dz ö:=rfl
def F3:FS:=
 (zN (yN (Θb Ŗl (e2 xE şa íb))
   ſb
   yQ)
  (zg (Zs (za Up Ϥn) (za pT (zA (e2 zL Č ŀ) Ϟh)))))
def Uq:Á D->É ê:=FR 1 1 F3
def z2l(x0:D):Uq ö=yI 1 F3 ö:=rfl
def Ey:FS:=(zN (yN (Ψ (za Uq ĺa))
     Ţa
     yQ)
    (zN (yN (tE (e2 vw Ůe (X8 1)))
     Ţa
     yQ)
    (YH 1 Ůe żg)))
def Do:FS:=
 (zN Ŭe
  (zN (yN (tE žg)
   Üe
   yQ)
  (zN (yN (Ψ ϫl)
   Ţa
   yQ)
  (zN (vY Ϭb Šb
   Ey)
  Üe))))
def ZY:Á D->É ê:=FR 1 3 Do
def z26(x0:D):ZY ö=yI 3 Do ö:=rfl
def x7u:FE:=(za pT (Υ ϣn))
def rK:FS:=
 (zN (yN (tE žg)
   (uV (e2 OD (v3 Án) ϯe))
   yQ)
  (zN (yN (Θb ϫl (e2 xE şa ϯe))
   Ţa
   yQ)
  (zN (yN (Ψ (Δc (xK 1 Ϭb åa yl x7u)))
   Ţa
   yQ)
  (uV (eL V6 ĳa)))))
def IH:Á D->É ê:=FR 1 1 rK
def F0:FS:=
 (zg (e2 zh Űb åi))
def Zc:Á D->É ê:=FR 1 1 F0
def z2j(x0:D):Zc ö=yI 1 F0 ö:=rfl
def D_:FS:=
 (zg (e2 vw Űb (eC OO)))
def Wg:Á D->É ê:=FR 1 1 D_
def z2i(x0:D):Wg ö=yI 1 D_ ö:=rfl
def mZ:FE:=þ
def Pj:FT:=(Ψ (za Zc Éa))
def FU:FS:=
 (uV (xK 1 Ϭb åa Pj mZ))
def Zg:Á D->É ê:=FR 1 1 FU
def z32(x0:D):Zg ö=yI 1 FU ö:=rfl
def Ez:FS:=(yN (tE Ĝh)
     (YH 1 úc Đ)
     (zj 2 (e2 ŭe Đ ŀ)))
def F4:FS:=
 (zN Ŭe
  (zN Ćn
  (zN (vY Ϭb Ôe
   Ez)
  Üe)))
def Ur:Á D->É ê:=FR 1 4 F4
def z2m(x0:D):Ur ö=yI 4 F4 ö:=rfl
def Pd:FE:=(vC (tE (za Wg ĺa)) (e2 zL þ (e2 zL Đ Ğh)) Ϟ)
def FY:FS:=
 (zN (zj 1 (za Ur ĳa))
  (uV (xK 1 (wT ěh) Šb yl Pd)))
def Yt:Á D->É ê:=FR 1 2 FY
def z36(x0:D):Yt ö=yI 2 FY ö:=rfl
def DW:yX:=
 (wD (qW 0 [] [á] Ńa (Tc ĸ WV (qw 0 Ňl (qw 0 ņl uB))))
  (wD (qW 0 [] [á] äb Þi)
  (qW 0 [] [á] şb Þi)))
def ZV:FM:=vG 1 1 DW
def z1p(x0:M):ZV ö=vK 1 1 DW ö:=rfl
def DV:yX:=
 (wD (qW 0 [] [á] Ϣ (vB þ))
  (wD (qW 0 [] [á] Őa Ýi)
  (wD (qW 0 [] [á] Ϻa (vB (vh IH ňb)))
  (wD (qW 0 [] [á] Ąb (vB (vh ZY (Α ů))))
  (qV (kA á ϫd 0 [] ZV uB))))))
def WQ:FM:=vG 5 5 DV
def z1o(x0 x1 x2 x3 x4:M):WQ Ďl=vK 5 5 DV Ďl:=rfl
def Oe{i:Å}{w:Ã}(e:w<=64):pT [.int i,.int (w:Å)]=À (Â,.bl (decide âe&&decide (i<2 ^ w))):=by
 let b:qA 1 (w:Å)=Æ:=by unfold qA;rw[ĉ Ê,ĉ Ê];rfl
 let d:vy ča Äm=À úm:=by rw[Šo];rw[b];exact À ăe=_;rw[ϧ,ŕd]
 rw[z2k];unfold F2;by_cases c:0<=i;let a:decide âe=Æ:=ĉ c;rw[a];simp only[Ü,a,b,ϧ,ŕd];let a:decide âe=Â:=į c;rw[a];simp only[Ü,a,ϕc]
nonrec def kP(ps:Á Ĕ):Á Ķ:=ń λp=>.inl p.1
nonrec def vP(ps:Á Ĕ):Á D:=ń λp=>.int p.2
def Eh:vW ķ Õb=decide (a∈ń (·.1)):=by
 unfold vW kP;rw[List.any_map,øc,Ųc,ċl]
 rw[ύo];rintro⟨p,b,e⟩;let c:=ŭ e;show śe {p,b,ϝc c};intro h;let{p,b,e}:=ëa h;show{p,b,ĉ (ŕ Ãa e)}
def fG(h:a ∉ ń (·.1)):vk ķ Õb=kP Ϗe/\wc ķ Ŝ Õb (.int b)=vP Ϗe:=by
 let c:vW ķ Õb=Â:=by rw[Eh];show į h
 unfold vk wc;rw[Ó ðl,Ó ðl];unfold kP vP;rw[Ía,Ía];rw[ϓo]
def y2f{p:Å×Å}(c:0<=p.1/\p.1<65536)(d:0<=p.2/\p.2<256):Uq [pD p]=À (Â,.bl Æ):=by
 let a:=Oe (i:=p.1) (w:=16) Í;rw[ĉ c.1,ĉ (show p.1<2 ^ 16 from c.2)]at a;let b:=Oe (i:=p.2) (w:=8) Í;rw[ĉ d.1,ĉ (show p.2<2 ^ 8 from d.2)]at b;let f:pT [.int p.1,.int 16]=À (Â,.bl Æ):=a;let h:pT [.int p.2,.int 8]=À (Â,.bl Æ):=b
 let e:Up [.int p.1]=À (Â,.bl Æ):=by rw[z2h];unfold Dz;simp only[Ü,f]
 let g:xE (.int ((0+1+1:Ã):Å)) Ŕb=À ò:=rfl;rw[z2l];unfold F3 pD;simp only[Ü,bU,bV,e,h,g]
theorem rf{ps:Á Ĕ}(P:Zm ps)(v:ĥ<=1000):ZY Éf=À (Æ,.dic ķ Ŝ):=by
 let{σ',e1,x,rfl}:=pB (g:=yF 2) (b:=Ey) (λi σ=>∃x:É Sl,σ=[À (Â,.lst ϙc),À (Æ,.dic Ϣd (vP ěd)),x])
  (ds:=ń pD) (σ:=[À (Â,.lst ϙc),À (Æ,.dic [] []),Ä]) 0 {Ä,rfl} λi d σ f a=>by
   let{x,rfl}:=a;rw[ϔ];let e:i<ĥ:=by let:=(Ŭ f).1;rw[ì]at this;rw[đo]
   rw[ſ,ĳ e]at f;cases f;generalize a:ps[i]=p;let l:p∈ps:=a▸ŷb e;let o:=y2f (P.ad p l) (ŏc p l);let s:Ųh ù=Ųh i++[p]:=by rw[þe e,a]
   let c:p.1 ∉ (ěd).map (·.1):=by
    let j:=P.nd
    have e2:ń (·.1)=(ěd).map (·.1)++p.1::(ps.drop ù).map (·.1):=by rw[<-a,<-Ň,<-ĸb e,<-Ía,Ŕa]
    rw[e2,Ël]at j;intro z;show j.2.2 _ z _ ī rfl
   let h:vw Öf (.dic Ϣd (vP ěd))=À ò:=by exact((uo Öf).bind λk=>À (vW Ϣd k)).bind _=_;exact À (ıb (vW Ϣd Ōn))=_;rw[Eh,į c]
   let{q,r}:=fG (b:=p.2) c;let u:(Ϣd).length<yr:=by unfold kP;rw[ì,ąa];exact _<16777216;omega
   show{_,[À (Â,.lst ϙc),À (Æ,.dic (kP Žn) (vP Žn)),À (Â,pD p)],rfl,.inl ?_,_,rfl};rw[s];unfold Ey;let m:zL (pD p) Ń=À Öf:=rfl;let t:zL (pD p) ča=À (.int p.2):=rfl;let n:uo Öf=À Ōn:=rfl;rw[<-q,<-r];simp only[Ü,o,m,t,h,YH,n,Ò u]
 rw[ϔ,ì,ħd]at e1;rw[z26];unfold Do;simp only[Ü,e1]
def TC(r:D):Ç:=Zc [r]=À (Â,.bl Â)/\Wg [r]=À (Â,.bl Â)
def HP{a:Á D}(h:∀r∈a,TC r):Zg Ïi=À (Æ,.lst a):=by
 let e:yc åa Pj mZ [À (Â,.lst a),Ä] a=À ((a.filter λ_=>Æ).map id):=VR ōh id λd b=>by show{_,rfl,?_,λ_=>rfl};unfold Pj;simp only[Ü,(h d b).1]
 rw[øg Ōd,ϭe]at e;rw[z32];unfold FU;simp only[Ü,e]
theorem y3y{a:Á D}(h:∀r∈a,TC r):Ur Ïi=À (Æ,.dic [] []):=by
 let{σ',e1,k,x,rfl}:=pB (g:=yF 3) (b:=Ez) (λi σ=>∃(k:Å) (x:É Sl),σ=[À (Â,.lst a),À (Æ,.dic [] []),À (Â,.int k),x])
  (ds:=a) (σ:=[À (Â,.lst a),À (Æ,.dic [] []),À (Â,.int 0),Ä]) 0 {0,Ä,rfl} λi d σ c e=>by let{k,x,rfl}:=e;show{_,[À (Â,.lst a),À (Æ,.dic [] []),À (Â,.int Ĝ),À (Â,d)],rfl,.inl ?_,_,_,rfl};unfold Ez;simp only[Ü,(h d (Ϗa c)).1]
 rw[z2m];unfold F4;simp only[Ü,e1]
theorem x0b{a:Á D}(h:∀r∈a,TC r):Yt Ïi=À (Æ,.lst Ģl):=by
 let e:yc Šb yl Pd [À (Â,.lst a),À (Â,.dic [] []),Ä] a=À Ģl:=VS ăn λd b=>by show{_,rfl,?_};unfold Pd;simp only[Ü,(h d b).2]
 rw[z36];unfold FY;simp only[Ü,y3y h,HP h,e]
theorem y93{Ws:Á Å}{hk:Á Ķ}{hv:Á D}:WV [.obj ĸ [] [],.fz ϸc,.fz ύb]=À ([st ϟ Â Â Â hk hv,.fz ϸc,.fz ύb],.fz .zG):=by let e1:yc Ôe yl mR [Ä,À (Â,.lst ϟ),À (Â,.dic hk hv),Ä] Q0=À Ϝi:=rfl;let e2:Zu [.lst Ϝi]=À (YR Â Â Â):=rfl;let c:V6 øn=À ϸc:=rfl;let e:O9 [.dic hk hv]=À ύb:=rfl;let d:∀{x:M}{yJ:yC},jF x (δ (.obj ĸ [] [])) 0 [] [ĸ] Ĵ=À (Μ (.obj ĸ [Ĵ] [x])):=rfl;let a:∀{x y:M}{yJ:yC},jF x (δ (.obj ĸ [Ĵ] [y])) 0 [] [ĸ] ϛa=À (Μ (.obj ĸ [Ĵ,"truths"] [y,x])):=rfl;let b:∀{x y z:M}{yJ:yC},jF x (δ (.obj ĸ [Ĵ,ϛa] [y,z])) 0 [] [ĸ] ϻ=À (Μ (.obj ĸ [Ĵ,"truths",ϻ] [y,z,x])):=rfl;rw[z1x];unfold Df;simp only[ϭ,kI,e1,e2,c,e,d,a,b];rfl
def oI{T fw fh:D}{e:Å}{Ws:Á Å}{hk:Á Ķ}{hv:Á D}{fs:Á È}{ms:Á M}:ZV [.obj á îe ϖi]=À ([xW T e ϸc ύb (st ϟ Â Â Â hk hv) 0 0],.fz .zG):=by let l:qQ Àl Ňl=À (.fz ϸc):=rfl;let k:qQ Àl ņl=À (.fz ύb):=rfl;let j:∀{a b c d x:M}{yJ:yC},jF x Àg 0 [] [á] Ńa=À (Μ (.obj á [Ϣ,Őa,Ϻa,Ąb,"state"] [a,b,c,d,x])):=rfl;let h:∀{a b c d f x:M}{yJ:yC},jF x (δ (.obj á [Ϣ,Őa,Ϻa,Ąb,Ńa] [a,b,c,d,f])) 0 [] [á] äb=À (Μ (.obj á [Ϣ,Őa,Ϻa,Ąb,"state",äb] [a,b,c,d,f,x])):=rfl;let i:∀{a b c d f g x:M}{yJ:yC},jF x (δ (.obj á [Ϣ,Őa,Ϻa,Ąb,Ńa,äb] [a,b,c,d,f,g])) 0 [] [á] şb=À (Μ (.obj á Wt [a,b,c,d,f,g,x])):=rfl;rw[z1p];unfold DW;simp only[ϭ,l,k,y93,j,h,i];rfl
def Pb:FE:=(wp (Υ ϟh))
def Pi:FT:=(tE (e2 xE ĝe ĩ))
def FJ:FS:=
 (uV (xK 1 (wT (eL CN ĳa)) åa Pi Pb))
def Uu:Á D->É ê:=FR 1 1 FJ
def z2x(x0:D):Uu ö=yI 1 FJ ö:=rfl
def DZ:FS:=
 (uV (eL V6 (Α (e1 øk ıe))))
def WT:Á D->É ê:=FR 1 1 DZ
def z1s(x0:D):WT ö=yI 1 DZ ö:=rfl
def MO:FE:=(e2 zL (e1 (xL [ĸ] ϛa) ıe) þ)
def DX:FS:=
 (Ζc (Α (xK 1 (wT Âe) åa yl MO)))
def WR:Á D->É ê:=FR 1 1 DX
def z1q(x0:D):WR ö=yI 1 DX ö:=rfl
def DY:FS:=
 (uV (vh Uu (Α (e1 (xL żn ϻ) ıe))))
def WS:Á D->É ê:=FR 1 1 DY
def z1r(x0:D):WS ö=yI 1 DY ö:=rfl
nonrec def jQ:Á Ĕ->Å->Å
 | [],_=>0|p::ps,a=>if p.1=a then p.2 else jQ ps a
theorem cF{a:Å}:∀{ps:Á Ĕ},a∈ń (·.1)->Ĳ ķ Ŝ Õb=À Ōl
 | [],h=>Þ h ï|p::ps,h=>by exact Ĳ (.inl p.1::kP ps) (.int p.2::vP ps) Õb=_;unfold Ĳ jQ;by_cases c:p.1=a;rw[Ò (ŕ Ãa c),Ò c];rw[Ó (λz=>c (ϝc z)),Ó c];rw[Ň]at h;show cF ((Ī h).resolve_left λz=>c Ϸb)
def z44(h:a∈ń (·.1)):zL ùb Ĭf=À Ōl:=by exact(uo Ĭf).bind _=_;show cF h
def QW(ps:Á Ĕ):Á Å:=L2.isort (ń (·.1))
def Y6(ps:Á Ĕ):Á D:=((Ŕf).filter λa=>decide (jQ ps a≠0)).map λa=>.tup Ök
theorem z5x(h:a∈QW ps):a∈ń (·.1):=(ßm (ń (·.1))).mem_iff.mp h
theorem dA:∀(ps:Á Ĕ),VN ķ=À (ń (·.1))
 | []=>rfl|p::ps=>by exact(VN ķ).bind _=_;rw[dA ps];rfl
def z55(p:Å->Ð)(v:Å->D)(h:∀n∈ns,∃σ1,g Ĭc σ=À σ1/\c σ1=À (p n)/\(p n=Æ->e σ1=À (v n))):yc g c e σ æd=À ((ns.filter p).map v):=by
 induction ns with
 |nil=>rfl|ā n ns ih=>
  let{σ1,e1,e2,d}:=h n ī;let a:=ih λm b=>h m Źd
  exact yc g c e σ (.int n::wI ns)=_;cases q:p n with
  |Æ=>rw[q]at e2;simp only[yc,e1,Ãb,e2,d q,a,Ŝe,q,Ŗ,Ň]|Â=>rw[q]at e2;simp only[yc,e1,Ãb,e2,a,Ŝe,q,Ĵa,Ÿ]
theorem z6p:xE Ϡ Ń=À (Ιa (i≠0)):=by
 exact À (ıb (!(i==0)))=_
 congr 2
 rw[ϛo];rfl;rw[ĉ c];let:(i==0)=Â:=by simpa using c
 rw[this];rfl
def y2g{ps:Á Ĕ}:Uu ϒl=À (Æ,.lst ľi):=by
 let e1:CN ϒl=À (Ε (wI Ŕf)):=by exact(VN ķ).bind _=_;rw[dA];rfl
 let e2:yc åa Pi Pb [À (Â,.dic ķ Ŝ),Ä] (wI Ŕf)=À ľi:=z55 ſj (λa=>.tup Ök) λn c=>by let b:=z44 (z5x c);show{_,rfl,?_,λ_=>?_};unfold Pi;simp only[Ü,b,z6p];unfold Pb;simp only[Ü,b]
 rw[z2x];unfold FJ;rw[Ńo]
section
variable{T fw fh:D}{e due done:Å}{Ws:Á Å}{a b c:Ð}{ps:Á Ĕ}
def y5l:WT Ϩf=À (Æ,.lst ϟ):=by let d:V6 øn=À ϸc:=rfl;rw[z1s];unfold DZ;simp only[Ü,Tr,OG,d]
theorem z5q:WR Ϩf=À (Â,.tup àc):=by
 let e1:yc åa yl MO [À (Â,wn T e fw fh ùk due done),Ä] Q0=À àc:=by
  let h:∀m:È,MO [À (Â,wn T e fw fh ùk due done),À (Â,.str m)]=zL Ϸc (.str m):=λm=>by unfold MO;simp only[Ü,Tr,bu]
  unfold Q0;simp only[yc,yF,yl,Ãb,ώk,ύk,h,lS,x3l,x3m]
 let e2:gQ [.lst àc]=À (.tup àc):=rfl;rw[z1q];unfold DX kI;rw[Ńo]
theorem z60:WS Ϩf=À (Æ,.lst ľi):=by rw[z1r];unfold DY;simp only[Ü,Tr,br,y2g]
#print a
def VQ:yX:=(GF 2 ŭe ŀ)
def Zp:t7:=(N_ (μa (e2 Ďb Đ þ)) (P4 (kA á Åe 0 [] gE uB)))
def Da:yX:=
 (wD (gY 2 Þi)
  (wD (Ov Zp
   VQ)
  (VW Ýi)))
def ZW:FM:=vG 2 3 Da
def z1t(x0 x1:M):ZW Ĩ=vK 2 3 Da Ĩ:=rfl
theorem PR{c:t7}{b:yX}{a:jh}:∀{n:Ã}{β:yC}(m:Ã),pL c b n β=À a->pL c b (n+m) β=À a
 |0,_,_,h=>by cases h|n+1,β,m,h=>by
  rw[show n+1+m=(n+m)+1 by omega]
  change (ôd).bind _=_ at h
  rw[Ìp];cases e:c β with
  |Ä=>rw[e]at h;cases h|À r=>
   rw[e]at h
   change (match r.1 with|Â=>_|Æ=>_)=_ at h
   exact(match r.1 with|Â=>_|Æ=>_)=_;cases hr:r.1 with
   |Â=>rw[hr]at h;show h|Æ=>
    rw[hr]at h
    change (ļi).bind _=_ at h
    exact(ļi).bind _=_;cases e2:b r.2 with
    |Ä=>rw[e2]at h;cases h|À f=>
     rw[e2]at h;cases f with
     |nx β2=>show PR m h|ct β2=>show PR m h|bk β2=>show h|rt x β2=>show h
def z5j{c:t7}{b:yX}{β:yC}{a:jh}(n:Ã)(h:pL c b n β=À a)(d:Î (n<=ZU) q7):Ov c b β=À a:=by let e:=PR (ZU-n) h;rw[Êl d]at e;show e
def x7j{c:t7}{b:yX}{β β1 β2:yC}{n:Ã}(d:c β=À (Æ,β1))(a:b β1=À ęc):pL c b ı β=pL c b n β2:=by rw[Ìp];rw[d];exact(b β1).bind _=_;rw[a];rfl
def x7i{c:t7}{b:yX}{β β1:yC}{n:Ã}(a:c β=À (Â,β1)):pL c b ı β=À (.nx β1):=by rw[Ìp];rw[a];rfl
section
variable{T fw fh:D}{e:Å}{s s1:M}{d0 d1 j0 j1:Å}
def ss{T fw fh:D}{e due done:Å}{s:M}{x1 x2:É M}:kA á Åe 0 [] gE uB Łl=Zq gE źn Łl:=rfl
def y5s{m k:Å}(hk:k<m)(h:gE [xW T e fw fh s d0 j0]=À ([xW T e fw fh s1 d1 j1],.fz ŉ)):Zp Ϡf=À (Æ,[À (xW T e fw fh s1 d1 j1),À ϥg,À Çm]):=by let z:decide (k<m)=Æ:=ĉ hk;unfold Zp;simp only[ϭ,JL,z,ss,h]
theorem y5w{m k:Å}(hk:¬ k<m):Zp Ϡf=À (Â,Ϡf):=by let z:decide (k<m)=Â:=į hk;unfold Zp;simp only[ϭ,JL,z]
theorem y5r{m k:Å}{x:É M}(b:x=À ąg):VQ [x,À ϥg,À Çm]=À (.nx [x,À ϥg,À (.fz (.int Ĝ))]):=by subst b;let a:Ŧb ąg=Ä:=rfl;unfold VQ;simp only[ϭ,GF,a]
#print a
def im{x:Å}{n:Ã}(a:0<=x)(b:x<4294967296)(c:n<=64):qA x (n:Å)=Æ:=by unfold qA;rw[ĉ Ê,ĉ Ê,ĉ (show x.natAbs<2 ^ 64 by omega)];rfl
def Xc{x:Å}{l w:Ã}(a:w<=64):vH [.int x,.int (l:Å),.int (w:Å)]=À (Â,.int (x/2 ^ l%2 ^ w)):=by
 let c:qA 1 (w:Å)=Æ:=im Í Í a
 let d:vy ča Äm=À úm:=by rw[Šo];rw[c];exact À ăe=_;rw[ϧ,ŕd]
 let b:V8 Ŋb (.int (l:Å))=À (Δ Ϸn):=by exact(match decide ((0:Å)<=(l:Å))with|Æ=>À ŧj|Â=>Ä)=_;rw[ĉ (ĵb l)];exact À ŧj=_;rw[ϧ]
 let e:=eI Ϸn w;rw[ŕd]at e;rw[cR];unfold Ik;simp only[yI,zN,zj,zg,e1,e2,z0,eC,Ãb,Ň,ϛe,ŝe,ıd,Ď,Śa,Ųb,List.replicate_zero,ώk,ύk,List.getElem?_cons_succ,List.getElem?_cons_zero,d,b,qU,qT,Üm,Ûm,Int.reduceSub,e]
nonrec def v4(ps:Á Ĕ)(a b:Å):Á Ĕ:=if a∈ń (·.1)then ń ŏj else ps++[(a,b)]
nonrec def gP:Á Ĕ->Å->Å
 | [],_=>0|p::ps,a=>if p.1=a then p.2 else gP ps a
theorem cH(a:Å):∀ps:Á Ĕ,(Ĳ ķ Ŝ Õb).getD Ń=.int (gP ps a)
 | []=>rfl|p::ps=>by exact(if(Ãa p.1:Sum Å È)=.inl a then À (Ş p.2)else Ĳ ķ Ŝ Õb).getD Ń=.int (if p.1=a then p.2 else gP ps a);rw[Ϸo];rfl;rw[Ó ĕl,Ó h];show cH a ps
theorem Tt(a:Å):∀{ps:Á Ĕ},(∀p∈ps,0<=p.2/\p.2<256)->0<=gP ps a/\gP ps a<256
 | [],_=>{by exact(0:Å)<=0;decide,by exact(0:Å)<256;decide}|p::ps,h=>by
  unfold gP
  split;show h p ī;show Tt a λq b=>h q Źd
theorem mh(a b:Å):∀ps:Á Ĕ,Łb (λk' x=>if k'=(Ãa a:Sum Å È)then Ş b else x) ķ Ŝ=vP Ŕc
 | []=>rfl|p::ps=>by exact(if(Ãa p.1:Sum Å È)=.inl a then Ş b else .int p.2)::Łb _ ķ Ŝ=Ş Ϟj.2::vP Ŕc;rw[mh a b ps];rw[Ϸo];rw[Ó ĕl,Ó h]
theorem CT(a b:Å):∀ps:Á Ĕ,(Ŕc).map (·.1)=ń (·.1)
 | []=>rfl|p::ps=>by exact Ϟj.1::_=p.1::_;rw[CT a b ps];by_cases h:p.1=a;rw[Ò h,<-h];rw[Ó h]
theorem z4d(h:ń (·.1)=qs.map (·.1)):kP ps=kP qs:=by
 let e:∀l:Á Ĕ,kP l=(ş (·.1)).map Ãa:=λl=>by rw[Èb];rfl
 rw[e,e,h]
theorem y7x(ps:Á Ĕ)(a b:Å):vk ķ Õb=kP ŝd/\wc ķ Ŝ Õb (.int b)=vP ŝd:=by by_cases h:a∈ń (·.1);unfold v4 vk wc;rw[Ò h,Eh,Ò (ĉ h),Ò (ĉ h),mh,z4d (CT a b ps)];rw[ϓo];unfold v4;rw[Ó h];show fG h
def Lj{ps:Á Ĕ}{a b:Å}(P:Zm ps)(d:0<=a)(g:a<65536)(f:0<=b)(e:b<256):Zm ŝd:=by
 unfold v4;by_cases h:a∈ń (·.1);rw[Ò h]
 let m:∀q∈ń ŏj,q=(a,b)\/q∈ps:=λq c=>by let{p,k,rfl}:=ëa c;by_cases z:p.1=a;rw[Ò z];show .inl rfl;rw[Ó z];show .inr k
 show{λq c=>?_,λq c=>?_,?_};rcases m q c with rfl|z;show{d,g};show P.ad q z;rcases m q c with rfl|z;show{f,e};show ŏc q z;rw[CT];show P.nd;rw[Ó h];show{λq c=>?_,λq c=>?_,?_};rcases Ăa c with z|z;show P.ad q z;cases Üa z;show{d,g};rcases Ăa c with z|z;show ŏc q z;cases Üa z;show{f,e};rw[Ía,Ël];refine{P.nd,by simp,λx i y j=>?_};obtain rfl:a=y:=(Üa j).symm;show λz=>h (by rw[<-show x=a from z];show i)
def Xn{ps:Á Ĕ}{a b:Å}:(ŝd).length<=ĥ+1:=by
 unfold v4
 rw[Ϝo]
section
variable{Ws:Á Å}{a b c:Ð}{ps:Á Ĕ}
def aJ{x n:Å}:WZ [.int x,.int n]=À (Â,.int Ŷe):=by
 let a:vH [.int (x+n),.int 0,.int 16]=À (Â,.int Ŷe):=by let:=Xc (x:=x+n) (l:=0) (w:=16) Í;rw[Ϝe,Ϣc]at this;rw[đo]
 rw[z21];unfold Dj;simp only[Ü,ŋa,a]
theorem rZ{x:Å}:Wb Čk=À (Â,.int (gP ps x)):=by let a:uo Ŋb=À ôi:=rfl;rw[z25];unfold Dn;simp only[Ü,C8,a,cH]
nonrec def Wx(x:Å):Á D:=[.int ϓb,.int ϒb,.int ϑb,.int ŉb]
theorem b_{x:Å}:Yo Ħc=À (Æ,.lst àe):=by
 let a:p9 ĩ øb [À (Â,.int x)]=À (wE 4):=ku (n:=4) rfl Í
 let e:yc åa yl MP Đd (wE 4)=À àe:=by
  let:=VS (g:=yF 1) (e:=MP) (σ:=Đd) (ds:=wE 4) (νc (Ζ (x+j))) λd b=>by let{k,_,rfl}:=ëa b;show{_,rfl,?_};unfold MP;simp only[Ü,aJ]
  rw[đo]
 rw[z2f];unfold Dx;simp only[Ü,a,e]
theorem x7g(P:Zm ps){x:Å}:Uy Čk=À (Â,.int (gP ps ϓb+gP ps ϒb*256+gP ps ϑb*65536+gP ps ŉb*16777216)):=by
 let e:yc Šb yl MU ßj àe=À [.int (gP ps ϓb),.int (gP ps ϒb),.int (gP ps ϑb),.int (gP ps ŉb)]:=by
  let:=VS (g:=yF 2) (e:=MU) (σ:=ßj) (ds:=Wx x) (νc (gP ps j)) λd b=>by
   obtain⟨j,rfl⟩:∃j,d=.int j:=by
    rcases Ī b with rfl|b;show{_,rfl}
    rcases Ī b with rfl|b;show{_,rfl}
    rcases Ī b with rfl|b;show{_,rfl};show{_,Üa b}
   show{_,rfl,?_};unfold MU;simp only[Ü,rZ]
  rw[đo]
 let{G,H}:=Tt ϓb ŏc;let{R,O}:=Tt ϒb ŏc;let{E,p}:=Tt ϑb ŏc;let{f,s}:=Tt ŉb ŏc;generalize gP ps ϓb=g0 at *;generalize gP ps ϒb=g1 at *;generalize gP ps ϑb=g2 at *;generalize gP ps ŉb=g3 at *
 let sh:∀{g:Å}(n:Ã),0<=g->g<256->n<=64->vy (.int g) Āc=À (Δ (g*2 ^ n)):=λ{g} n S c K=>by let c:=im (x:=g) (n:=n) S Ê K;exact(match qA g (n:Å)with|Æ=>À Ũj|Â=>Ä)=_;rw[c];exact À Ũj=_;rw[ϧ]
 let A:U_ [.lst òe]=À (Â,.int Ņj):=by
  let z:um Č ĺi [À (Â,.lst òe)]=À ϙi:=rfl;let t:vy îo Ń=À îo:=by let:=sh 0 G H Í;rw[Ϝe,Ϯe]at this;rw[đo]
  let I:vy (.int g1) ϡ=À (Δ (g1*256)):=sh 8 R O Í;let F:vy (.int g2) ĉa=À (Δ (g2*65536)):=sh 16 E p Í;let C:vy (.int g3) Ĉf=À (Δ (g3*16777216)):=sh 24 f s Í
  let l:yc (xh 1 2) yl Pe ůj ϙi=À ϸi:=by
   let a:∀(u v w:D),vy u v=À w->∃σ1,xh 1 2 šm ůj=À σ1/\Pe σ1=À w:=λu v w h=>{[À (Â,.lst òe),À (Â,u),À (Â,v)],rfl,h}
   let{Y,r,J}:=a _ _ _ t;let{U,L,k}:=a _ _ _ I;let{T,N,o}:=a _ _ _ F;let{X,q,m}:=a _ _ _ C;simp only[yc,r,L,N,q,J,k,o,m,yl,Ãb]
  let B:CO [.lst ϸi]=À (Δ Ņj):=by
   exact(match((ÿe).all λi=>decide âe&&decide ìl)&&decide ((ÿe:Á Å).length<=1000)with|Æ=>À (Ş (ÿe:Á Å).sum)|Â=>Ä)=_
   let y:((ÿe:Á Å).all λi=>decide âe&&decide ìl)=Æ:=by simp only[Ś,List.all_nil,Ğ,Çl,and_true];show{{?_,?_},{?_,?_},{?_,?_},?_,?_}<;>omega
   rw[y];exact À (Ş (g0+(g1*256+(g2*65536+(g3*16777216+0)))))=_
   congr 2
   omega
  rw[z3c];unfold Fe;simp only[Ü,z,l,B]
 rw[z3a];unfold Fc;let Q:jJ (Ε àe)=À àe:=rfl;simp only[Ü,b_,Q,e,A]
theorem rR{x:Å}:Wc Ħc=À (Â,.tup Ϥi):=by
 let j:vH [.int x,.int 0,.int 8]=À (Â,.int (x%256)):=by let:=Xc (x:=x) (l:=0) (w:=8) Í;rw[Ϝe,Ϣc]at this;rw[đo]
 let e:vH [.int x,.int 8,.int 8]=À (Â,.int (x/256%256)):=Xc (l:=8) (w:=8) Í;let i:vH [.int x,.int 16,.int 8]=À (Â,.int (x/65536%256)):=Xc (l:=16) (w:=8) Í;let b:vH [.int x,.int 24,.int 8]=À (Â,.int (x/16777216%256)):=Xc (l:=24) (w:=8) Í;let a:∀(u w:D),vH [.int x,u,.int 8]=À (Â,w)->∃σ1,yF 1 u Đd=À σ1/\JW σ1=À w:=λu w h=>{[À (Â,.int x),À (Â,u)],rfl,by unfold JW;simp only[Ü,h]}
 let{r,n,k}:=a _ _ j;let{t,m,c}:=a _ _ e;let{q,o,f}:=a _ _ i;let{s,g,d}:=a _ _ b
 let l:yc åa yl JW Đd cL=À Ϥi:=by exact yc åa yl JW Đd [.int 0,.int 8,.int 16,.int 24]=_;simp only[yc,n,m,o,g,k,c,f,d,yl,Ãb]
 let p:∀w x y z:D,gQ [.lst Ÿn]=À (.tup Ÿn):=λ_ _ _ _=>rfl
 rw[z27];unfold Dp;simp only[Ü,VG,l,p]
theorem y4k{x w:Å}(f:ĥ<=1000):Wl Ōj=À ([.own (.dic (kP ąm) (vP ąm)),.fz Ŋb,.fz ĩf],.fz .zG):=by
 let a:vH [.int w,.int 0,.int 8]=À (Â,.int İc):=by let:=Xc (x:=w) (l:=0) (w:=8) Í;rw[Ϝe,Ϣc]at this;rw[đo]
 let e:uo Ŋb=À ôi:=rfl;let b:decide ((ķ).length<yr)=Æ:=ĉ (by unfold kP;rw[ì];exact _<16777216;omega);let{d,c}:=y7x ps x İc;rw[<-d,<-c,z2y];unfold FK;simp only[ϭ,a,e,b]
def tP(ps:Á Ĕ)(x w:Å):Á Ĕ:=v4 (v4 (v4 (v4 ps ϓb İc) ϒb Ϸe) ϑb ύe) ŉb še
def y4l{x w:Å}(E:ĥ<=900):Uv Ōj=À ([.own Ąj,.fz Ŋb,.fz ĩf],.fz .zG):=by
 let z:um Ãn ϱm [Ä,À (Â,.int x),À (Â,.int w),Ä,Ä]=À ώi:=by unfold um;simp only[Ü,b_,rR];rfl
 let c:∀(d:Á Ĕ) (u v:Å) (e f:É M),Óa<=1000->0<=v->v<256->On [À ϑj,À ĉf,À ĥd,À (.fz (.int u)),À (.fz Īf)]=À (Ωc (.dic (kP Ėn) (vP Ėn)) (.int u) Īf):=λd u v e f s n r=>by let h:=y4k (ps:=d) (x:=u) (w:=v) s;rw[Îl n r]at h;let k:k8 ϑj 0 []=.p 0 []:=rfl;unfold On;simp only[ϭ,k,h]
 let q:∀(o e f:É M)(u v:D),VL 3 4 šm [o,À ĉf,À ĥd,e,f]=À [o,À ĉf,À ĥd,À (.fz u),À (.fz v)]:=λ_ _ _ _ _=>rfl
 let A:=Xn (ps:=ps) (a:=(x+0)%65536) (b:=w%256);let m:=c ps ϓb İc Ä Ä Ê Ê Ê;generalize hq0:v4 ps ϓb İc=p0 at *;let C:=Xn (ps:=p0) (a:=Ϸa%65536) (b:=w/256%256);let t:=c p0 ϒb Ϸe Ä Ä Ê Ê Ê;generalize hq1:v4 p0 ϒb Ϸe=p1 at *;let B:=Xn (ps:=p1) (a:=(x+2)%65536) (b:=w/65536%256);let y:=c p1 ϑb ύe Ä Ä Ê Ê Ê;generalize hq2:v4 p1 ϑb ύe=p2 at *;let g:=c p2 ŉb še Ä Ä Ê Ê Ê
 let i:v4 p2 ŉb še=tP ps x w:=by unfold tP;rw[hq0,hq1,hq2]
 rw[i]at g
 let l:kQ (VL 3 4) On ώi [À ŝh,À ĉf,À ĥd,Ä,Ä]=À (Ωc Ąj (Δ ŉb) (Δ še)):=by simp only[kQ,q,m,t,y,g,Ãb]
 let j:Ŧb ŝh=Ä:=rfl;rw[z2z];unfold FN;simp only[ϭ,j,z,l]
theorem y4w:zL Ŧe Ń=À x:=rfl
def fQ{x y z w:D}:zL Ŧe ča=À y:=rfl
def y4x{x y z w:D}:zL Ŧe Ŕb=À z:=rfl
def y4y{x y z w:D}:zL Ŧe Ňa=À w:=rfl
def aK{k:È}{hk:Á Ķ}{hv:Á D}{d:D}{s:Ã}{x n:Å}(e:Ws[s]?=À x):ZX [tG ϟ a b c hk hv,.tup [.str k,d,.int (s:Å),.int n]]=À (Â,.int Ŷe):=by rw[z20];unfold Di;simp only[Ü,OG,y4x,y4y,Og e,aJ]
theorem bR(P:Zm ps){d s:Ã}{x n:Å}(f:d<žh)(e:Ws[s]?=À x):Uk [st ϟ a b c ķ Ŝ,.fz Õj]=À ([st (wI (Ţi d (gP ps Đk+gP ps ďk*256+gP ps Ďk*65536+gP ps čk*16777216))) a b c ķ Ŝ,.fz Õj],.fz .zG):=by let w:=x7g P (x:=(x+n)%65536);generalize gP ps Đk+gP ps ďk*256+gP ps Ďk*65536+gP ps čk*16777216=v at w;rw[z2a];unfold Ds;simp only[ϭ,JM,br,aK e,w,fQ,DU,Gh,PJ,En f,PL]
theorem z0l(f:ĥ<=900){d s:Ã}{x n v:Å}(h:Ws[d]?=À v)(e:Ws[s]?=À x):Um [st ϟ a b c ķ Ŝ,.fz Öj]=À ([st ϟ a b c (kP Ćm) (vP Ćm),.fz Öj],.fz .zG):=by let g:k8 ŝh 0 Ġd=.p 0 Ġd:=rfl;rw[z2c];unfold Du;simp only[ϭ,JM,OG,aK e,Og h,fQ,oX,y4g,g,y4l f]
theorem C6{k:È}{d s n:D}{F:FM}{S a:M}(e:Tl gO Īc=À ŉ)(f:Ĳ gO O4 (.inr k)=À F)(c:∀d,S≠.fz d)(h:F ϟm=À (ϝm,.fz .zG)) :Za ϟm=À (ϝm,.fz .zG):=by
 rw[cM];unfold Ic
 let b:k8 S 0 []=.p 0 []:=by
  cases S with
  |fz d=>show Þ rfl (c d)|_=>rfl
 simp only[ϭ,y4w,e,Oi,f,b,h]
#print a
section
variable{a b c:Ð}
nonrec def kX(p:Ð):Å:=if p then 1 else 0
def oE{x y:Å}{p:Ð}:WY đg=À (Â,.tup [.int (Ηc (x+y+kX p)),.bl (decide (4294967296<=x+y+kX p))]):=by
 let a:decide ((0:Å)<4294967296)=Æ:=by decide
 rw[z1z];unfold Dh;cases p<;>simp only[Ü,ŋa,kX,a,Ĵa,Ÿ,Ŗ]
theorem x0a{x y:Å}{p:Ð}(x0:0<=x)(x1:x<4294967296)(h:0<=y)(f:y<4294967296):Wo đg=À (Â,.tup [.int (Ηc (x-y-kX p)),.bl (decide (x-y-kX p<0))]):=by
 let b:∀(q:Å),(q=0\/q=1)->(∀τ:yK,vC (tE Đ) ŀ ĩ [À (Â,.int x),À (Â,.int y),À (Â,.bl p),Ä]=À (.int q))->Wo đg=À (Â,.tup [.int (Ηc ĭi),.bl (decide ϥh)]):=λq g d=>by
  let a:=d [];rw[z35];unfold FX;generalize vC (tE Đ) ŀ ĩ=EE at a;by_cases z:x-y-q<0;let c:decide ϥh=Æ:=ĉ z;let e:ĭi%4294967296=x-y-q+4294967296:=by omega
  rw[e,c];simp only[Ü,a,c,ŋa];let c:decide ϥh=Â:=į z;let e:ĭi%4294967296=x-y-q:=by omega
  rw[e,c];simp only[Ü,a,c]
 cases p with
 |Â=>show b 0 ą λ_=>rfl|Æ=>show b 1 Ŀa λ_=>rfl
#print a
def rH:FS:=
 (zN ąn
  (zg (vC (tE (e2 Ďb Žg Đ)) Č (e2 qU Č Đ))))
def IF:Á D->É ê:=FR 2 3 rH
def rJ:FS:=
 (zN ąn
  (zN (yN (δa (e2 Ďb Žg (e1 Zx Đ)) (e2 Ϫe Žg Đ))
   Ţa
   yQ)
  (zg (vC (tE (e2 Ϫe Č ĩ)) Č (e2 yf Č Đ)))))
def IG:Á D->É ê:=FR 2 3 rJ
def x7q:FE:=(e2 vw þ (eC Ŗc))
def r8:FS:=
 (zN (yN (Ψ (j5 .str Č))
   ſb
   yQ)
  (zN (yN (δa (e2 Ďb şa ŀ) (e2 ŷe şa ϯe))
   ſb
   yQ)
  (zg (Δc (xK 1 Ϭb åa yl x7q)))))
def Bk:Á D->É ê:=FR 1 1 r8
def md:FE:=Đ
def Pk:FT:=(tE (e2 xE Đ äi))
def Fg:FS:=
 (zN (zj 1 (e1 (CM "\t" " ") (e1 (CP 0) (e2 CL Č (eC ľn)))))
  (uV (xK 1 (wT (e2 XC þ (eC Ŀn))) Šb Pk md)))
def Wr:Á D->É ê:=FR 1 2 Fg
def z3e(x0:D):Wr ö=yI 2 Fg ö:=rfl
def Pa:FE:=(e2 vw þ (eC çc))
def FI:FS:=
 (zN (yN (uw (ν äi) (tE (e2 ŷe şa (eC Ϫa))))
   ϩa
   yQ)
  (zN (yN (Ψ (Δc (xK 1 Ϭb åa yl Pa)))
   ϩa
   yQ)
  (zN (yN (εa (e2 To Č (eC Õf)) (e2 xE Č (eC Õf)))
   ϩa
   yQ)
  (zg (eL CH ĳa)))))
def Wk:Á D->É ê:=FR 1 1 FI
def z2w(x0:D):Wk ö=yI 1 FI ö:=rfl
def rG:FS:=
 (zN (yN ϕl
   (ψ (νa (Α Ĕl)))
   yQ)
  (zg ŧk))
def u7:Á D->É ê:=FR 2 2 rG
def x7p:FE:=þ
def x7v:FT:=(tE (e2 xE þ (eC òc)))
def oz:FS:=
 (uV (xK 1 (wT (Κ (xY tu kJ))) åa x7v x7p))
def qo:Á D->É ê:=FR 1 1 oz
def x7r:FE:=Đ
def x7w:FT:=(εb Đn)
def x7s:FE:=Đ
def x7x:FT:=(εb đn)
def x7t:FE:=Đ
def x7y:FT:=(εb Ēn)
def rC:FS:=
 (zN (tQ 1 (xK 1 (iG jo) Šb x7w x7r))
  (zN (Qx 1 (xK 1 (iG XH) Šb x7x x7s))
  (zN (Qx 1 (xK 1 (iG XG) Šb x7y x7t))
  (zN (kz 1) (zg (vC (Φa Ŗb) Ϟ ób))))))
def Wh:Á D->É ê:=FR 1 2 rC
def rA:FS:=
 (εd (.lst Y1))
def Zd:Á D->É ê:=FR 1 1 rA
def o_:FS:=
 (εd (.lst Y0))
def Wf:Á D->É ê:=FR 1 1 o_
def PU:FE:=ĳb
def Dm:FS:=
 (zg (e2 CJ (xK 1 (VJ 0) åa yl PU) ĩ))
def Ui:Á D->É ê:=FR 1 1 Dm
def z24(x0:D):Ui ö=yI 1 Dm ö:=rfl
def De:FS:=
 (zg (Κ (xL [á] şb)))
def WU:Á D->É ê:=FR 1 1 De
def z1w(x0:D):WU ö=yI 1 De ö:=rfl
def r9:FS:=
 (zg (Th žg (Zs (e2 Ϡe (e1 Zx Ýf) Č) (e2 Ϡe Č (eC Ěc)))))
def IE:Á D->É ê:=FR 1 1 r9
def HI:FA:=íg
def E_:FS:=(zN (qb 2 j6 (e2 vx Č Śl))
    (zj 0 (e2 Zv Č Śl)))
def F5:FS:=
 (zN (tQ 2 Ŗb)
  (zN (vY HI Ôe
   E_)
  (jI 2)))
def Yp:Á D->É ê:=FR 2 4 F5
def z2n(x0 x1:D):Yp Ĩ=yI 4 F5 Ĩ:=rfl
def Ig:FS:=
 (zN (yN (Φa (eC òc))
   (zg (za Bk ĺa))
   yQ)
  (zN (yN (Φa æi)
   (zg (e2 bm Đ Âe))
   yQ)
  (zN (zj 3 (vC ϕl Ĕl (e2 zL ŧk ŀ)))
  (zg (za pT łm)))))
def jf:Á D->É ê:=FR 3 4 Ig
def cO(x0 x1 x2:D):jf Àa=yI 4 Ig Àa:=rfl
def Ie:FS:=
 (zN (yN (ν (eC ęa))
   (zg (za Wk Éa))
   yQ)
  (zN (yN (uw (ν (eC Ŗa)) (ν (eC Êb)))
   (zg (vC (tE (e2 To þ (eC Ľn))) (za Wk (Α (jl þ (tL ŀ) tK))) Ϟ))
   yQ)
  (zg þ)))
def pS:Á D->É ê:=FR 2 2 Ie
def cN(x0 x1:D):pS Ĩ=yI 2 Ie Ĩ:=rfl
def G8:FS:=(yN (εa ŝl Ĝh)
     (YH 1 úc ģf)
     yQ)
def G9:FS:=(zN (yN (tE (e2 jm Œ Ϟ))
     Ϟd
     yQ)
    (zN (yN (εa (za Wg ňb) (e2 V7 (e2 zL Œ Ğh) þ))
     Ϟd
     yQ)
    (yN (tE Ĝh)
     (zN (yN (tE (e2 vw úc (X8 4)))
       Ϟd
       yQ)
      (YH 4 úc ģf))
     yQ)))
def F9:FS:=
 (zN Ŭe
  (zN (vY Ϭb Öi
   G8)
  (zN (kz 1) (zN (tQ 4 (eC îc))
  (zN (vY Ϭb Öi
   G9)
  (zN (kz 4) ϩa))))))
def Ut:Á D->É ê:=FR 1 5 F9
def z2r(x0:D):Ut ö=yI 5 F9 ö:=rfl
def FH:FS:=
 (zg (za vH (Θ (zA ób (Α ĳb)))))
def Zf:Á D->É ê:=FR 2 2 FH
def z2v(x0 x1:D):Zf Ĩ=yI 2 FH Ĩ:=rfl
def Fb:FS:=
 (zg (za Yu (Θ (zA ób (zA ĳb ĺa)))))
def jg:Á D->É ê:=FR 3 3 Fb
def z39(x0 x1 x2:D):jg Àa=yI 3 Fb Àa:=rfl
def ox:FS:=
 (zN (yN (tE (e2 Ϫe Ęg şa))
   ϩa
   yQ)
  (ψ (zA Đ (zA (e2 yf þ íb) (Ρd (zA (e2 zL Č Ęg) Ϻm))))))
def Bi:Á D->É ê:=FR 3 3 ox
def PY:FE:=(za jf (Υ ϥk))
def Ih:FS:=
 (zN (yN (Θb Ŗl (e2 zh şa ĩ))
   ſb
   yQ)
  (zN ćn
  (zN (yN (Θb (j5 .str þ) Ğl)
   ſb
   yQ)
  (zN ϙj
  (zN (yN Ăj
   ſb
   yQ)
  (zg (eL kD (ζ (xK 2 Ŭj ϫb yl PY)))))))))
def Zb:Á D->É ê:=FR 1 3 Ih
def cP(x0:D):Zb ö=yI 3 Ih ö:=rfl
def Pc:FE:=(za pS ϥk)
def Il:FS:=
 (zN ćn
  (zN (yN (uw (Φa åi) (tE Ğl))
   ϩa
   yQ)
  (zN ϙj
  (zN (yN Ăj
   ϩa
   yQ)
  (Ζc (ζ (e2 yf (v3 Éa) (xK 2 Ŭj ϫb yl Pc))))))))
def Wm:Á D->É ê:=FR 1 3 Il
def cS(x0:D):Wm ö=yI 3 Il ö:=rfl
def Ol:FS:=(zN (zj 5 (vC (tE (e2 zh Œ æi)) (e1 (bo Q0) ů) ů))
    (zj 2 (za jg (Τ (zA (za u7 (zA Űb ňb)) Ϡh)))))
def Wy:FS:=
 (zN (zj 2 (za jg (νa (zA Ãk Éa))))
  (zN (vY (um (vh qo Ϥn) (Zt Č (tL ŀ) tK)) ϫb
   Ol)
  Ϟd))
def qp:Á D->É ê:=FR 2 6 Wy
def ON(x0 x1:D):qp Ĩ=yI 6 Wy Ĩ:=rfl
def Dq:FS:=
 (zg (za Zf (Θ (Α Ãk))))
def ZZ:Á D->É ê:=FR 1 1 Dq
def z28(x0:D):ZZ ö=yI 1 Dq ö:=rfl
def Dy:FS:=
 (zN (zj 3 (za Zf (Θ (ζ (za u7 Ńm)))))
  (zN (yN (tE (e2 xE Đ æi))
   Ôi
   yQ)
  (zg (vC (tE (e2 Ďb Œ (eL xq (Α Âe)))) (e2 zL Âe Œ) Ϟ))))
def qq:Á D->É ê:=FR 3 4 Dy
def z2g(x0 x1 x2:D):qq Àa=yI 4 Dy Àa:=rfl
def mS:FE:=(wp (zA Ŵi Ğg))
def HG:FA:=(p9 ĩ (eL xq (Α (za Zg Àn))))
def Ex:FS:=(zN ćm
    (zj 5 (e2 ŭe äa (vC (tE (e2 vw Œ Đ)) íb ŀ))))
def Dk:FS:=
 (zN (zj 2 (Εc (xK 1 Úi (yF 6) yl mS)))
  (zN (tQ 4 Ŗb)
  (zN (zj 5 ĩ)
  (zN (vY HG Ôe
   Ex)
  (zN ćm
  (jI 4))))))
def Uh:Á D->É ê:=FR 2 6 Dk
def z22(x0 x1:D):Uh Ĩ=yI 6 Dk Ĩ:=rfl
def HJ:FA:=(p9 ĩ Đ)
def G7:FS:=(zN (zj 5 (za gz (zA Č (Α (e2 yf þ ů)))))
    (zj 3 (e2 yf (e2 Zw Œ Ùd) (e2 zL (v3 (zA (e2 vx (e2 Zw äa íb) Ùd) (zA (e2 vx äa (eC Ňa)) (zA (eC (.int 4294967295)) (νa (Α (e2 vx (e2 Zv äa øb) (eC (.int 65536))))))))) (e2 vx äa (eC Ϫa))))))
def F6:FS:=
 (zN (zj 3 ĩ)
  (zN (vY HJ (yF 4)
   G7)
  Ôi))
def Ze:Á D->É ê:=FR 3 6 F6
def z2o(x0 x1 x2:D):Ze Àa=yI 6 F6 Àa:=rfl
def Ii:FS:=
 (zN (zj 1 (za Wm ĳa))
  (zN (yN (εa (e2 zh şa ŀ) (e2 bi Űb (eC (.str ":"))))
   (zj 1 (wp (zA åi (Α (jl Űb tK (tL Ğh))))))
   yQ)
  (zg (vC (tE (za Zb Éa)) þ Ϟ))))
def gx:Á D->É ê:=FR 1 2 Ii
def cQ(x0:D):gx ö=yI 2 Ii ö:=rfl
def U0:FE:=(za qq (Θ (Τ Ϡh)))
def FQ:FS:=
 (zN (zj 1 (za ZZ ĳa))
  (zN (zj 2 (za Wh Éa))
  (zN (yN Ĺk
   ϩa
   yQ)
  (zN (zj 3 (eL gQ (ζ (e2 yf (v3 ĺa) (xK 1 (wT (vh qo ĺa)) àb yl U0)))))
  (zN (yN (tE (e2 vw Ϟ Œ))
   ϩa
   yQ)
  (zN (zj 4 (vC (tE (za Zd Éa)) (za jg (Θ (zA Èg Án))) Č))
  (zg (vC (tE (e2 zh (za qp (zA Œ Éa)) ů)) Œ Ϟ))))))))
def Ys:Á D->É ê:=FR 1 5 FQ
def z31(x0:D):Ys ö=yI 5 FQ ö:=rfl
def PX:FE:=(vC (tE (e2 jm ů Ϟ)) Ϟ (e2 qU ėg (e2 zL Đ Œ)))
def Dr:FS:=
 (zN (zj 2 (vh Uh Żc))
  (uV (xK 2 (gU ϯm) ϫb yl PX)))
def We:Á D->É ê:=FR 2 3 Dr
def z29(x0 x1:D):We Ĩ=yI 3 Dr Ĩ:=rfl
def Ff:FS:=
 (zg (Βc Đn))
def Wq:Á D->É ê:=FR 1 1 Ff
def z3d(x0:D):Wq ö=yI 1 Ff ö:=rfl
def rF:FS:=
 (zN (zj 2 Èg)
  (zg (za jg (zA (Βc đn) (Τ (ζ (za IG (Υ (zA żg zF)))))))))
def Bp:Á D->É ê:=FR 2 3 rF
def oy:FS:=
 (uV (v3 (zA (Βc Ēn) (Α (za IG (Υ Ϻm))))))
def Bj:Á D->É ê:=FR 2 2 oy
def Oo:FS:=(zN (zj 4 (za Wr ňb))
    (yN (tE (e2 xE ů Ŗb))
     (qb 1 j6 (wp (Τ (Α (za gx ϻm)))))
     yQ))
def FZ:FS:=
 (zN (tQ 1 Ŗb)
  (zN (vY (gU Şl) Öi
   Oo)
  Üe))
def Ux:Á D->É ê:=FR 1 5 FZ
def z37(x0:D):Ux ö=yI 5 FZ ö:=rfl
def Im:FS:=
 (zN (yN (δa (e2 Ďb þ ĩ) (e2 Ϫe þ şa))
   ϩa
   yQ)
  (zN (zj 2 (za Ys ϟh))
  (zN (yN Ĺk
   ϩa
   yQ)
  (zN (zj 3 (za ZZ ϟh))
  (zN (yN (tE (za Wf ňb))
   (zg (za Bi (Θ Ńm)))
   yQ)
  (zN (yN (tE (za Zd ňb))
   (zN (zj 4 Èg)
    (Ψd (Ρd (zA (za Zf (zA ĝe ϻm)) (zA (e2 zL ů ŀ) zF)))))
   yQ)
  (Ψd (Α Ϟ))))))))
def gH:Á D->É ê:=FR 2 5 Im
def cT(x0 x1:D):gH Ĩ=yI 5 Im Ĩ:=rfl
def mT:FE:=(wp (zA äa Ğg))
def HK:FA:=(p9 ĩ (eL xq ĺa))
def mU:FE:=äa
def Pg:FT:=(tE (e2 V7 äa Œ))
def mV:FE:=äa
def Ph:FT:=(Ψ (za IE (ζ (e2 zL Đ äa))))
def FD:FS:=
 (zN ϝk
  (zN (zj 3 (Εc (xK 1 Úi àb yl mT)))
  (zN (zj 4 (xK 1 HK àb Pg mU))
  (uV (xK 1 (wT ů) àb Ph mV)))))
def Wj:Á D->É ê:=FR 2 5 FD
def z2u(x0 x1:D):Wj Ĩ=yI 5 FD Ĩ:=rfl
def mW:FE:=ů
def FP:FS:=
 (zN (zj 1 (za Ux ĳa))
  (zN (zj 2 (za Ut Éa))
  (zN (yN (tE (e2 kF Đ Ϟ))
   Ţa
   yQ)
  (uV (xK 2 Úi ϫb yl mW)))))
def Uw:Á D->É ê:=FR 1 3 FP
def z30(x0:D):Uw ö=yI 3 FP ö:=rfl
def GA:FS:=(zN (YH 1 Đ Œ)
    (zN (zj 2 úc)
    ϊj))
def Ix:FT:=(tE ŝl)
def Fa:FS:=
 (zN Ŭe
  (zN Ćn
  (zN ϊj
  (zN (Qy Ix
   GA)
  Üe))))
def Wp:Á D->É ê:=FR 1 4 Fa
def z38(x0:D):Wp ö=yI 4 Fa ö:=rfl
def dE:FS:=(zN (zj 1 (eL bn (ζ (e2 yf þ Đ))))
    Ϝk)
def Fq:FT:=(tE (e2 xE Đ Ŗb))
def Dw:FS:=
 (zN (zj 1 Ŗb)
  (zN Ϝk
  (zN (Qy Fq
   dE)
  (zg þ))))
def Uo:Á D->É ê:=FR 1 3 Dw
def z2e(x0:D):Uo ö=yI 3 Dw ö:=rfl
def GB:FS:=(zN (zj 5 (e2 zL ů íb))
    (yN (Z4 (tE (e2 kF äa Ϟ)) (εa (e2 xE äa Đ) (e2 V7 äa þ)))
     Ôi
     yQ))
def Fd:FS:=
 (zN (zj 1 ϰm)
  (zN (zj 2 (za Ui Éa))
  (zN (yN (tE (e2 xE Đ şa))
   Ϟd
   yQ)
  (zN (vY (VI 1) ϫb
   GB)
  ϩa))))
def Uz:Á D->É ê:=FR 1 6 Fd
def z3b(x0:D):Uz ö=yI 6 Fd ö:=rfl
def GC:FS:=(yN (tE (e2 jm ėg Ϟ))
     (qb 3 j6 (za Wq Ϡh))
     (yN (tE (e2 vw ů þ))
       (Qx 3 (vh Bj Ķk))
       (qb 3 j6 (za Bp Ķk))))
def Fh:FS:=
 (zN (zj 1 (za Uo ĳa))
  (zN ϝk
  (zN (tQ 3 Ŗb)
  (zN (vY (gU ěh) (xh 4 5)
   GC)
  (jI 3)))))
def T4:Á D->É ê:=FR 1 6 Fh
def z3f(x0:D):T4 ö=yI 6 Fh ö:=rfl
def FW:FS:=
 (zN (zj 1 (za Uz ĳa))
  (zN (yN (tE (e2 kF þ Ϟ))
   Ţa
   yQ)
  (zg ϰm)))
def Zh:Á D->É ê:=FR 1 2 FW
def z34(x0:D):Zh ö=yI 2 FW ö:=rfl
def Dl:FS:=
 (uV (vh T4 (Α (za Uw Àn))))
def Wa:Á D->É ê:=FR 1 1 Dl
def z23(x0:D):Wa ö=yI 1 Dl ö:=rfl
def Dg:yX:=
 (wD (gY 4 (vB (za Zh Éa)))
  (qV (p_ WQ (qw 0 [] (ug ů (ug (eL xq Éa) (ug Đ Ån)))))))
def WX:FM:=vG 4 5 Dg
def z1y(x0 x1 x2 x3:M):WX ϛc=vK 4 5 Dg ϛc:=rfl
def FB:yX:=
 (wD (gY 4 (Tc á WX (ug (vh Wa ĳa) (ug þ Æn))))
  (wD (qV (kA á ãe 4 [] ZW Ån))
  (VW (Fo (Fp Â (X7 (qR (za gD (qx á ĝc ů zF))) (X7 (qR (za WU (qx á Ϩd ů zF))) (X7 (Iv (Iw (vh WT (qx á Ķa ů zF)))) (X7 (qR (za WR (qx á Ϫd ů zF))) (X7 (Iv (Iw (vh WS (qx á Şa ů zF)))) F_))))))))))
def Yq:FM:=vG 4 5 FB
def z2s(x0 x1 x2 x3:M):Yq ϛc=vK 4 5 FB ϛc:=rfl
def LU:FA:=ŏm
def QT:FS:=(zN (Υb (.str űc) (Α ĸg))
    (zN (Υb (.str Ĺd) (Α (e2 yf Ūc ĸg)))
    (zN (qb 7 j6 (e2 yf (e2 yf äa (e2 zL (v3 (zA (eC (.str "c")) (Α äi))) (eL OA (Α (e2 zh (z0 8) ĩ))))) (eC Ĺn)))
    (Υb (.str åc) (Α (e2 yf ϭl ĸg))))))
def HH:FA:=íg
def PZ:FE:=(wp (ψc Ŵi (z0 11) (z0 12)))
def Pf:FT:=(δa (Χd (z0 12)) (e2 zh (e2 vx (e2 Zv ů øb) íb) ŀ))
def Om:FS:=(zN (zj 12 (vh Yp (zA (z0 10) Éa)))
    (zj 9 (e2 yf (z0 9) (xK 1 HH īi Pf PZ))))
def MQ:FE:=(wp (zA Àf (Α (z0 19))))
def MV:FT:=(tE (e2 ŷe (z0 19) ĩ))
def LV:FA:=íg
def MR:FE:=(wp (ψc Ŵi ϭl (z0 15)))
def MX:FT:=(tE (Χd (z0 15)))
def LW:FA:=ŏm
def QU:FS:=(zj 16 (e2 Zw (z0 16) Ùd))
def Ij:FS:=
 (zN ϫi
  (zN ľj
  (zN éj
  (zN ϻj
  (zN Ϟi
  (zN Új
  (zN ϩi
  (zN (vY LU ñd
   QT)
  (zN (kz 7) (zN Ąn
  (zN (vY ϥi ďn
   Om)
  (zN Ük
  (zN (yN ĸj
   Ýk
   yQ)
  (zN ðj
  (zN Ϩi
  (zN ϱi
  (zN Ϯm
  (zN (vY LW ñd
   QU)
  (zN (zj 17 (za (Ts Yq) (zA (e2 yf (e2 OB Üf ųi) Üf) (zA Ϟ (zA (z0 9) (Α (eL xq (ζ ųi))))))))
  (zN (yN (uw (tE (e2 OC (e2 zL Īi ĩ) ģf)) (δa (e2 xE (e2 zL Īi ŀ) (eL xq (Α ųi))) (e2 xE (e2 zL Īi øb) (z0 14))))
   ſb
   yQ)
  (zg (Zs (j5 .bool Ħj) (e2 zh Ħj (Tg (Tf Ϡe Ďb ĩ (z0 13) (z0 16))))))))))))))))))))))))))
def mQ{x l d n:Å}(h:Ïg/\0<=n/\n<2 ^ ĳc):jg ϸj=À (Â,.int ϩf):=by let b:zL įn Ń=À (.int l):=rfl;let a:zL įn ča=À (.int d):=rfl;rw[z39];unfold Fb;simp only[Ü,b,a,x7n h]
theorem LN{c:Å}(a:0<=c)(b:c<32):jg [.int 0,.tup Ēl,.int c]=À (Â,.int ċm):=by rw[mQ (x:=0) (l:=27) (d:=5) (n:=c) {by decide,a,b}];simp
def Xg{x l d n m:Å}(a:0<=l/\l<64)(b:0<=d/\d<64)(x0:0<=x)(c:0<=n)(f:n<2 ^ ĳc)(g:x/2 ^ l.toNat%2 ^ ĳc=0)(e:m=2 ^ l.toNat):jg ϸj=À (Â,.int (x+n*m)):=by rw[mQ {{x0,a.1,a.2,b.1,b.2},c,f},g,e,ĭm]
theorem z17{c:Å}(b:0<=c)(g:c<32){w:È}(e:qo ϧb=À (Æ,.lst [])):qp [.tup ϧb,.int c]=À (Â,.int ċm):=by
 rw[Ľo]
 let d:=LN b g;let f:XB (.tup ϧb) ùa Ä=À áo:=by rfl
 rw[Ϫo];simp only[Ü,a,d,XS,e,um,Zt,tL,tK,f,jJ,űb]
theorem z18{w:È}{c W d n:Å}(s:qo ϧb=À (Æ,.lst řk))(e:u7 ŉg=À (Â,.tup èc))(q:u7 Ôl=À (Â,.tup łl))(g:0<=c)(h:c<32)(r:0<=W)(z:W<=16)(b:0<=d)(d1:d<8)(j:0<=n)(t:n<2 ^ ãd)(u:(2:Å) ^ ãd ∣ 16777216) :qp [.tup ϴi,.int c]=À (Â,.int (c*134217728+d*16777216+n)):=by
 rw[Ľo]
 let p:=LN g h;let o:=Xg (x:=c*134217728) (l:=24) (d:=3) (n:=d) (m:=16777216) Í Í Ê b d1 ϯf Í
 have i:=Xg (x:=c*134217728+d*16777216) (l:=0) (d:=W) (n:=n) (m:=1) Í {r,by omega} Ê j t (by exact(c*134217728+d*16777216)/1%2 ^ ãd=0;rw[Ϣc];let{k,a}:=u;rw[show c*134217728+d*16777216=2 ^ ãd*(k*(8*c+d)) by rw[<-že,<-a];omega];show ϑk _ _) Í
 let v:zh Ŗa Řa=À ò:=by rfl
 let f:zh ęa Řa=À ò:=by rfl
 let y:XB Ŗh ùa Ä=À (.tup [.int d,.int n]):=by rfl
 rw[Ϫo];simp only[Ü,a,p,XS,s,um,Zt,tL,tK,y,jJ,ůb,űb,Ol,v,f,e,o,q,i,Ϯe]
theorem z19{w:È}{c d s:Å}(j:qo ϧb=À (Æ,.lst Řk))(g:u7 ŉg=À (Â,.tup èc))(i:u7 Ól=À (Â,.tup Ěd))(o:0<=c)(t:c<32)(f:0<=d)(d1:d<8)(p:0<=s)(u:s<8) :qp [.tup Āj,.int c]=À (Â,.int Ĺj):=by
 let k:xY uk ul ϩc=À čd:=by rfl
 let e:=LN o t;let b:=Xg (x:=c*134217728) (l:=24) (d:=3) (n:=d) (m:=16777216) Í Í Ê f d1 ϯf Í;let a:=Xg (x:=c*134217728+d*16777216) (l:=21) (d:=3) (n:=s) (m:=2097152) Í Í Ê p u Íj Í;let q:zh Ŗa Řa=À ò:=by rfl
 let h:zh Êb Řa=À ò:=by rfl
 let r:XB İn ùa Ä=À (.tup [.int d,.int s]):=by rfl
 rw[Ϫo];simp only[Ü,k,e,XS,j,um,Zt,tL,tK,r,jJ,ůb,űb,Ol,q,h,g,b,i,a]
theorem z1a{w:È}{c d s n:Å}(t:qo ϧb=À (Æ,.lst űj))(b:u7 ŉg=À (Â,.tup èc))(f:u7 Ól=À (Â,.tup Ěd))(r:u7 Ôl=À (Â,.tup Ńl))(g:0<=c)(h:c<32)(a:0<=d)(d1:d<8)(v:0<=s)(j:s<8)(o:0<=n)(y:n<256) :qp [.tup Åj,.int c]=À (Â,.int (c*134217728+d*16777216+s*2097152+n)):=by
 let u:xY uk ul ϩc=À čd:=by rfl
 let q:=LN g h;let p:=Xg (x:=c*134217728) (l:=24) (d:=3) (n:=d) (m:=16777216) Í Í Ê a d1 ϯf Í;let k:=Xg (x:=c*134217728+d*16777216) (l:=21) (d:=3) (n:=s) (m:=2097152) Í Í Ê v j Íj Í;let B:=Xg (x:=c*134217728+d*16777216+s*2097152) (l:=0) (d:=8) (n:=n) (m:=1) Í Í Ê o y (by exact Ĺj/1%256=0;omega) Í;let z:zh Ŗa Řa=À ò:=by rfl
 let e:zh Êb Řa=À ò:=by rfl
 let i:zh ęa Řa=À ò:=by rfl
 let A:XB Ĳn ùa Ä=À (.tup [.int d,.int s,.int n]):=by rfl
 rw[Ϫo];simp only[Ü,u,q,XS,t,um,Zt,tL,tK,A,jJ,ůb,űb,Ol,z,e,i,b,p,f,k,r,B,Ϯe]
theorem d_{x l W:Å}(b:0<=l)(c:0<=W)(a:W<64):Zf [.int x,.tup Ėg]=À (Â,.int Üg):=by
 let e:zL Įn Ń=À (.int l):=rfl;let d:zL Įn ča=À (.int W):=rfl;let e1:=LJ (i:=1) (j:=W) c a Í Í
 let p:vH [.int x,.int l,.int W]=À (Â,.int Üg):=by rw[cR];unfold Ik;simp only[Ü,e1,ĉ b,eI]
 rw[z2v];unfold FH;simp only[Ü,e,d,p]
theorem bC{x:Å}(b:0<=x)(c:x<4294967296):ZZ Ħc=À (Â,.int (x/134217728)):=by
 rw[Ľo]
 let n:Zf [.int x,.tup Ēl]=À (Â,.int (x/134217728%32)):=d_ Í Í Í;rw[show x/134217728%32=x/134217728 by omega]at n;rw[z28];unfold Dq;simp only[Ü,a,n]
nonrec def VO:Á D:=[.str ëd,.str őa,.str Ħb,.str ϸb,.str Űa,.str Ūa,.str ŏa,.str Ŭa,.str ţb,.str ťb,.str Ãc,.str ŝb,.str ϯa,.str Ģb,.str ĥb,.str ġb,.str Ôa,.str õa,.str Ûb,.str Úb,.str Ìb,.str Ûb,.str Úb,.str Ìb]
theorem z4m:(Ϫb).map (λc:Ã=>Wh Ϝg)=(Ϫb).map λc=>À (Â,äd c .zG):=by kernel_rfl
def z6t:(Ϫb).map (λc:Ã=>Zd Ϝg)=(Ϫb).map λc=>À (Â,.bl (decide (18<=c)&&decide (c<=20))):=by kernel_rfl
def z12:(Ϫb).map (λc:Ã=>Wf Ϝg)=(Ϫb).map λc=>À (Â,.bl (decide (21<=c)&&decide (c<=23))):=by kernel_rfl
def GP{f g:Ã->É ê}(h:(Ϫb).map f=(Ϫb).map g){n:Ã}(a:n<32):f n=g n:=by let e:=ŕ (λl=>l[n]?) h;simp only[ſ,ĥg a,ĸl]at e;show ća e
def z4l{n:Ã}(h:n<32):Wh ϛg=À (Â,äd n .zG):=GP z4m h
def df{n:Ã}(h:n<32):Zd ϛg=À (Â,.bl (decide (18<=n)&&decide (n<=20))):=GP z6t h
def z11{n:Ã}(h:n<32):Wf ϛg=À (Â,.bl (decide (21<=n)&&decide (n<=23))):=GP z12 h
def XO{x l W:Å}{k f:È}(d:u7 [.str k,.str f]=À (Â,.tup Ėg))(c:xE (.str f) Řa=À ŉ)(b:0<=l)(e:0<=W)(a:W<64):qq [.int x,.str k,.str f]=À (Â,.int Üg):=by let n:=d_ (x:=x) b e a;rw[z2g];unfold Dy;simp only[Ü,d,n,c]
theorem y5n{x c Z a:Å}{b:Ð}{k:È}{fs R:Á D}(n:ZZ Ħc=À (Â,.int c))(hk:Wh Ěf=À (Â,.str k))(p:qo Ñd=À (Æ,.lst fs))(o:yc àb yl U0 [À (Â,.int x),À (Â,.int c),À (Â,.str k),Ä,Ä,Ä] fs=À R)(m:vw .zG Ïf=À ò)(r:Ĥc<=3)(d:Zd Ěf=À (Â,.bl b))(j:b=Æ->jg [.int x,.tup ńl,.int 0]=À (Â,.int a))(q:b=Â->a=x)(i:qp [.tup ύc,.int c]=À (Â,.int Z)) :Ys Ħc=À (Â,if Z=a then .tup ύc else .zG):=by
 let l:yf (.lst Ñd) (.lst R)=À (Ε ύc):=by rw[TU (by rw[Ĕo])];rfl
 let g:gQ [.lst ύc]=À Ïf:=rfl;let h:xY uk ul (.str Ľb)=À (.tup ńl):=by rfl
 let f:zh (.int Z) Ĭf=À (Ιa (Z=a)):=by by_cases e:Z=a;rw[Oc e,ĉ e];rw[cf e,į e]
 rw[z31];unfold FQ;cases b with
 |Æ=>have j:=j rfl;by_cases e:Z=a;rw[Ò e];rw[ĉ e]at f;simp only[Ü,n,hk,p,o,l,g,m,d,h,j,i,f];rw[Ó e];rw[į e]at f;simp only[Ü,n,hk,p,o,l,g,m,d,h,j,i,f]|Â=>obtain rfl:x=a:=(q rfl).symm;by_cases e:Z=x;rw[Ò e];rw[ĉ e]at f;simp only[Ü,n,hk,p,o,l,g,m,d,h,i,f];rw[Ó e];rw[į e]at f;simp only[Ü,n,hk,p,o,l,g,m,d,h,i,f]
theorem x3b{ws:Á D}{a:Å}(h:a<0\/(Ñb:Å)<=a):gH đl=À (Â,.zG):=by
 rw[cT];unfold Im;by_cases c:a<0;simp only[Ü,ĉ c];let d:(Ñb:Å)<=a:=by omega
 simp only[Ü,į c,ĉ d]
structure At(ws:Á D)(a x:Å):Ç where
 a0:0<=a
 a1:a<(Ñb:Å)
 ix:zL Äd Ĭf=À Ŋb
 x0:0<=x
 x1:x<4294967296
section
variable{ws:Á D}{a x:Å}(A:At ws a x)
include A
theorem At.cond{α:Type}:decide (a<0)=Â/\decide ((Ñb:Å)<=a)=Â/\decide (0<=a)=Æ/\decide (a<(Ñb:Å))=Æ:=by let{b,c,_,_,_}:=A;show{į Ê,į Ê,ĉ b,ĉ c}
theorem x3c{c:Å}{R:Á D}(f:ZZ Ħc=À (Â,.int c))(g:Wf Ěf=À (Â,.bl Â))(d:Zd Ěf=À (Â,.bl Â))(b:Ys Ħc=À (Â,.tup R)) :gH đl=À (Â,.tup [.tup R,.int (a+1),.zG]):=by let{h,e,_,_}:=A.cond (α:=Ã);let i:=A.ix;rw[cT];unfold Im;simp only[Ü,h,e,i,b,f,g,d,ŋa]
#print a
def z57{g:FG}{c:FT}{e:FE}{σ σ1:yK}{d x:D}{r xs:Á D}(h:g d σ=À σ1)(b:c σ1=À Æ)(a:e σ1=À x)(f:yc g c e σ r=À xs):yc g c e σ (d::r)=À Ĭi:=by rw[yc,h,Ãb,b,Ãb];exact(œf).bind _=_;rw[a,f];rfl
def XT{x:Å}{N r:D}{k:È}{f:D}{fs R:Á D}(h:qq [.int x,.str k,f]=À (Â,r))(a:yc àb yl U0 ϵi fs=À R):yc àb yl U0 ϵi (f::fs)=À (r::R):=
 z57 (σ1:=[À (Â,.int x),À (Â,N),À (Â,.str k),Ä,Ä,À (Â,f)]) rfl rfl (by simp only[Ü,U0,h]) a
def Te{q d B r b:Å}(h:0<B)(e:0<=d)(d1:d<b)(a:0<=r)(c:r<B):(q*(b*B)+d*B+r)/B%b=d:=by rw[<-že,<-Int.add_mul,İm,Int.add_mul_ediv_right _ _ (ϝe h),Int.ediv_eq_zero_of_lt a c,Ĭm,İm,Int.add_mul_emod_self_right,Îl e d1]
structure Wv(r:D)(v:Å):Ç where
 v0:0<=v
 v1:v<4294967296
 c:∃n:Ã,n<=17/\v/134217728=(n:Å)
 w:Wq [r]=À (Â,.int v)
 r:Ys [.int v]=À (Â,r)
def MN{k:È}{n:Ã}{v:Å}{R fs:Á D}(e:0<=v)(v1:v<4294967296)(d:n<=17)(hv:v/134217728=(n:Å))(hk:äd n .zG=.str k)(i:xY jo jp Īc=À Āc)(j:qo Ñd=À (Æ,.lst fs))(l:yc àb yl U0 [À (Â,.int v),À (Â,.int (n:Å)),À (Â,.str k),Ä,Ä,Ä] fs=À R)(g:vw .zG Ïf=À ò)(m:Ĥc<=3)(f:qp [.tup ύc,.int (n:Å)]=À (Â,.int v)):Wv Ïf v:=by show{e,v1,{n,d,hv},?_,?_};rw[z3d];unfold Ff;simp only[Ü,XS,i,f];let b:=bC e v1;rw[hv]at b;let c:=z4l (n:=n) Ê;rw[hk]at c;rw[ľo];let:=y5n b c j l g m a (λh=>by cases h) Ăn f;rw[this,Ò rfl]
theorem MM{n:Ã}{k:È}{W P d m:Å}(f:n<=17)(hk:äd n .zG=.str k)(v:xY jo jp Īc=À Āc)(p:qo Ñd=À (Æ,.lst řk))(h:u7 Ŋg=À (Â,.tup èc))(r:u7 Öl=À (Â,.tup łl))(j:0<=W)(s:W<=16)(i:(2:Å) ^ ãd=P)(a:(2:Å) ^ ãd ∣ 16777216)(g:0<=d)(d1:d<8)(q:0<=m)(u:m<P)(t:P<=65536)(w:Ôc%P=m):Wv (.tup [.str k,.int d,.int m]) Ôc:=by
 let e:=z18 (c:=(n:Å)) (d:=d) (n:=m) p h r Ê Ê j s g d1 q (by rw[i];show u) a;let l:qq [.int Ôc,.str k,.str "d"]=À (Â,.int (Ôc/16777216%8)):=XO h ĝb Í Í Í;have o:qq [.int Ôc,.str k,.str "n"]=À (Â,.int (Ôc/1%P)):=by rw[<-i];show XO r ĝb Í j Ê
 rw[Ϣc,w]at o;rw[show Ôc/16777216%8=d from Te (B:=16777216) (b:=8) Í g d1 q Ê]at l;show MN Ê Ê f Ê hk v p (XT l (XT o rfl)) rfl ï e
def Z7{n:Ã}{k:È}{d s:Å}(t:n<=13)(hk:äd n .zG=.str k)(p:xY jo jp Īc=À Āc)(m:qo Ñd=À (Æ,.lst Řk))(g:u7 Ŋg=À (Â,.tup èc))(l:u7 Õl=À (Â,.tup Ěd))(f:0<=d)(d1:d<8)(j:0<=s)(o:s<8):Wv (.tup [.str k,.int d,.int s]) œc:=by let e:=z19 (c:=(n:Å)) (d:=d) (s:=s) m g l Ê Ê f d1 j o;let h:qq [.int œc,.str k,.str "d"]=À (Â,.int (œc/16777216%8)):=XO g ĝb Í Í Í;let i:qq [.int œc,.str k,.str "s"]=À (Â,.int (œc/2097152%8)):=XO l ĝb Í Í Í;rw[show œc/16777216%8=d from Te (B:=16777216) (b:=8) Í f d1 Ê Ê]at h;let a:=Te (q:=(n:Å)*8+d) (B:=2097152) (b:=8) (r:=0) Í j o Í Í;rw[show Ėm*Ôn+s*2097152+0=(n:Å)*134217728+d*16777216+s*2097152 by omega]at a;rw[a]at i;show MN Ê Ê Ê Ê hk p m (XT h (XT i rfl)) rfl ï e
def MK{n:Ã}{k:È}{d s m:Å}(f:n<=17)(hk:äd n .zG=.str k)(x:xY jo jp Īc=À Āc)(t:qo Ñd=À (Æ,.lst űj))(i:u7 Ŋg=À (Â,.tup èc))(w:u7 Õl=À (Â,.tup Ěd))(a:u7 Öl=À (Â,.tup Ńl))(h:0<=d)(d1:d<8)(v:0<=s)(l:s<8)(u:0<=m)(y:m<256):Wv (.tup [.str k,.int d,.int s,.int m]) Ūb:=by let g:=z1a (c:=(n:Å)) (d:=d) (s:=s) (n:=m) t i w a Ê Ê h d1 v l u y;let o:qq [.int Ūb,.str k,.str "d"]=À (Â,.int (Ūb/16777216%8)):=XO i ĝb Í Í Í;let p:qq [.int Ūb,.str k,.str "s"]=À (Â,.int (Ūb/2097152%8)):=XO w ĝb Í Í Í;let j:qq [.int Ūb,.str k,.str "n"]=À (Â,.int (Ūb/1%256)):=XO a ĝb Í Í Í;rw[àm,show((n:Å)*134217728+d*16777216+(s*2097152+m))/16777216%8=d from Te (B:=16777216) (b:=8) Í h d1 Ê Ê,<-àm]at o;let e:=Te (q:=(n:Å)*8+d) (B:=2097152) (b:=8) (r:=m) Í v l u Ê;rw[show Ėm*Ôn+s*2097152+m=(n:Å)*134217728+d*16777216+s*2097152+m by omega]at e;rw[e]at p;rw[show Ūb/1%256=m by omega]at j;show MN Ê Ê f Ê hk x t (XT o (XT p (XT j rfl))) rfl ï g
def y41{r:D}(h:qP r):∃v:Å,Wv r v:=by
 cases h with
 |ēa=>show{0,MN (n:=0) (fs:=[]) Í Í Í Í rfl rfl rfl rfl rfl ï (z17 (c:=0) Í Í rfl)}|BU hw d0 d1 n0 n1=>rcases hw with rfl|rfl;show{_,MM (n:=1) (W:=16) (P:=65536) Í rfl rfl rfl rfl rfl Í Í Í Í d0 d1 n0 n1 Í Ê};show{_,MM (n:=2) (W:=16) (P:=65536) Í rfl rfl rfl rfl rfl Í Í Í Í d0 d1 n0 n1 Í Ê}
 |two hw d0 d1 s0 s1=>rcases hw with rfl|rfl|rfl|rfl|rfl|rfl|rfl|rfl|rfl;show{_,Z7 (n:=3) Í rfl rfl rfl rfl rfl d0 d1 s0 s1};show{_,Z7 (n:=4) Í rfl rfl rfl rfl rfl d0 d1 s0 s1};show{_,Z7 (n:=5) Í rfl rfl rfl rfl rfl d0 d1 s0 s1};show{_,Z7 (n:=6) Í rfl rfl rfl rfl rfl d0 d1 s0 s1};show{_,Z7 (n:=7) Í rfl rfl rfl rfl rfl d0 d1 s0 s1};show{_,Z7 (n:=8) Í rfl rfl rfl rfl rfl d0 d1 s0 s1};show{_,Z7 (n:=9) Í rfl rfl rfl rfl rfl d0 d1 s0 s1};show{_,Z7 (n:=10) Í rfl rfl rfl rfl rfl d0 d1 s0 s1};show{_,Z7 (n:=11) Í rfl rfl rfl rfl rfl d0 d1 s0 s1}
 |Rz hw d0 d1 n0 n1=>rcases hw with rfl|rfl;show{_,MM (n:=12) (W:=5) (P:=32) Í rfl rfl rfl rfl rfl Í Í Í Í d0 d1 n0 n1 Í Ê};show{_,MM (n:=13) (W:=5) (P:=32) Í rfl rfl rfl rfl rfl Í Í Í Í d0 d1 n0 n1 Í Ê}
 |mem hw d0 d1 s0 s1 n0 n1=>rcases hw with rfl|rfl|rfl|rfl;show{_,MK (n:=14) Í rfl rfl rfl rfl rfl rfl d0 d1 s0 s1 n0 n1};show{_,MK (n:=15) Í rfl rfl rfl rfl rfl rfl d0 d1 s0 s1 n0 n1};show{_,MK (n:=16) Í rfl rfl rfl rfl rfl rfl d0 d1 s0 s1 n0 n1};show{_,MK (n:=17) Í rfl rfl rfl rfl rfl rfl d0 d1 s0 s1 n0 n1}
nonrec def tA(A:Ã->Å):É Ã->D
 |Ä=>.zG|À p=>.int (A p)
structure Tb(ws:Á D)(n:Ã)(A:Ã->Å)(b:Ã->D)(tg:Ã->É Ã):Ç where
 up:∀i,i<n->A i<A ù
 z:A 0=0
 e:A n=(Ñb:Å)
 told:∀i,i<n->gH ϓk=À (Â,.tup ŝj)
 fin:gH [.lst ws,.int Êc]=À (Â,.zG)
 le:∀i p,i<n->tg i=À p->p<=n
 Jx:n<=400
def tR(A:Ã->Å)(b:Ã->D)(tg:Ã->É Ã)(i:Ã):D:=.tup ŝj
nonrec def xA(A:Ã->Å)(n:Ã):Á Ķ:=(Şb).map λi=>.inl Âc
def xc(A:Ã->Å)(b:Ã->D)(tg:Ã->É Ã)(n:Ã):Á D:=(Şb).map (tR A b tg)
def y4i{ks:Á Ķ}{vs:Á D}{k:Sum Å È}{v:D}(h:vW ks k=Â):vk ks k=ks++[k]/\wc ks vs k v=vs++[v]:=by unfold vk wc;rw[h];rw[ϓo]
def z4z(A:Ã->Å)(n:Ã):xA A ı=xA A n++[.inl Êc]:=by unfold xA;rw[ůg,Ía];rfl
def x5f(A:Ã->Å)(b:Ã->D)(tg:Ã->É Ã)(n:Ã):xc A b tg ı=xc A b tg n++[tR A b tg n]:=by unfold xc;rw[ůg,Ía];rfl
def z4y(A:Ã->Å)(n:Ã):(öa).length=n:=by unfold xA;rw[ì,Źc]
theorem dC{A:Ã->Å}{n:Ã}{x:Å}:vW öa ôi=Æ↔∃i,i<n/\A i=x:=by
 unfold vW xA;rw[ċl]
 rw[ύo];rintro⟨k,b,e⟩;let{i,a,rfl}:=ëa b;show{i,ûb a,ϝc (ŭ e)};rintro⟨i,a,rfl⟩;show{_,śe {i,Ŵc a,rfl},ĉ rfl}
section
variable{ws:Á D}{n:Ã}{A:Ã->Å}{b:Ã->D}{tg:Ã->É Ã}(T:Tb ws n A b tg)
include T
theorem Tb.lt{i j:Ã}(h:i<j)(a:j<=n):A i<A j:=by
 induction j with
 |ϙ=>omega|Ϛ j ih=>have u:=T.up j Ê;by_cases e:i=j;rw[e];show u;let:=ih Ê Ê;omega
theorem Tb.inj{i j:Ã}(hi:i<=n)(a:j<=n)(e:A i=A j):i=j:=by rcases Ńg i j with h|h|h;let:=T.lt h a;omega;show h;let:=T.lt h hi;omega
theorem Tb.new{i:Ã}(hi:i<=n):vW Ôd ŋn=Â:=by
 cases c:vW Ôd ŋn with
 |Â=>rfl|Æ=>let{j,a,e}:=dC.mp c;let:=T.inj Ê hi e;omega
def YQ(n:Ã)(A:Ã->Å)(b:Ã->D)(tg:Ã->É Ã)(i:Ã):D:=if i<n then tR A b tg i else .zG
theorem Tb.tell{i:Ã}(hi:i<=n):gH ϓk=À (Â,YQ n A b tg i):=by
 unfold YQ;by_cases h:i<n;rw[Ò h];show T.told i h;let e:i=n:=by omega
 rw[Ó h,e];show T.fin
theorem mK:∀(k i:Ã),i+k=n->pK Ix GA Ĝ [À (Â,.lst ws),À (Æ,.dic Ôd Ąm),À (Â,.int Âc),À (Â,YQ n A b tg i)]=À (.nx [À (Â,.lst ws),À (Æ,.dic öa Ĺa),À (Â,.int Êc),À (Â,.zG)])
 |0,i,h=>by
  let e:i=n:=by omega
  subst e;let f:YQ i A b tg i=.zG:=Ó Ϭ;rw[f];show mP ?_;unfold Ix;simp only[Ü]
 |k+1,i,h=>by
  let g:i<n:=by omega
  let f:YQ n A b tg i=tR A b tg i:=Ò g;rw[f,x7h (σ':=[À (Â,.lst ws),À (Æ,.dic ēn œl),À (Â,.int (A ù)),À (Â,YQ n A b tg ù)])];show mK k ù Ê;unfold Ix tR;simp only[Ü];let{m,j}:=y4i (vs:=xc A b tg i) (v:=tR A b tg i) (T.new (ϯ g));let a:=T.tell (i:=i+1) g;let l:(Ôd).length<yr:=by rw[z4y];let:=T.Jx;exact i<16777216;omega
  let c:zL (tR A b tg i) ča=À (Δ (A ù)):=rfl
  have d:YH 1 Đ Œ [À (Â,.lst ws),À (Æ,.dic Ôd Ąm),À (Â,.int Âc),À (Â,tR A b tg i)]=À (.nx [À (Â,.lst ws),À (Æ,.dic ēn œl),À (Â,.int Âc),À (Â,tR A b tg i)]):=by rw[z4z,x5f,<-m,<-j];exact(if(Ôd).length<yr then _ else _)=_;rw[Ò l];rfl
  unfold GA;generalize xA A ù=K1 at d c a ⊢;generalize xc A b tg ù=V1 at d c a ⊢;generalize xA A i=K0 at d c a ⊢;generalize xc A b tg i=V0 at d c a ⊢;generalize tR A b tg i=TD at d c a ⊢;generalize YQ n A b tg ù=TL at d c a ⊢;simp only[Ü,d,c,a]
theorem mL:Wp ŵd=À (Æ,.dic öa Ĺa):=by let c:=T.tell (i:=0) ňf;rw[T.z]at c;let a:=i9 ı (mK T n 0 (ϔ n)) (by let:=T.Jx;exact n+1<=100000000;omega);rw[T.z]at a;let e:xA A 0=[]:=rfl;let d:xc A b tg 0=[]:=rfl;rw[e,d]at a;rw[z38];unfold Fa;generalize YQ n A b tg 0=TL at c a ⊢;generalize xA A n=KK at c a ⊢;generalize xc A b tg n=VV at c a ⊢;simp only[Ü,c,a]
theorem rL:Ui [.dic öa Ĺa]=À (Â,.int Êc):=by
 let e1:yc åa yl PU Űj Ĺa=À Ůl:=by
  let:=VS (g:=yF 1) (e:=PU) (σ:=Űj) (λd=>match d with|.tup [_,x,_]=>x|_=>.zG) (ds:=xc A b tg n) λd j=>by let{i,_,rfl}:=ëa j;show{_,rfl,rfl}
  rw[this];unfold xc;rw[Èb,Èb];rfl
 let e2:CJ (Ε Ůl) Ń=À ϳe:=by
  exact(kO _).bind _=_;rw[cj];exact À (if(Şb).map (λi=>A ù)=[]then _ else _)=_;by_cases c:n=0;subst c;exact À (Ş 0)=À (Ş (A 0));rw[T.z];rw[Ó (by intro h;let:=ŕ Ϗb h;rw[ì,Źc]at this;show c this)]
  let:A n=L2.maxI ϻf:=by show L2.maxI_uniq ?_ λy k=>?_;show śe {n-1,Ŵc Ê,by rw[ĝd Ê]};let{i,f,rfl}:=ëa k;let f:=ûb f;by_cases e:i+1=n;rw[e];rw[žo];show áa (T.lt Ê ċ)
  rw[<-this]
 rw[z24];unfold Dm;generalize (ϻf).map Ş=LL at *;let a:VJ 0 [À (Â,.dic öa Ĺa)]=À Ĺa:=rfl;generalize xA A n=KK at a e1 e2 ⊢;generalize xc A b tg n=VV at a e1 e2 ⊢;simp only[Ü,a,e1,e2]
def Of(A:Ã->Å)(b:Ã->D)(tg:Ã->É Ã)(n:Ã):Á D:=(Şb).map λi=>Įa [.int Âc,tR A b tg i]
omit T in
theorem z42{x2 x3 x4 x5:É Sl}:VI 1 [À (Â,.lst ws),À (Â,.dic öa Ĺa),x2,x3,x4,x5]=À (Of A b tg n):=by
 let h:(öa).all kT=Æ:=Īk λk a=>by let{i,_,rfl}:=ëa a;rfl
 exact(if(öa).all kT=Æ then À (kf öa Ĺa)else Ä)=_;rw[Ò h];unfold kf xA xc Of;show ŕ À (Ŏe λi=>?_);rw[ģe,ſ,ſ,ſ];cases(Āa n)[i]? with
 |Ä=>rfl|À j=>rfl
theorem z14:Uz ŵd=À (Â,.zG):=by
 let e1:=mL T;let e2:=rL T;let f:xE ϳe (.int (Ñb:Å))=À ò:=by rw[T.e];show L6 èi
 let{σ',k,x3,x4,x5,rfl}:=pB (g:=xh 3 4) (b:=GB) (λi σ=>∃x3 x4 x5,σ=[À (Â,.lst ws),À (Â,.dic öa Ĺa),À (Â,.int Êc),x3,x4,x5]) (ds:=Of A b tg n)
  (σ:=[À (Â,.lst ws),À (Â,.dic öa Ĺa),À (Â,.int Êc),Ä,Ä,Ä]) 0 {Ä,Ä,Ä,rfl} (by
  rintro i v σ o ⟨x3,x4,x5,rfl⟩;let{j,l,rfl}:=ëa (Ϗa o);let l:=ûb l;show{_,[À (Â,.lst ws),À (Â,.dic öa Ĺa),À (Â,.int Êc),À (Â,.int (A j)),À (Â,tR A b tg j),À (Â,tA A (tg j))],rfl,.inl ?_,_,_,_,rfl};let a:zL (tR A b tg j) Ŕb=À (tA A (tg j)):=rfl;unfold GB;cases h:tg j with
  |Ä=>
   rw[h]at a;let m:tA A Ä=.zG:=rfl;rw[m]at a ⊢;generalize tR A b tg j=TD at a ⊢;generalize xA A n=KK at a ⊢;generalize xc A b tg n=VV at a ⊢;simp only[Ü,a]
  |À p=>
   rw[h]at a;let m:tA A (À p)=.int (A p):=rfl;rw[m]at a ⊢;let r:=T.le j p l h;by_cases e:p=n
   .let q:xE Ęh ϳe=À ò:=by rw[e];show L6 èi
    generalize tR A b tg j=TD at a q ⊢;generalize xA A n=KK at a q ⊢;generalize xc A b tg n=VV at a q ⊢;simp only[Ü,a,q]
   .let q:xE Ęh ϳe=À ŉ:=L6 (cf (by let:=T.lt (i:=p) (j:=n) Ê ċ;omega))
    let c:V7 Ęh (.dic öa Ĺa)=À ò:=by exact(À (vW öa üh)).bind _=_;rw[dC.mpr {p,by omega,rfl}];rfl
    generalize tR A b tg j=TD at a q c ⊢;generalize xA A n=KK at a q c ⊢;generalize xc A b tg n=VV at a q c ⊢;simp only[Ü,a,q,c])
 let d:=z42 (ws:=ws) (A:=A) (b:=b) (tg:=tg) (n:=n) (x2:=À (Â,.int Êc)) (x3:=Ä) (x4:=Ä) (x5:=Ä);rw[z3b];unfold Fd;generalize Of A b tg n=IT at e1 e2 f d k ⊢;generalize xA A n=KK at e1 e2 f d k ⊢;generalize xc A b tg n=VV at e1 e2 f d k ⊢;simp only[Ü,e1,e2,f,d,k]
theorem x09:Zh ŵd=À (Â,.dic öa Ĺa):=by let e1:=z14 T;let e2:=mL T;rw[z34];unfold FW;generalize xA A n=KK at e1 e2 ⊢;generalize xc A b tg n=VV at e1 e2 ⊢;rw[Ńo]
omit T in
theorem cI{n:Ã}{A:Ã->Å}(b:∀i j,i<=n->j<=n->A i=A j->i=j){p:Ã}(c:p<n)(f:Ã->D):∀(l:Á Ã),p∈l->(∀i∈l,i<=n)->Ĳ ϔk (ş f) üh=À (f p)
 | [],h,_=>by cases h|a::l,h,hl=>by exact(if(Ãa (A a):Sum Å È)=.inl (A p)then À (f a)else Ĳ ϔk (ş f) üh)=_;by_cases e:A a=A p;let:=b a p (hl a ī) įc e;subst this;rw[Ò rfl];rw[Ó (λz=>e (ϝc z))];rcases Ī h with rfl|h;show Þ rfl e;show cI b c f l h λi d=>hl i Ϩn
#print a
nonrec def uG(c:Ã):Á Ã->Á Ŏb
 | []=>[[]]|a::l=>if a=c then[]::uG c l else match uG c l with
  |p::r=>(a::p)::r| []=>[[a]]
theorem Vp(c a:Ã)(l:Á Ã):uG c (a::l)=if a=c then[]::uG c l else match uG c l with
  |p::r=>(a::p)::r| []=>[[a]]:=rfl
nonrec def jn(c:Ã):Á Ŏb->Á Ã
 | []=>[]| [p]=>p|p::q::r=>p++c::jn c (q::r)
theorem Nc(c:Ã):∀l,∃p r,uG c l=p::r
 | []=>{_,_,rfl}|a::l=>by
  let{p,r,e}:=Nc c l;rw[Vp,e]
  split;show{_,_,rfl};show{_,_,rfl}
theorem JC{c:Ã}:∀{p:Á Ã},c ∉ p->uG c p=[p]
 | [],_=>rfl|a::p,h=>by
  let b:¬ a=c:=λe=>h (by rw[e];show ī)
  rw[Vp,Ó b,JC ĵm]
theorem Ll(c:Ã):∀(p l:Á Ã),uG c (p++c::l)=uG c p++uG c l
 | [],l=>by rw[ıd,Vp,Ò rfl];rfl|a::p,l=>by
  rw[ŝe,Vp,Vp,Ll c p l];let{q,r,e}:=Nc c p;rw[e]
  split;rfl;rfl
theorem Nb{c:Ã}:∀{ps:Á Ŏb},ps≠[]->(∀p∈ps,c ∉ p)->uG c (jn c ps)=ps
 | [],h,_=>Þ rfl h| [p],_,h=>JC Îo|p::q::r,_,h=>by exact uG c (p++c::jn c (q::r))=_;rw[Ll,JC Îo,Nb (ps:=q::r) ï λz a=>h z Âd];rfl
theorem d7(c d:Ã):∀l,jn d (uG c l)=ş λa=>if a=c then d else a
 | []=>rfl|a::l=>by let b:=d7 c d l;let{p,r,e}:=Nc c l;rw[Vp];rw[e]at b ⊢;by_cases h:a=c;rw[Ò h,Ň,Ò h,<-b];rfl;rw[Ó h,Ň,Ó h,<-b];cases r<;>rfl
def j3(a b:È):(Ųf).cps.toList=a.cps.toList++b.cps.toList:=æc
theorem Oh(c:Ã):∀ts:Á È,(Str.join {#[c]} ts).cps.toList=jn c (Ϧb λt=>Çb)
 | []=>rfl| [x]=>rfl|x::y::r=>by exact(x++{#[c]}++Str.join {#[c]} (y::r)).cps.toList=_;rw[j3,j3,Oh c (y::r),ř];rfl
def Nd(x:È)(c:Ã):(Ϙl).map (λt=>Çb)=uG c Ćc:=by let a:=ŕ Ϟg (StrLaws.join_split x {#[c]});let a:jn c ((Ϙl).map λt=>Çb)=Ćc:=(Oh c _).symm.trans a;rw[<-a,Nb];intro z;let:=ŕ Ϗb z;rw[ì]at this;let p:=PyProof.Rows.split_pos x {#[c]};rw[this]at p;show Þ p Í;intro p d;let{t,b,rfl}:=ëa d;show StrLaws.split_free x c t b
def y5m(x:È)(c d:Ã):(Ąe x {#[c]} {#[d]}).cps.toList=x.cps.toList.map λa=>if a=c then d else a:=by rw[StrLaws.replace_one,Oh,Nd,d7]
theorem lQ{c:Ã}:∀{l:Á Ã},c ∉ l->ŷm (· != c)=l
 | [],_=>rfl|a::l,h=>by rw[ϔj (by simp;show λe=>h (e▸ī)),lQ ĵm]
theorem y2i(x:È)(c:Ã):ϊc.1.cps.toList=x.cps.toList.takeWhile (· != c):=by
 let a:=ŕ Ϟg (ąk x {#[c]});let a:(ϊc.1++ϊc.2.1++ϊc.2.2).cps.toList=Ćc:=a;cases h:(Øc x {#[c]} 0 Ða 1).isEmpty with
 |Æ=>
  let e:=PyProof.Rows.empty_one x c;rw[h]at e
  let b:c ∉ Ćc:=λz=>by rw[ĉ z]at e;cases e
  rw[lQ b];unfold Ðc;rw[List.isEmpty_iff.mp h]
 |Â=>
  let q:=PyProof.Rows.from_first_some (x:=x) (y:={#[c]}) (z:={#[c]}) (c:=c) rfl rfl h;let q:=ŕ Ϟg (çf q)
  let q:(àk).cps.toList=äk (· != c):=by rw[show(àk).cps.toList=({(äk (· != c)).toArray}:È).cps.toList from q]
  let d:ϊc.2.1={#[c]}:=by
   unfold Ðc;cases ho:Øc x {#[c]} 0 Ða 1 with
   |nil=>rw[ho]at h;cases h|ā i r=>rfl
  rw[d,j3,j3,ř]at a;rw[j3]at q;rw[q]at a;let t:=List.takeWhile_append_dropWhile (p:=(· != c)) (l:=Ćc);show List.append_cancel_right (Ĉi t.symm)
nonrec def tb(a:Ã):Ã:=if a=9 then 32 else a
def W(l:Á Ã):Á Ŏb:=(uG 32 ((ŷm (· != 59)).map tb)).filter λp=>!p.isEmpty
def Bl(b:Ã):Ç:=b=32\/b=9
structure Wd(w:Á Ã):Ç where
 ne:w≠[]
 ok:∀a∈w,a≠32/\a≠9/\a≠59/\a≠10
def oB:W []=[]:=rfl
def mM{w:Á Ã}(h:Wd w):w.map tb=w/\32 ∉ w/\(∀a∈w,(a != 59)=Æ):=by
 show{?_,λz=>(h.ok 32 z).1 rfl,λa b=>by simpa using(h.ok a b).2.2.1};let:w.map tb=w.map id:=Ľe λa b=>Ó (h.ok a b).2.1
 rw[this,ϭe]
theorem tD{w:Á Ã}(h:Wd w){b:Ã}(a:Bl b)(l:Á Ã):W (w++b::l)=w::W l:=by
 let{e1,e2,c}:=mM h;unfold W
 rw[Ůj c,ϔj (by rcases a with rfl|rfl<;>decide),Ía,e1,Ň,show tb b=32 by rcases a with rfl|rfl<;>rfl,Ll,JC e2,List.singleton_append,ùg (by
  cases w with
  |nil=>show Þ rfl h.ne|ā _ _=>rfl)]
theorem X2{w:Á Ã}(h:Wd w){l:Á Ã}(a:l=[]\/∃r,l=59::r):W (w++l)=[w]:=by
 let{e1,e2,b}:=mM h
 let:(w++l).takeWhile (· != 59)=w:=by rw[Ůj b];rcases a with rfl|⟨r,rfl⟩;show ŷ _;rw[List.takeWhile_cons_of_neg Í,ŷ]
 unfold W
 rw[this,e1,JC e2,ùg (by
  cases w with
  |nil=>show Þ rfl h.ne|ā _ _=>rfl)]
 rfl
nonrec def j4(m:Ã):Á Ã:=(ϙe 10 m).map Char.toNat
def z08:∀d:Ã,d<10->(Nat.digitChar d).toNat=48+d:=by decide
def O5{m:Ã}(h:m<10):j4 m=[48+m]:=by unfold j4;rw[Nat.toDigits_of_lt_base h,Ň,ϛe,z08 m h]
theorem bN{m:Ã}(h:10<=m):j4 m=j4 ód++[48+m%10]:=by let a:m%10<10:=Nat.mod_lt m Í;let t:ϙe 10 ód++ϙe 10 (m%10)=ϙe 10 (10*ód+m%10):=Nat.toDigits_append_toDigits Í Ê a;rw[Nat.div_add_mod]at t;let e:j4 (m%10)=[48+m%10]:=O5 a;unfold j4 at e ⊢;rw[<-t,Ía,e]
theorem z09:∀m:Ã,j4 m≠[]/\(∀c∈j4 m,48<=c/\c<=57)/\(m≠0->(j4 m).head?≠À 48):=λm=>by
 induction m using Nat.strongRecOn with
 |_ m ih=>
  by_cases h:m<10;rw[O5 h];refine{by simp,λc f=>?_,λg z=>?_};rw[Üa f];omega;let:48+m=48:=ća z;omega;let{a,b,c}:=ih ód Ê;rw[bN Ê];refine{by simp,λx d=>?_,λ_=>?_};rcases Ăa d with d|d;show b x d;rw[Üa d];omega;cases e:j4 ód with
  |nil=>show Þ e a|ā y r=>have:=c Ê;rw[e]at this;show this
theorem bO:∀(k m:Ã),m<10 ^ Ĝ->(j4 m).length<=k+1
 |0,m,h=>by rw[O5 Âb];show ïa _|k+1,m,h=>by by_cases c:m<10;rw[O5 c];exact 1<=_;omega;rw[bN Ê,í];let:=bO k ód (by rw[Nat.div_lt_iff_lt_mul Í];rw[Nat.pow_succ]at h;show h);rw[Ĕo]
nonrec def yD(n:Å):È:=ńb (Ϻc n)
def z07{n:Å}(h:0<=n):(ĩa).cps.toList=j4 Þd:=by let:=W.KIN.signs_num Þd;rw[show((Þd:Ã):Å)=n by omega]at this;rw[đo]
def lD(z:È)(c:Ã):ńe z {#[c]}=decide (z.cps.toList.head?=À c):=by let s:=StrLaws.subAt_one z c 0;rw[List.head?_eq_getElem?];show Bool.eq_iff_iff.mpr ?_;rw[Ųc,<-s];exact(decide (0+({#[c]}:È).length<=ĕ)&&Builtin.Str.subAt z {#[c]} 0)=Æ↔_;rw[Ğ,Ųc]
theorem dP:∀{a b:Á Å},ķh (·<·)->Ķh (·<·)->(∀x,x∈a↔x∈b)->a=b
 | [],[],_,_,_=>rfl| [],y::b,_,_,h=>by let:=(h y).mpr ī;cases this|x::a,[],_,_,h=>by let:=(h x).mp ī;cases this|x::a,y::b,ha,hb,h=>by
  rw[List.pairwise_cons]at ha hb
  let e:x=y:=by rcases Ī ((h x).mp ī)with z|z;show z;rcases Ī ((h y).mpr ī)with w|w;show w.symm;let:=hb.1 x z;let:=ha.1 y w;omega
  subst e
  rw[dP ha.2 hb.2 λz=>⟨λc=>by
   rcases Ī ((h z).mp ϡh)with w|w;let:=ha.1 z c;omega;show w,λc=>by
   rcases Ī ((h z).mpr ϡh)with w|w;let:=hb.1 z c;omega;show w⟩]
theorem Ĵc(h:Ũa+ϣ<=100000):yf (.str a) (.str b)=À (.str Ųf):=by exact(if Ũa+ϣ<=yr then _ else _)=_;rw[Ò Úg]
theorem QV(a b:È):(Ųf).length=Ũa+ϣ:=Ðl
def oO(a:Á Ð):kD [.lst (a.map ıb)]=À Ĭl:=by exact(Zo _).bind _=_;rw[ao];rfl
def z0g{c:Ã}(h:48<=c/\c<=57):vw ϑe çc=À ŉ:=by
 exact À (ıb (!(Øc (ϓe : È) {#[c]} 0 (ϓe : È).length 1).isEmpty))=_;let e:(ϓe : È).cps.toList=[48,49,50,51,52,53,54,55,56,57]:=by rfl
 rw[StrLaws.found_one,e,ĉ (show c∈[48,49,50,51,52,53,54,55,56,57] by simp only[Ļa,Ìa,ňa];omega)]
theorem Y5(z:È):Ģg=ĕ:=ť
def z6q{z:È}(h:Ėa≠[]):zh ĩc όg=À ò:=by
 rw[ōo];cases l with
 |nil=>show Þ rfl h|ā a r=>rfl
def x7z{z:È}(h:Ėa=[48]):z = "0":=by rw[ōo];cases(show l=[48]from h);rfl
def XZ{n:Å}(s:0<=n)(y:n<100000):Wk ńh=À (Â,.int n)/\(ĩa).length<=5/\Wd (ĩa).cps.toList:=by
 let o:=z07 s;let{q,m,r}:=z09 Þd;let p:=bO 4 Þd (by exact _<100000;omega);rw[<-o]at q m r p;rw[Y5]at p;let g:=z6q q;let b:decide ((5:Å)<((ĩa).length:Å))=Â:=į Ê
 let h:yc åa yl Pa [À (Â,.str ĩa),Ä] Ϟf=À ϲj:=VS (λ_=>.bl Æ) λd l=>by let{c,v,rfl}:=ëa l;let:=z0g (m c v);show{_,rfl,?_};unfold Pa;simp only[Ü,this]
 let i:kD [.lst ϲj]=À ŉ:=by
  let:=oO ŉk;rw[Èb]at this
  let e:(ŉk).all id=Æ:=Īk λx w=>by let{_,_,rfl}:=ëa w;rfl
  rw[e]at this;rw[đo]
 let j:CH ńh=À Ĭc:=by exact(if(ĩa).length<=640 then(Ļd ŵi).bind _ else Ä)=_;rw[Ò Ê,show Ļd ŵi=À n from W.KIN.num_reads s Ê];rfl
 show{?_,p,{q,λa t=>by let:=m a t;omega}};let f:xq ńh=À (.int (ĩa).length):=rfl
 let st:To Ūd Õf=À (Ιa ((ĩa).cps.toList.head?=À 48)):=by exact À (ıb (ńe ŵi {#[48]}))=_;rw[lD]
 rw[z2w];unfold FI;by_cases hz:n=0;let u:yD n = "0":=x7z (by rw[o,hz];rfl);let k:xE Ūd Õf=À ò:=by rw[u];rfl
 let l:(ĩa).cps.toList.head?=À 48:=by rw[o,hz];rfl
 rw[ĉ l]at st;generalize yD n=Z at g f b h i st k j ⊢;generalize Çj=ZB at g f b h i st k j ⊢;simp only[Ü,g,f,b,h,i,st,k,j];rw[į (r Ê)]at st;generalize yD n=Z at g f b h i st j ⊢;generalize Çj=ZB at g f b h i st j ⊢;simp only[Ü,g,f,b,h,i,st,j]
theorem e5{n:Å}(a:0<=n)(b:n<100000):Qb n=Æ:=ĉ (by
 by_cases e:ϻh=0;rw[e];decide;let p:(2:Ã) ^ 17=131072:=by decide
 let:n.natAbs.log2<17:=(Nat.log2_lt e).mpr Ê;omega)
def āi{n:Å}(h:Qb n=Æ):kG [.int n]=À Ūd:=by exact(match Qb n with|Æ=>_|Â=>_)=_;rw[h];rfl
def h7(x:È):(ýb).cps.toList=114::Ćc:=by rw[j3];rfl
def y5e(x:È):Ľf ýb ùa Ä=x:=by
 let e:(Ľf ýb ùa Ä).cps.toList=Ćc:=by
  exact(((ýb).cps.toList.drop (Ħ (ýb).length 0 ùa)).take (Ħ (ýb).length (ýb).length Ä-Ħ (ýb).length 0 ùa))=_
  let e1:Ħ (ýb).length 0 ùa=1:=by let:=HT.sIx_nat (("r" : È)++x).length 0 1;rw[show(((1:Ã):Å))=1 from rfl]at this;rw[this,QV];exact min 1 (1+Ða)=1;omega
  rw[e1,h7];exact(x.cps.toList.take _)=_;show ţc ?_;rw[Y5];exact _<=(ýb).length-1;rw[QV];exact _<=1+Ða-1;omega
 obtain⟨⟨l⟩⟩:=x;generalize Ľf _ _ _=C at e;obtain⟨⟨m⟩⟩:=C;cases(show m=l from e);rfl
nonrec def sD(l:Á Ã):D:=.str {l.toArray}
def i7(z:È):sD Ėa=.str z:=by rw[ōo];rfl
def x7m{row:È}(h:row.length<=100000):Wr [.str row]=À (Æ,.lst ((Ŀi).map sD)):=by
 let m:=ŕ Ϙb (ąk row {#[59]});rw[QV,QV]at m;let f:CL (.str row) ľn=À (.tup [.str ĺb.1,.str ĺb.2.1,.str ĺb.2.2]):=Ò {rfl,by exact ĺb.1.length<=_;omega,by exact ĺb.2.1.length<=_;omega,by exact ĺb.2.2.length<=_;omega};let s:=y2i row 59;generalize ĺb.1=P1 at *;generalize ĺb.2.1=P2 at *;generalize ĺb.2.2=P3 at *;let k:CP 0 (.tup [.str P1,.str P2,.str P3])=À âo:=rfl;let o:=y5m P1 9 32;have u:(úg).length=Ϗh:=by rw[<-Y5,o,ì,Y5]
 let i:CM "\t" " " âo=À (.str úg):=Ò {by exact Ϗh+(Ϗh+1)*1<=_;omega,by exact(úg).length<=_;omega};generalize Ąe P1 {#[9]} {#[32]}=R at *;let j:XC (.str R) Ŀn=À (.lst Ϣm):=Ò {rfl,by omega}
 let a:=VR (g:=yF 2) (c:=Pk) (e:=md) (σ:=[À (Â,.str row),À (Â,.str R),Ä]) (λd=>match d with|.str z=>!z.cps.toList.isEmpty|_=>Â) id (ds:=(łe).map ϐ) λd q=>by
  let{z,_,rfl}:=ëa q
  let n:xE ĩc όg=À (.bl (!z.cps.toList.isEmpty)):=by rw[ōo];cases l<;>rfl
  show{_,rfl,?_,λ_=>rfl};unfold Pk;simp only[Ü,n]
 let r:W ġj=((łe).map λt=>Çb).filter λp=>!p.isEmpty:=by unfold W;rw[Nd,o,s];rfl
 let b:((Ϣm).filter λd=>match d with|.str z=>!z.cps.toList.isEmpty|_=>Â).map id=(Ŀi).map sD:=by rw[r,ϭe,Ŵg,Ŵg,Èb];refine Ľe λz _=>(i7 z).symm
 rw[b]at a;rw[z3e];unfold Fg;generalize (Ŀi).map sD=WW at f k i j a ⊢;generalize (łe).map ϐ=SS at f k i j a ⊢;simp only[Ü,f,k,i,j,a]
inductive vv:Á Ŏb->Á D->Ç
 |nil:vv [] []
 |IB {l:Á Ã} {ps:Á Ŏb} {ϴa:Á D}:W l=[]->vv ps ϴa->vv (l::ps) ϴa
 |IA {l:Á Ã} {ps:Á Ŏb} {d:D} {ϴa:Á D}:W l≠[]->gx [.lst ((W l).map sD)]=À (Â,d)->vv ps ϴa->vv (l::ps) (d::ϴa)
theorem vv.app:∀{a b:Á Ŏb} {x y:Á D},vv a x->vv b y->vv Ųf Õe
 |_,_,_,_,.nil,h=>h|_,_,_,_,.IB e r,h=>.IB e Æo|_,_,_,_,.IA e f r,h=>.IA e f Æo
def IN(d r:D):Ç:=∃k:Ã,r=.tup [.int (k:Å),d]
theorem bZ{R:D->D->Ç}{x y:D}(h:R x y):∀{xs ys:Á D},jd R xs ys->jd R Āf ϯn
 |_,_,.nil=>.cons h .nil|_,_,.cons a r=>.cons a (bZ h r)
def x3d{T:È}(F:ģc<=100000){c:Á D}(S:ŉa<=900)(C:vv Ĵe c):∃R:Á D,Ux Îi=À (Æ,.lst R)/\jd IN c R:=by
 let P:XC (.str T) ĥe=À (.lst (Λa ŏl)):=Ò {rfl,by omega};let Q:=Nd T 10;let U:(ŏl).length<=ģc+2:=PyProof.Rows.split_le T {#[10]};let I:∀z∈ÿb T {#[10]},ĕ<=ģc:=λz p=>PyProof.Rows.part_short p
 generalize ÿb T {#[10]}=zs at *;rw[<-Q]at C
 let B:gU Şl Ϧf=À ϙn:=by
  unfold gU;let:e2 XC Č Üf Ϧf=À (.lst Űe):=by simp only[Ü,P]
  rw[this];rfl
 let{σ',e,R,k,l,w,u,y,j,m,s,E,rfl}:=pB (g:=xh 2 3) (b:=Oo) (λi σ=>∃R k l w u y,c=k++l/\jd IN k R/\vv ((Śf λt:È=>Çb).drop i) l/\Ĥc<=i/\σ=[À (Â,.str T),À (Æ,.lst R),w,u,y]) (ds:=Ϟa Űe)
  (σ:=Ϧf) 0 {[],[],c,Ä,Ä,Ä,rfl,.nil,C,ïa _,rfl} (by
  rintro i v σ n ⟨R,k,l,w,u,y,j,m,s,E,rfl⟩;rw[ϔ]at *;rw[L7,ſ]at n
  obtain⟨z,p,rfl⟩:∃z,zs[i]?=À z/\v=.tup [.int (i:Å),.str z]:=by
   cases q:zs[i]? with
   |Ä=>rw[q]at n;cases n|À z=>rw[q]at n;cases n;show{z,rfl,rfl}
  let J:=(Ŭ p).1;let H:=Ϗa p
  let G:(Śf λt:È=>Çb).drop i=Ėa::(Śf λt:È=>Çb).drop ù:=by rw[ĸb (by rw[ì];show J),List.getElem_map];rw[(Ŭ p).2]
  rw[G]at s;let h:=x7m (row:=z) (ģ (I z H) F);cases s with
  |IB e r=>
   rw[e]at h;let o:xE (Ε ([].map sD)) Æd=À ò:=rfl;show{_,[À (Â,.str T),À (Æ,.lst R),À (Â,.int (i:Å)),À (Â,.str z),À (Â,.lst [])],rfl,.inl ?_,R,k,l,_,_,_,j,m,r,by omega,rfl};let o:xE Æd Æd=À ò:=rfl;let h:Wr Íi=À (Æ,.lst []):=h;unfold Oo;simp only[Ü,h,o]
  |IA e f r=>
   rename_i d x
   let o:xE (Ε Ũg) Æd=À ŉ:=by
    cases q:W Ėa with
    |nil=>show Þ q e|ā a b=>rfl
   let K:=k7 (L:=R) (r:=.tup ēl) (by let:=bX m;let:=ŕ Ϗb j;rw[í]at this;omega)
   show{_,[À (Â,.str T),À (Æ,.lst (R++[.tup ēl])),À (Â,.int (i:Å)),À (Â,.str z),À (Â,.lst Ũg)],rfl,.inl ?_,_,k++[d],x,_,_,_,by rw[j,ř];rfl,bZ {i,rfl} m,r,by rw[í];rw[Ĕo],rfl};unfold Oo;obtain⟨A,O⟩:∃A,A=(W Ėa).map sD:={_,rfl};rw[<-O]at h o f ⊢;simp only[Ü,h,o,f,K])
 let N:(Śf λt:È=>Çb).drop (0+(ϙn).length)=[]:=Ťc (by rw[VZ,ì,ì];omega);rw[N]at s;cases s;rw[ŷ]at j;subst j;show{R,?_,m};rw[z37];unfold FZ;generalize Ϟa Űe=NN at B e ⊢;simp only[Ü,B,e]
nonrec def sh:Å->Ã->Å
 |N,0=>N|N,j+1=>sh N j/256
def byt(N:Å)(j:Ã):Å:=sh N j%256
theorem Xq(N:Å):∀j,sh ŀi j=sh N ϒ
 |0=>rfl|j+1=>by exact sh ŀi j/256=sh N ϒ/256;rw[Xq N j]
nonrec def eR:Ã->Å
 |0=>1|r+1=>eR r*256
theorem aw:∀(r j:Ã),j<r->∀N T:Å,byt (N+T*eR r) j=byt N j
 |0,_,h=>Þ h Łe|r+1,0,_=>λN T=>by exact ĥl%256=N%256;rw[<-že];omega|r+1,j+1,h=>λN T=>by
  let a:=aw r j Ê ŀi T;unfold byt at a ⊢;rw[<-Xq,<-Xq,<-a]
  congr 2
  exact ĥl/256=_;rw[<-že];omega
def z0t:eR 24=6277101735386680763835789423207666416102355444464034512896:=by rw[ÿo]
def rY{N:Å}{j:Ã}(h:j<24):byt ϰi j=byt N j:=by
 let e:=aw 24 j h N (-(N/6277101735386680763835789423207666416102355444464034512896));rw[z0t]at e;rw[<-e]
 congr 1
 omega
def y88(N:Å)(j:Ã):sh N (j+4)=sh N j/4294967296:=by exact sh N j/256/256/256/256=_;omega
def wd(N:Å)(k:Ã):Å:=sh N ϑ%4294967296
def Z6(N:Å)(k:Ã):0<=wd N k/\wd N k<4294967296:=by unfold wd;omega
def a_(N:Å)(k:Ã):wd N k%256=byt N ϑ/\wd N k/256%256=byt N Řf/\wd N k/65536%256=byt N ŗf/\wd N k/16777216%256=byt N Ŗf:=by let e1:byt N Řf=sh N ϑ/256%256:=rfl;let e2:byt N ŗf=sh N ϑ/256/256%256:=rfl;let a:byt N Ŗf=sh N ϑ/256/256/256%256:=rfl;rw[e1,e2,a];unfold byt wd;omega
def az(N:Å)(k:Ã):byt N ϑ+byt N Řf*256+byt N ŗf*65536+byt N Ŗf*16777216=wd N k:=by let{a,b,c,d}:=a_ N k;let:=Z6 N k;omega
def V4(N:Å)(j:Ã):0<=byt N j/\byt N j<256:=by unfold byt;omega
nonrec def rm:Ã->Å
 |0=>1|k+1=>rm k*4294967296
def y89(N:Å)(k:Ã):sh N (4*Ĝ)=sh (N/4294967296) ϑ:=by
 let e:N/4294967296=N/256/256/256/256:=by omega
 rw[e,Xq,Xq,Xq,Xq];rfl
theorem Lk:∀(k:Ã)(N:Å),sh N ϑ=0↔0<=N/\N<rm k
 |0,N=>by exact N=0↔0<=N/\N<1;omega|k+1,N=>by rw[y89,Lk k];exact _↔0<=N/\N<rm k*4294967296;omega
nonrec def j_(u:Ð)(b:Å):Å:=bif u then -b else b
def xS(A B:Å)(u:Ð):Å:=A+j_ u B
def qk(A B:Å)(u:Ð):Ã->Å
 |0=>0|k+1=>ŗc/4294967296
def tk(A B:Å)(u:Ð)(k:Ã):Å:=wd A k+j_ u Ġf+qk A B u k
def cr(A B:Å)(u:Ð)(k:Ã):Ð:=decide (qk A B u k≠0)
section
variable{A B:Å}{u:Ð}
theorem Gv:∀k,(u=Â->0<=qk A B u k/\qk A B u k<=1)/\(u=Æ -> -1<=qk A B u k/\qk A B u k<=0)
 |0=>{λ_=>by exact(0:Å)<=0/\(0:Å)<=1;decide,λ_=>by exact(-1:Å)<=0/\(0:Å)<=0;decide}|k+1=>by let{c,d}:=Gv k;rw[Ťo];exact(u=Â->0<=ŗc/4294967296/\ŗc/4294967296<=1)/\(u=Æ -> -1<=ŗc/4294967296/\ŗc/4294967296<=0);show{λh=>?_,λh=>?_};let:=c h;subst h;exact 0<=Ŷj/4294967296/\Ŷj/4294967296<=1;omega;let:=d h;subst h;exact -1<=Œj/4294967296/\Œj/4294967296<=0;omega
theorem Gw:∀k,sh ϕ ϑ=sh A ϑ+j_ u (sh B ϑ)+qk A B u k
 |0=>by exact A+j_ u B=A+j_ u B+0;omega|k+1=>by
  let a:=Gw k;let e:∀N,sh N (4*Ĝ)=sh N ϑ/4294967296:=λN=>y88 N ϑ
  rw[e,e,e,a];exact _=_+_+ŗc/4294967296;unfold wd;cases u;exact Ńj/4294967296=sh A ϑ/4294967296+sh B ϑ/4294967296+Æj/4294967296;omega;exact Ĵj/4294967296=sh A ϑ/4294967296 + -(sh B ϑ/4294967296)+Ϯi/4294967296;omega
def mN(k:Ã):tk A B u k%4294967296=wd ϕ k:=by let e:=Gw (A:=A) (B:=B) (u:=u) k;unfold tk;exact _=sh ϕ ϑ%4294967296;rw[e];unfold wd;cases u;exact Æj%4294967296=Ńj%4294967296;omega;exact Ϯi%4294967296=Ĵj%4294967296;omega
def sW(h:u=Â)(k:Ã):wd A k+wd B k+kX ŏd=tk A B u k/\decide (4294967296<=tk A B u k)=cr A B u Ĝ:=by
 let r:=ϐj.1 h;rw[Ťo];let t:tk A B u k=wd A k+wd B k+qk A B u k:=by subst h;rfl
 rw[Įo];rfl;rw[ĉ z];exact _+1=_;rw[ĕo]
def sZ(h:u=Æ)(k:Ã):wd A k-wd B k-kX ŏd=tk A B u k/\decide (tk A B u k<0)=cr A B u Ĝ:=by
 let r:=ϐj.2 h;rw[Ťo];let t:tk A B u k=wd A k + -wd B k+qk A B u k:=by subst h;rfl
 rw[Įo];exact _-0=_;omega;rw[ĉ z];exact _-1=_;rw[ĕo]
def sV{m:Ã}(a:0<=A/\A<rm m)(b:0<=B/\B<rm m):cr A B u m=!(decide (0<=xS A B u)&&decide (xS A B u<rm m)):=by
 let e:=Gw (A:=A) (B:=B) (u:=u) m;rw[(Lk m A).mpr a,(Lk m B).mpr b]at e
 let e:sh ϕ ŋ=qk A B u m:=by rw[e];cases u;exact(0:Å)+0+_=_;omega;exact(0:Å) + -0+_=_;omega
 let z:=Lk m ϕ;rw[e]at z;unfold cr;rw[<-Bool.decide_and];by_cases q:qk A B u m=0;rw[į Ê,ĉ (z.mp q)];rfl;rw[ĉ q,į λw=>q (z.mpr w)];rfl
#print a
theorem c9{a b x:Å}:∀{ps:Á Ĕ},gP Ŕc x=if x=a then(if a∈ń (·.1)then b else 0)else gP ps x
 | []=>by
  exact(0:Å)=if x=a then(if a∈([]:Á Å)then b else 0)else 0
  split;rw[Ó Ìa];rfl
 |p::ps=>by
  let f:=c9 (a:=a) (b:=b) (x:=x) (ps:=ps);rw[Ň];by_cases c:p.1=a;rw[Ò c];exact(if a=x then b else gP Ŕc x)=if x=a then(if a∈p.1::ń (·.1)then b else 0)else if p.1=x then p.2 else gP ps x
  rw[f];by_cases d:x=a;rw[Ò d.symm,Ò d,Ò (by rw[c];show ī)];rw[Ó (λz=>d Ϸb),Ó d,Ó d,Ó Ê];rw[Ó c];exact(if p.1=x then p.2 else gP Ŕc x)=if x=a then(if a∈p.1::ń (·.1)then b else 0)else if p.1=x then p.2 else gP ps x
  rw[f];by_cases d:x=a;rw[Ó Ê,Ò d,Ò d];by_cases e:a∈ń (·.1);rw[Ò e,Ò ϧn];rw[Ó e,Ó (λz=>(Ī z).elim Ķm e)];rw[Ó d,Ó d]
theorem c8{a b x:Å}:∀{ps:Á Ĕ},a ∉ ń (·.1)->gP Ϗe x=if x=a then b else gP ps x
 | [],_=>by
  exact(if a=x then b else 0)=if x=a then b else 0
  by_cases c:a=x;rw[Ò c,Ò ļf];rw[Ó c,Ó Ķm]
 |p::ps,h=>by
  let f:¬ a=p.1:=λz=>h (by rw[Ň,z];show ī)
  let e:=c8 (b:=b) (x:=x) (ps:=ps) λz=>h ϰc
  exact(if p.1=x then p.2 else gP Ϗe x)=if x=a then b else if p.1=x then p.2 else gP ps x
  rw[e];by_cases d:x=a;rw[Ò d,Ò d,Ó Ê];rw[Ó d,Ó d]
theorem OI{ps:Á Ĕ}{a b x:Å}:gP ŝd x=if x=a then b else gP ps x:=by unfold v4;by_cases c:a∈ń (·.1);rw[Ò c,c9,Ò c];rw[Ó c,c8 c]
theorem z1b{ps:Á Ĕ}{a w x:Å}(b:0<=a)(c:a+3<65536):gP ĝh x=if x=a+3 then w/16777216%256 else if x=a+2 then w/65536%256 else if x=a+1 then w/256%256 else if x=a then w%256 else gP ps x:=by unfold tP;rw[OI,OI,OI,OI,show(a+0)%65536=a by omega,show(a+1)%65536=a+1 by omega,show(a+2)%65536=a+2 by omega,show(a+3)%65536=a+3 by omega]
theorem y4j{ps:Á Ĕ}{a w:Å}(P:Zm ps):Zm ĝh:=by unfold tP;show Lj (Lj (Lj (Lj P Ê Ê Ê Ê) Ê Ê Ê Ê) Ê Ê Ê Ê) Ê Ê Ê Ê
def y4h{ps:Á Ĕ}{a w:Å}:(ĝh).length<=ĥ+4:=by unfold tP;let d:=Xn (ps:=ps) (a:=(a+0)%65536) (b:=w%256);generalize v4 ps (Ζ (a+0)) İc=p0 at *;let c:=Xn (ps:=p0) (a:=(a+1)%65536) (b:=w/256%256);generalize v4 p0 (Ζ (a+1)) Ϸe=p1 at *;let f:=Xn (ps:=p1) (a:=(a+2)%65536) (b:=w/65536%256);generalize v4 p1 (Ζ (a+2)) ύe=p2 at *;let e:=Xn (ps:=p2) (a:=(a+3)%65536) (b:=w/16777216%256);omega
structure k4(A B s:Å)(m:Ã)(u:Ð)(k:Ã)(ps:Á Ĕ):Ç where
 P:Zm ps
 l:ĥ<=48+4*k
 a:∀j:Ã,j<4*m->gP ps (s+j)=byt A j
 b:∀j:Ã,j<4*m->gP ps (s+32+j)=byt B j
 c:∀j:Ã,j<4*k->gP ps (s+64+j)=byt ϕ j
 z:∀x:Å,(∀j:Ã,j<4*m->x≠s+j/\x≠s+32+j)->(∀j:Ã,j<4*k->x≠s+64+j)->gP ps x=0
def k4.next{A B s:Å}{m:Ã}{u:Ð}{k:Ã}{ps:Á Ĕ}(M:k4 A B s m u k ps)(E:m<=6)(hk:k<m)(H:0<=s)(F:s<65000):k4 A B s m u Ĝ ĳj:=by
 let{P,l,a,b,c,z}:=M;let g:=λx=>z1b (ps:=ps) (a:=s+64+4*(k:Å)) (w:=wd ϕ k) (x:=x) Ê Ê
 let{p,n,o,t}:=a_ ϕ k
 let d:∀x:Å,(x<s+64+4*(k:Å)\/s+64+4*(k:Å)+3<x)->gP ĳj x=gP ps x:=λx h=>by rw[g,Ó Ê,Ó Ê,Ó Ê,Ó Ê]
 show{y4j P,?_,λj f=>?_,λj f=>?_,λj f=>?_,λx r i=>?_};let:=y4h (ps:=ps) (a:=s+64+4*(k:Å)) (w:=wd ϕ k);omega;rw[d _ Ê,a j f];rw[d _ Ê,b j f];by_cases q:j<4*k;rw[d _ Ê,c j q];rcases(show j=4*k\/j=4*k+1\/j=4*k+2\/j=4*k+3 by omega)with e|e|e|e;rw[g,Ó Ê,Ó Ê,Ó Ê,Ò Ê,p,e];rw[g,Ó Ê,Ó Ê,Ò Ê,n,e];rw[g,Ó Ê,Ò Ê,o,e];rw[g,Ò Ê,t,e];let C:=i ϑ Ê;let y:=i Ŗf Ê;let G:=i Řf Ê;let v:=i ŗf Ê;rw[g,Ó Ê,Ó Ê,Ó Ê,Ó Ê];show z x r λj f=>i j Ê
nonrec def yh(u:Ð)(k:Ã):È:=match u,k with
 |Â,0 => Űa|Â,_+1 => Ūa|Æ,0 => ŏa|Æ,_+1 => Ŭa
def Vg(u:Ð)(k:Ã):Á D:=[.tup ûj,.tup Ļj,.tup Ϯf,.tup çj]
def pF(s:Å)(u:Ð):Ã->Á D
 |0=>[.tup ďe]|k+1=>pF s u k++Vg u k
theorem Vh(s:Å)(u:Ð):∀k,(pF s u k).length=1+4*k
 |0=>rfl|k+1=>by exact(pF s u k++Vg u k).length=_;rw[í,Vh s u k];rfl
theorem Qu{s:Å}{u:Ð}{k i:Ã}(hi:i<4):∀{m:Ã},k<m->(ϵc).getD (1+4*k+i) .zG=(Vg u k).getD i .zG
 |0,h=>Þ h Łe|m+1,h=>by
  exact(ķg).getD _ _=_;rw[Èa,Èa];by_cases c:k<m;rw[ϊa őg,<-Èa,<-Èa,Qu hi c];let e:k=m:=by omega
  subst e;rw[Ķb őg,Vh]
  congr 2
  omega
theorem h_{s:Å}{u:Ð}:∀m,(ϵc).getD 0 .zG=.tup ďe
 |0=>rfl|m+1=>by exact(ķg).getD _ _=_;rw[Èa,ϊa őg,<-Èa,h_ m]
theorem GT(u:Ð)(k:Ã):yh u k = Űa \/ yh u k = Ūa \/ yh u k = ŏa \/ yh u k = Ŭa:=by
 unfold yh
 split;show .inl rfl;show .inr ą;show .inr şh;show .inr (.inr Ŀa)
theorem i5{s:Å}(b:0<=s)(a:s<65536){u:Ð}:∀{m:Ã},m<=6->∀r∈pF s u m,qP r
 |0,_,r,h=>by cases Üa h;show .BU ą Í Í b a|m+1,hm,r,h=>by
  rcases Ăa h with h|h;show i5 b a Ê r h;rcases Ī h with rfl|h;rw[Áp]
  rcases Ī h with rfl|h;rw[Áp]
  rcases Ī h with rfl|h;show .two ?_ Í Í Í Í;rcases GT u m with h|h|h|h<;>rw[h]<;>simp;cases Üa h;show .mem õl Í Í Í Í Ê Ê
inductive pY(T fw fh:D)(e:Å)(S0:M):Ã->M->Ç
 |S6:pY T fw fh e S0 0 S0
 |S7 {n:Ã} {S S':M}:pY T fw fh e S0 n S->gE [xW T e fw fh S (n:Å) (n:Å)]=À ([xW T e fw fh S' ((n+1:Ã):Å) ((n+1:Ã):Å)],.fz ŉ)->pY T fw fh e S0 ı S'
def y5j{T fw fh:D}{e:Å}{b S:M}{N n:Ã}(R:pY T fw fh e b n S):n<=N->∀r:Ã,pL Zp VQ (n+r) [À (xW T e fw fh b 0 0),À ļd,À ðo]=pL Zp VQ r [À (xW T e fw fh S n n),À ļd,À (.fz Ĭc)]:=by
 induction R with
 |S6=>intro _ r;rw[ϔ];rfl|S7 _ h a=>rename_i n S d _;intro c r;let a:=a Ê (r+1);rw[show n+1+r=n+(r+1) by omega,a,x7j (y5s Ê h) (y5r rfl)];rfl
def y5q{T fw fh:D}{e:Å}{a S:M}{N:Ã}(c:N<=1000)(R:pY T fw fh e a N S):ZW [xW T e fw fh a 0 0,.fz ói]=À ([xW T e fw fh S N N,.fz ói],.fz ói):=by
 let w:Ov Zp VQ [À (xW T e fw fh a 0 0),À ļd,À ðo]=À (.nx [À (xW T e fw fh S N N),À ļd,À ļd]):=z5j (N+1) (by rw[y5j R ċ 1];show x7i (y5w Ê)) (by exact N+1<=100000000;omega)
 let b:∀{s:M}{d0 j0:Å},Ŧb ąg=Ä:=rfl;rw[z1t];unfold Da;simp only[ϭ,b,w]
theorem z58{x:D}{w:È}{r:Á D}(b:zh ό Òf=À ò)(c:zh ό Ôf=À ò)(a:zh ό Ñf=À ò):Wi [x,.tup (.str w::r)]=À (Â,.bl Â):=by rw[z2q];unfold F8;simp only[Ü,z43,b,c,a]
theorem y2h{x:Å}:∃g,vH [.int x,.int 31,.int 1]=À (Â,.int g):={_,Xc (l:=31) (w:=1) Í}
def DP(w:È):Ç:=w = őa \/ w = Ôa \/ w = õa \/ w = Űa \/ w = Ūa \/ w = ŏa \/ w = Ŭa
def y1s{w:È}(h:DP w):zh ό Òf=À ò/\zh ό Ôf=À ò/\zh ό Ñf=À ò:=by rcases h with rfl|rfl|rfl|rfl|rfl|rfl|rfl<;>show{rfl,rfl,rfl}
def JO{T fw fh:D}{e:Å}{a S b:M}{n:Ã}{w:È}{r:Á D}(R:pY T fw fh e a n S)(l:DP w)(j:zh ľg Ėd=À ò)(g:ve Ôj=Æ)(f:(n:Å)≠e)(k:zL T Āc=À Ôj)(ns:∀d,S≠.fz d)(c:Za [S,.fz ľg]=À ([b,.fz ľg],.fz .zG)):pY T fw fh e a ı b:=by let{i,m,h}:=y1s l;show .S7 R ?_;let:=y94 (fw:=fw) (fh:=fh) (done:=(n:Å)) (ld:=Â) (d2:=((n+1:Ã):Å)) f k j g ns c (z58 i m h) rfl;rw[this];rfl
def Fx{A B:Å}{u:Ð}:cr A B u 0=Â:=į λh=>h rfl
def y99{A B:Å}(u:Ð)(k:Ã):Wn [.str Ûf,.int Ùi,.int Ġf,.bl ŏd]=À (Â,.tup [.int Ĕn,.bl ϱl]):=by
 let{g,h}:=Z6 A k;let{f,e}:=Z6 B k;rw[z33];unfold FV;cases u with
 |Â=>
  let{e1,e2}:=sW (A:=A) (B:=B) (u:=Â) rfl k;let a:=oE (x:=wd A k) (y:=wd B k) (p:=cr A B Â k);rw[e1,e2,mN]at a;generalize wd (xS A B Â) k=N at *;cases k with
  |ϙ=>rw[Fx]at a ⊢;let b:zh (.str (yh Â 0)) Őd=À ŉ:=rfl;generalize yh Â 0=o at b a ⊢;generalize cr A B Â (0+1)=C at b a ⊢;generalize wd A 0=x at b a ⊢;generalize wd B 0=y at b a ⊢;simp only[Ü,b,a]|Ϛ k=>have b:zh ůk Őd=À ò:=rfl;let c:zh ůk Óf=À ŉ:=rfl;generalize yh Â Ĝ=o at b c a ⊢;generalize cr A B Â (k+1+1)=C at b c a ⊢;generalize cr A B Â Ĝ=C' at b c a ⊢;generalize wd A Ĝ=x at b c a ⊢;generalize wd B Ĝ=y at b c a ⊢;simp only[Ü,b,c,a]
 |Æ=>
  let{e1,e2}:=sZ (A:=A) (B:=B) (u:=Æ) rfl k;let a:=x0a (p:=cr A B Æ k) g h f e;rw[e1,e2,mN]at a;generalize wd (xS A B Æ) k=N at *;cases k with
  |ϙ=>rw[Fx]at a ⊢;let b:zh ôl Őd=À ò:=rfl;let c:zh ôl Óf=À ò:=rfl;generalize yh Æ 0=o at b c a ⊢;generalize cr A B Æ (0+1)=C at b c a ⊢;generalize wd A 0=x at b c a ⊢;generalize wd B 0=y at b c a ⊢;simp only[Ü,b,c,a]|Ϛ k=>have b:zh Ĳg Őd=À ò:=rfl;let c:zh Ĳg Óf=À ò:=rfl;let d:zh Ĳg Ļn=À ŉ:=rfl;generalize yh Æ Ĝ=o at *;generalize cr A B Æ (k+1+1)=C at *;generalize cr A B Æ Ĝ=C' at *;generalize wd A Ĝ=x at *;generalize wd B Ĝ=y at *;cases C'<;>simp only[Ü,b,c,d,a]
theorem y1z(u:Ð)(k:Ã):DP Ûf/\Tl gO ķn=À ŉ/\Ĳ gO O4 (.inr Ûf)=À gF/\xE ķn śh=À ŉ/\zh ĵn Ėd=À ò:=by rcases GT u k with h|h|h|h<;>rw[h];show{.inr Ēd,rfl,rfl,rfl,rfl};show{.inr Ŋn,rfl,rfl,rfl,rfl};show{.inr (.inr Ŋn),rfl,rfl,rfl,rfl};show{.inr (.inr (.inr õl)),rfl,rfl,rfl,rfl}
nonrec def rg(s v1 a:Å):Á Å:=[0,v1,a,0,0,s,0,0]
section
variable{A B s:Å}{m:Ã}{u:Ð}{T fw fh:D}{S0:M}
def aG(T:D)(s:Å)(u:Ð)(m:Ã):Ç:=∀i:Ã,i<1+4*m->zL T ϗc=À (.tup [(ϵc).getD i .zG,.int ((i+1:Ã):Å),.zG])
def x3q(e:aG T s u m)(I:m<=6)(N:0<=s)(G:s<65000){k:Ã}(hk:k<m){v1 f:Å}{n g:Ð}{ps:Á Ĕ}(M:k4 A B s m u k ps)(R:pY T fw fh ((1+4*m:Ã):Å) S0 Ńi (st (wI (rg s v1 f)) ŏd n g ķ Ŝ)) :∃w1 w2 n' g' ps',k4 A B s m u Ĝ ps'/\pY T fw fh ((1+4*m:Ã):Å) S0 (1+4*Ĝ) (st ël ϱl n' g' (kP ps') (vP ps')):=by
 let{O,S,E,L,z}:=y1z u k
 let Q:zL T (.int ((1+4*k:Ã):Å))=À (.tup [.tup ûj,.int ((1+4*k+1:Ã):Å),.zG]):=by let t:=Qu (s:=s) (u:=u) (i:=0) Í hk;rw[e _ Ê,show(ϵc).getD Ńi .zG=_ from t];rfl
 let r:zL T (.int ((1+4*k+1:Ã):Å))=À (.tup [.tup Ļj,.int ((1+4*k+1+1:Ã):Å),.zG]):=by rw[e _ Ê,Qu (i:=1) Í hk];rfl
 let U:zL T (.int ((1+4*k+1+1:Ã):Å))=À (.tup [.tup Ϯf,.int ((1+4*k+1+1+1:Ã):Å),.zG]):=by rw[e _ Ê,Qu (i:=2) Í hk];rfl
 let y:zL T (.int ((1+4*k+1+1+1:Ã):Å))=À (.tup [.tup çj,.int ((1+4*k+1+1+1+1:Ã):Å),.zG]):=by rw[e _ Ê,Qu (i:=3) Í hk];rfl
 let F:gP ps (Ζ ùm)+gP ps (Ζ øm)*256+gP ps (Ζ öm)*65536+gP ps (Ζ õm)*16777216=wd A k:=by
  rw[show ùm%65536=s+((4*k:Ã):Å) by omega,show øm%65536=s+((4*k+1:Ã):Å) by omega,show öm%65536=s+((4*k+2:Ã):Å) by omega,show õm%65536=s+((4*k+3:Ã):Å) by omega,
   M.a _ Ê,M.a _ Ê,M.a _ Ê,M.a _ Ê,az]
 let q:gP ps (Ζ ñm)+gP ps (Ζ ðm)*256+gP ps (Ζ ïm)*65536+gP ps (Ζ îm)*16777216=wd B k:=by
  rw[show ñm%65536=s+32+((4*k:Ã):Å) by omega,show ðm%65536=s+32+((4*k+1:Ã):Å) by omega,show ïm%65536=s+32+((4*k+2:Ã):Å) by omega,show îm%65536=s+32+((4*k+3:Ã):Å) by omega,
   M.b _ Ê,M.b _ Ê,M.b _ Ê,M.b _ Ê,az]
 let p:=bR (Ws:=rg s v1 f) (a:=cr A B u k) (b:=n) (c:=g) M.P (d:=1) (s:=5) (x:=s) (n:=4*(k:Å)) (by exact 1<8;decide) rfl;rw[F]at p;let K:=JO R şh rfl rfl Ê Q õb (C6 rfl rfl õb p);let o:=bR (Ws:=rg s Ùi f) (a:=cr A B u k) (b:=n) (c:=g) M.P (d:=2) (s:=5) (x:=s) (n:=32+4*(k:Å)) (by exact 2<8;decide) rfl;rw[q]at o;let R2:=JO K şh rfl rfl Ê r õb (C6 rfl rfl õb o);let{g',J}:=y2h (x:=wd ϕ k);let H:=z0m (Ws:=rg s Ùi Ġf) (a:=cr A B u k) (b:=n) (c:=g) (hk:=kP ps) (hv:=vP ps) (k:=yh u k) (d:=1) (s:=2) L rfl rfl (y99 u k) J;let C:=JO R2 O z rfl Ê U õb (bS S E õb rfl rfl H);let j:=z0l (Ws:=rg s Ĕn Ġf) (a:=cr A B u Ĝ) (b:=decide (wd ϕ k=0)) (c:=decide (g'=1)) (ps:=ps) (by let:=M.l;omega) (d:=1) (s:=5) (x:=s) (n:=64+4*(k:Å)) (v:=wd ϕ k) rfl rfl;rw[show(s+Ϻl)%65536=s+64+4*(k:Å) by omega]at j;let w:=JO C Ēd rfl rfl Ê y õb (C6 rfl rfl õb j);show{_,_,_,_,_,M.next I hk N G,w}
theorem lW(e:aG T s u m)(f:m<=6)(g:0<=s)(j:s<65000){ps:Á Ĕ}(M:k4 A B s m u 0 ps)(i:S0=st (wI őe) Â Â Â ķ Ŝ):∀k,k<=m->
  ∃w1 w2 n' g' ps',k4 A B s m u k ps'/\pY T fw fh ((1+4*m:Ã):Å) S0 Ńi (st ël ŏd n' g' (kP ps') (vP ps'))
 |0,_=>by
  let r:zL T (.int ((0:Ã):Å))=À (.tup [.tup ďe,.int ((0+1:Ã):Å),.zG]):=by rw[e 0 Ê,h_]
  let p:=z0k (Ws:=őe) (a:=Â) (b:=Â) (c:=Â) (hk:=kP ps) (hv:=vP ps) (d:=5) (n:=s) (by exact 5<8;decide)
  let l:pY T fw fh ((1+4*m:Ã):Å) S0 0 (st (wI őe) Â Â Â ķ Ŝ):=by rw[i];show .S6
  let q:=JO l ą rfl rfl Ê r õb (bS rfl rfl õb rfl rfl p);show{0,0,Â,Â,ps,M,?_};rw[Fx];show q
 |k+1,h=>by let{_,_,_,_,_,o,R}:=lW e f g j M i k Ê;show x3q e f g j Ê o R
#print a
def CU{n:Å}(b:0<=n)(c:n<65536):pS [.str "n",.str ĩa]=À (Â,.int n):=by
 let{a,_,_}:=XZ b Ê;let e:zh ęa ęa=À ŉ:=by rfl
 rw[cN];unfold Ie;simp only[Ü,e,a]
theorem Zy{f:È}{n:Å}(c:f = "d" \/ f = "s")(e:0<=n)(h:n<8):pS [.str f,.str âk]=À (Â,.int n):=by
 let{a,_,_}:=XZ e Ê
 let st:To ĸn Ľn=À ŉ:=by exact À (ıb (ńe ŵk {#[114]}))=_;rw[lD,h7];rfl
 let d:XA ĸn ùa Ä=À Ūd:=by exact À (ϐ (Ľf ŵk ùa Ä))=_;rw[y5e]
 let b:zh (.str f) ęa=À ò:=by rcases c with rfl|rfl<;>rfl
 rw[cN];unfold Ie;generalize ("r" : È)++yD n=Z at *;rcases c with rfl|rfl;let e2:zh Ŗa Ŗa=À ŉ:=by rfl
 simp only[Ü,b,e2,jl,tL,tK,st,d,a];let e2:zh Êb Ŗa=À ò:=by rfl
 let g:zh Êb Êb=À ŉ:=by rfl
 simp only[Ü,b,e2,g,jl,tL,tK,st,d,a]
theorem JN{w f1 f2 b a:È}{d1 d2:D}(k:zh ό Ħe=À ò)(d:X9 tu ό=À ò)(p:xY tu kJ ό=À ın)(i:pS Đl=À (Â,d1))(m:pS ďl=À (Â,d2))(hi:Zb łh=À (Â,.bl Æ)) :gx ņh=À (Â,.tup âc):=by
 let o:XA Ńn ùa Ä=À (.lst [.str b,.str a]):=by rfl
 let f:=TU (L:=ϧb) (M:=[d1,d2]) (by exact 1+2<=_;omega);rw[show[ϐ w]++[d1,d2]=âc from rfl]at f;let e:zL Ńn Ń=À ό:=rfl;let c:xq ņh=À Ňa:=rfl;let l:xq õn=À Ŕb:=rfl;let j:gQ [.lst âc]=À ŗh:=rfl;let n:xE ĸe Ùk=À ò:=rfl;let h:zh ĸe ča=À ò:=rfl
 let g:Wm ņh=À (Â,.tup âc):=by rw[cS];unfold Il;simp only[Ü,e,k,d,p,c,l,n,ŋa,um,jl,tL,tK,o,jJ,ůb,űb,Pc,yc,yl,xh,i,m,f,j]
 rw[cQ];unfold Ii;generalize Įa âc=TT at g c h e hi ⊢;simp only[Ü,g,c,h,e,hi]
theorem lR{w f1 f2 f3 b a c:È}{d1 d2 d3:D}(m:zh ό Ħe=À ò)(e:X9 tu ό=À ò)(r:xY tu kJ ό=À Ĵn)(j:pS Đl=À (Â,d1))(o:pS ďl=À (Â,d2))(l:pS [.str f3,.str c]=À (Â,d3))(hi:Zb Ńh=À (Â,.bl Æ)) :gx Ňh=À (Â,.tup Ùc):=by
 let q:XA ńn ùa Ä=À (.lst [.str b,.str a,.str c]):=by rfl
 let g:=TU (L:=ϧb) (M:=[d1,d2,d3]) (by exact 1+3<=_;omega);rw[show[ϐ w]++[d1,d2,d3]=Ùc from rfl]at g;let f:zL ńn Ń=À ό:=rfl;let d:xq Ňh=À ĭf:=rfl;let n:xq ön=À Ňa:=rfl;let k:gQ [.lst Ùc]=À Řh:=rfl;let p:xE ķe Øk=À ò:=rfl;let i:zh ķe ča=À ò:=rfl
 let h:Wm Ňh=À (Â,.tup Ùc):=by rw[cS];unfold Il;simp only[Ü,f,m,e,r,d,n,p,ŋa,um,jl,tL,tK,q,jJ,ůb,űb,Pc,yc,yl,xh,j,o,l,g,k]
 rw[cQ];unfold Ii;generalize Įa Ùc=TT at h d i f hi ⊢;simp only[Ü,h,d,i,f,hi]
theorem XD{w f:È}{x:Å}(c:f = "d" \/ f = "s")(x0:0<=x)(x1:x<8):jf [.str w,.str f,.int x]=À (Â,.bl Æ):=by
 let n:=Oe (i:=x) (w:=3) Í;rw[ĉ x0,ĉ (show x<2 ^ 3 by exact x<8;show x1)]at n;let n:pT [.int x,.int 3]=À (Â,.bl Æ):=n;rw[cO];unfold Ig;rcases c with rfl|rfl;let e:zh Ŗa òc=À ò:=by rfl
 let e2:zh Ŗa Řa=À ò:=by rfl
 let a:zh Ŗa ęa=À ò:=by rfl
 let g:xY uk ul Ŗa=À Ķn:=by rfl
 let b:zL Ķn ča=À Ňa:=rfl;simp only[Ü,e,e2,a,g,b,n];let e:zh Êb òc=À ò:=by rfl
 let e2:zh Êb Řa=À ò:=by rfl
 let a:zh Êb ęa=À ò:=by rfl
 let g:xY uk ul Êb=À ĳn:=by rfl
 let b:zL ĳn ča=À Ňa:=rfl;simp only[Ü,e,e2,a,g,b,n]
theorem CS{w:È}{x:Å}{W:Ã}(c:W<=64)(b:xY T_ Q2 ό=À (.int (W:Å)))(x0:0<=x)(x1:x<2 ^ W):jf [.str w,.str "n",.int x]=À (Â,.bl Æ):=by
 let n:=Oe (i:=x) (w:=W) c;rw[ĉ x0,ĉ x1]at n;let n:pT [.int x,.int (W:Å)]=À (Â,.bl Æ):=n;let e:zh ęa òc=À ò:=by rfl
 let e2:zh ęa Řa=À ò:=by rfl
 let a:zh ęa ęa=À ŉ:=by rfl
 rw[cO];unfold Ig;simp only[Ü,e,e2,a,b,n]
theorem QP{w f1 f2:È}{d1 d2:D}(a:X9 tu ό=À ò)(k:xY tu kJ ό=À ın)(e:jf ŗk=À (Â,.bl Æ))(f:jf Ŗk=À (Â,.bl Æ)):Zb łh=À (Â,.bl Æ):=by
 let j:XA ŗh ùa Ä=À Ám:=by rfl
 let b:XB ŗh ùa Ä=À Ám:=by rfl
 let d:xq łh=À Ňa:=rfl;let g:xq õn=À Ŕb:=rfl;let c:zh ĸe Ń=À ò:=rfl;let i:xE ĸe Ùk=À ò:=rfl;let h:kD [.lst [.bl Æ,.bl Æ]]=À ŉ:=rfl;rw[cP];unfold Ih;simp only[Ü,d,c,XS,a,k,g,i,ŋa,um,jl,Zt,tL,tK,j,b,jJ,ůb,űb,PY,yc,yl,xh,e,f,h]
theorem cx{w f1 f2 f3:È}{d1 d2 d3:D}(a:X9 tu ό=À ò)(l:xY tu kJ ό=À Ĵn)(e:jf ŗk=À (Â,.bl Æ))(f:jf Ŗk=À (Â,.bl Æ))(i:jf [.str w,.str f3,d3]=À (Â,.bl Æ)):Zb Ńh=À (Â,.bl Æ):=by
 let k:XA Řh ùa Ä=À òl:=by rfl
 let b:XB Řh ùa Ä=À òl:=by rfl
 let d:xq Ńh=À ĭf:=rfl;let g:xq ön=À Ňa:=rfl;let c:zh ķe Ń=À ò:=rfl;let j:xE ķe Øk=À ò:=rfl;let h:kD [.lst [.bl Æ,.bl Æ,.bl Æ]]=À ŉ:=rfl;rw[cP];unfold Ih;simp only[Ü,d,c,XS,a,l,g,j,ŋa,um,jl,Zt,tL,tK,k,b,jJ,ůb,űb,PY,yc,yl,xh,e,f,i,h]
structure RT(z:È)(d:D):Ç where
 nl:10 ∉ Ėa
 len:ĕ<=40
 ne:W Ėa≠[]
 told:gx [.lst Ũg]=À (Â,d)
def gg{w:Á Ã}(h:w≠[])(c:(w.all λa=>decide (a≠32)&&(decide (a≠9)&&(decide (a≠59)&&decide (a≠10))))=Æ):Wd w:={h,λa b=>by let:=ϐa c a b;rw[ċo]}
def Xj{z:È}{d:D}{ws:Á È}{l:Á Ã}(e:Ėa=l)(f:ws≠[])(a:W l=ws.map λw:È=>Ĝm)(h:10 ∉ l)(g:ġc<=40)(b:gx [.lst (ws.map ϐ)]=À (Â,d)):RT z d:=by refine{by rw[e];show h,by rw[<-Y5,e];show g,?_,?_};rw[e,a];intro c;show f (List.map_eq_nil_iff.mp c);rw[e,a,Èb,show(sD∘λw:È=>Ĝm)=ϐ from funext λw=>i7 w];show b
def Gz:("r" : È)++yD 1 = ŋc:=by rfl
def fR:("r" : È)++yD 2 = "r2":=by rfl
def G_:("r" : È)++yD 5 = "r5":=by rfl
def V_:Wd [114,49]:=gg ï rfl
def JV:Wd [114,50]:=gg ï rfl
def PN:Wd [114,53]:=gg ï rfl
def HQ{s:Å}(d:0<=s)(g:s<65536):RT ųk (.tup ďe):=by
 let{_,b,c}:=XZ d Ê;let i:=Zy (f := "d") (n:=5) ą Í Í;rw[G_]at i;let j:=QP (w := őa) (f1 := "d") (f2 := "n") (d1:=.int 5) (d2:=.int s) rfl rfl Ĥl (CS (W:=16) Í rfl d g)
 let e:(ųk).cps.toList=[115,101,116]++32::(Χc (yD s)):=by rw[j3,ŷ];rfl
 rw[<-Y5]at b;refine Xj (ws:=[őa,"r5",yD s]) e ï ?_ ?_ ?_ (JN rfl rfl rfl i (CU d g) j);rw[tD öh ą,tD PN ą,X2 c ą];rfl;intro h;let:=λa=>c.ok 10 a
 simp at h this;show this h;rw[ūo]
def i6{n:Å}(g:0<=n)(s:n<256){r:È}{x:Å}(q:(r = ŋc/\x=1)\/(r = "r2"/\x=2)):RT đj (.tup [.str Ôa,.int x,.int 5,.int n]):=by
 let{_,b,c}:=XZ g Ê;let l:=Zy (f := "s") (n:=5) Ŀa Í Í;rw[G_]at l
 obtain⟨m,p,o,i,u⟩:pS [.str "d",.str r]=À (Â,.int x)/\0<=x/\x<8/\Wd äh/\r.cps.toList.length=2:=by rcases q with⟨rfl,rfl⟩|⟨rfl,rfl⟩;let d:=Zy (f := "d") (n:=1) ą Í Í;rw[Gz]at d;show{d,by decide,by decide,V_,rfl};let d:=Zy (f := "d") (n:=2) ą Í Í;rw[fR]at d;show{d,by decide,by decide,JV,rfl}
 let t:=cx (w := Ôa) (f1 := "d") (f2 := "s") (f3 := "n") (d1:=.int x) (d2:=.int 5) (d3:=.int n) rfl rfl (XD ą p o) ģl (CS (W:=8) Í rfl g s)
 let e:(đj).cps.toList=[108,111,97,100,119]++32::(äh++32::ϣm):=by rw[j3,j3,j3,ŷ];exact[108,111,97,100,119,32]++äh++[32,114,53,32]++(ĩa).cps.toList=_;simp
 rw[<-Y5]at b;refine Xj (ws:=[Ôa,r, "r5",yD n]) e ï ?_ ?_ ?_ (lR rfl rfl rfl m l (CU g Ê) t);rw[tD öh ą,tD i ą,tD PN ą,X2 c ą];rfl;intro h;let j:=λa=>c.ok 10 a
 let k:=λa=>i.ok 10 a
 simp at h j k;rcases h with h|h;show k h;show j h;rw[ūo]
def y5p{n:Å}(d:0<=n)(k:n<256):RT Ŵk (.tup [.str õa,.int 1,.int 5,.int n]):=by
 let{_,b,c}:=XZ d Ê;let j:=Zy (f := "s") (n:=5) Ŀa Í Í;rw[G_]at j;let i:=Zy (f := "d") (n:=1) ą Í Í;rw[Gz]at i;let l:=cx (w := õa) (f1 := "d") (f2 := "s") (f3 := "n") (d1:=.int 1) (d2:=.int 5) (d3:=.int n) rfl rfl Ĥl ģl (CS (W:=8) Í rfl d k)
 let e:(Ŵk).cps.toList=[115,116,111,114,101,119]++32::([114,49]++32::ϣm):=by rw[j3,ŷ];rfl
 rw[<-Y5]at b;refine Xj (ws:=[õa,ŋc,"r5",yD n]) e ï ?_ ?_ ?_ (lR rfl rfl rfl i j (CU d Ê) l);rw[tD öh ą,tD V_ ą,tD PN ą,X2 c ą];rfl;intro h;let g:=λa=>c.ok 10 a
 simp at h g;show g h;rw[ūo]
def y5o(u:Ð)(k:Ã):RT (yh u k ++ Çf) ĵn:=by let a:=Zy (f := "s") (n:=2) Ŀa Í Í;rw[fR]at a;let d:=Zy (f := "d") (n:=1) ą Í Í;rw[Gz]at d;let c:=XD (w:=yh u k) (f := "d") (x:=1) ą Í Í;let b:=XD (w:=yh u k) (f := "s") (x:=2) Ŀa Í Í;rcases GT u k with h|h|h|h<;>rw[h]at c b ⊢;show Xj (l:=[97,100,100]++32::Će) (ws:=[Űa,ŋc,"r2"]) rfl ï ðe Í Í ùe;show Xj (l:=[97,100,100,99]++32::Će) (ws:=[Ūa,ŋc,"r2"]) rfl ï ðe Í Í ùe;show Xj (l:=[115,117,98]++32::Će) (ws:=[ŏa,ŋc,"r2"]) rfl ï ðe Í Í ùe;show Xj (l:=[115,117,98,99]++32::Će) (ws:=[Ŭa,ŋc,"r2"]) rfl ï ðe Í Í ùe
def JP(u:Ð)(k:Ã):Á È:=[(űc : È)++yD (4*(k:Å)),(Ĺd : È)++yD ϣf,yh u k ++ Çf,(åc : È)++yD Ϻl]
def wl(s:Å)(u:Ð):Ã->Á È
 |0=>[(şd : È)++yD s]|k+1=>wl s u k++JP u k
theorem MD(s:Å)(u:Ð):∀k,(wl s u k).length=1+4*k
 |0=>rfl|k+1=>by exact(wl s u k++JP u k).length=_;rw[í,MD s u k];rfl
def Qv{z:È}{d:D}(h:RT z d){ps:Á Ŏb}{a:Á D}(t:vv ps a):vv (Ėa::ps) ϊi:=.IA h.ne h.told t
theorem lZ{s:Å}(a:0<=s)(b:s<65536){u:Ð}:∀{m:Ã},m<=6->vv ((üc).map λt:È=>Çb) ϵc/\∀t∈wl s u m,10 ∉ Çb/\čf<=40
 |0,_=>{Qv êi .nil,λt h=>by cases Üa h;show{(êi).nl,(êi).len}}|m+1,hm=>by
  let{g,i}:=lZ a b (u:=u) (m:=m) Ê;let d:RT ((űc : È)++yD Ϯc) (.tup [.str Ôa,.int 1,.int 5,.int Ϯc]):=i6 (n:=4*(m:Å)) Ê Ê (.inl {rfl,rfl});let e:RT ((Ĺd : È)++yD ϻl) (.tup [.str Ôa,.int 2,.int 5,.int ϻl]):=i6 (n:=32+4*(m:Å)) Ê Ê (.inr {rfl,rfl});let c:=y5o u m;let f:RT ((åc : È)++yD Ϲl) (.tup [.str õa,.int 1,.int 5,.int Ϲl]):=y5p Ê Ê;show{?_,λt h=>?_};exact vv ((wl s u m++JP u m).map _) ķg;rw[Ía];show g.app (Qv d (Qv e (Qv c (Qv f .nil))));rcases Ăa h with h|h;show i t h
  rcases Ī h with rfl|h;show{d.nl,d.len}
  rcases Ī h with rfl|h;show{e.nl,ϊf}
  rcases Ī h with rfl|h;show{c.nl,c.len};cases Üa h;show{f.nl,f.len}
theorem lL:∀{ts:Á È},(∀t∈ts,čf<=40)->(Ϧb (·.length)).sum<=40*ãf
 | [],_=>Ĉa _|t::ts,h=>by
  let b:=lL λt a=>h t Âd
  let:=h t ī;rw[Ň,Že,Ď];omega
def x0e{s:Å}(i:0<=s)(f:s<65536){u:Ð}{m:Ã}(e:m<=6):∃T J:È,OB ĥe (.lst ķd)=À (.str J)/\yf (.str J) ĥe=À (.str T)/\ģc<=100000/\vv Ĵe ϵc:=by
 let{g,c}:=lZ i f (u:=u) e;let l:=lL λt a=>(c t a).2
 let d:=MD s u m;let j:=L2.glued_len ({#[10]}:È) üc;let b:({#[10]}:È).length=1:=rfl;rw[b]at j;let jn:=z4b (sep:=({#[10]}:È)) (ts:=wl s u m) (by rw[b];omega);refine{Ïl {#[10]} üc++{#[10]},_,jn,Ĵc (by rw[show(("\n" : È)).length=1 from rfl];omega),by rw[QV,b];omega,?_}
 let k:(üc).map (λt:È=>Çb)≠[]:=λz=>by let:=ŕ Ϗb z;rw[ì,d]at this;let this:1+4*m=0:=this;omega
 rw[j3,StrLaws.glued_eq_join,Oh,show(({#[10]}:È)).cps.toList=10::[]from rfl,Ll,Nb k λp h=>by let{t,a,rfl}:=ëa h;show(c t a).1]
 let:=g.app (vv.IB oB vv.nil);rw[ŷ]at this;rw[đo]
def LH{d:D}(h:qP d):TC d:=by let{w,a,b,c,_,_}:=y40 h;let b:vw ό OO=À ò:=b;show{?_,?_};rw[z2j];unfold F0;simp only[Ü,a,c];rw[z2i];unfold D_;simp only[Ü,a,b]
theorem eU{d:D}(h:qP d):∃xs,d=.tup xs:=by cases h<;>show{_,rfl}
def z59{a R:Á D}(h:∀d∈a,qP d)(E:jd IN a R):Ut [.lst R]=À (Â,.zG):=by
 let j:∀{r:D},r∈R->∃(k:Ã) (f:Á D),r=.tup [.int (k:Å),.tup f]/\TC (.tup f):=λ{r} q=>by let{d,n,k,rfl}:=bY E r q;let p:=LH (h d n);let{f,rfl}:=eU (h d n);show{k,f,rfl,p}
 let{σ',e1,e,c,rfl}:=pB (g:=xh 2 3) (b:=G8) (λi σ=>∃e c,σ=[À (Â,.lst R),À (Æ,.dic [] []),e,c,Ä]) (ds:=R)
  (σ:=[À (Â,.lst R),À (Æ,.dic [] []),Ä,Ä,Ä]) 0 {Ä,Ä,rfl} (by
  rw[ło];show{_,[À (Â,.lst R),À (Æ,.dic [] []),À (Â,.int (k:Å)),À (Â,.tup f),Ä],rfl,.inl ?_,_,_,rfl};unfold G8;simp only[Ü,m])
 let{σ',e2,s,t,rfl}:=pB (g:=xh 2 3) (b:=G9) (λi σ=>∃e c,σ=Ϭi) (ds:=R)
  (σ:=Ϭi) 0 {e,c,rfl} (by
  rw[ło];show{_,[À (Â,.lst R),À (Â,.dic [] []),À (Â,.int (k:Å)),À (Â,.tup f),À (Æ,.dic [] [])],rfl,.inl ?_,_,_,rfl};unfold G9;simp only[Ü,m,o])
 rw[z2r];unfold F9;rw[Ńo]
theorem bW{R:D->D->Ç}{g:FG}{e:FE}{σ:yK}(h:∀r y,R r y->∃σ1,g y σ=À σ1/\e σ1=À r):∀{rs ys:Á D},jd R rs ys->yc g yl e σ ys=À rs
 |_,_,.nil=>rfl|r::rs,y::ys,.cons x xs=>by let{σ1,e1,e2}:=h r y x;exact(g y σ).bind _=_;rw[e1];exact(œf).bind _=_;rw[e2];exact(yc g yl e σ ys).bind _=_;rw[bW h xs];rfl
def y5k{a:Á D}(h:∀d∈a,qP d)(f:Ũa<=100){T:È}(c:ģc<=100000)(e:vv Ĵe a):Uw Îi=À (Æ,.lst a):=by
 let{R,e1,E}:=x3d c Ê e;let e2:=z59 h E
 let b:yc ϫb yl mW [À (Â,.str T),À (Â,.lst R),À (Â,.zG),Ä,Ä] R=À a:=bW (R:=IN) (λd r h=>by let{k,rfl}:=h;show{_,rfl,rfl}) E
 rw[z30];unfold FP;simp only[Ü,e1,e2,b]
nonrec def vJ(n:Ã):Á D:=Ŷ n .zG
def dm{n i:Ã}(h:i<n):zL (Ε (vJ n)) ϗc=À .zG:=IY (ĵb i) (by rw[ϧ];unfold vJ;rw[ög,Ò h])
section
variable{ż:Á D}(h:∀d∈ż,qP d)(hl:Ûa<=100)
include h
theorem x0c:Yt Ņh=À (Æ,.lst ťa):=by
 let:=x0b λr a=>LH (h r a)
 rw[this,Ļl];rfl
include hl
theorem oG:∃L:Á D,Uh ĩg=À (Æ,.lst L):=by
 let q:=HP λr l=>LH (h r l)
 let s:yc (yF 6) yl mS [À (Â,.lst ż),À (Â,.lst []),Ä,Ä,Ä,Ä,Ä] []=À []:=rfl;let m:Zu Żn=À îc:=rfl
 let k:∀{a e f:É Sl},HG [À (Â,.lst ż),À (Â,.lst []),À (Â,.dic [] []),a,e,f]=À Ĩc:=λ{a e f}=>by unfold HG;show ku (n:=(Ûa:Å)) Ėk Ê
 let{σ',e1,L,a,v,j,rfl}:=pB (g:=yF 3) (b:=Ex) (λi σ=>∃(L:Á D) (a:É Sl) (v:Å),ěb<=i/\σ=[À (Â,.lst ż),À (Â,.lst []),À (Â,.dic [] []),a,À (Æ,.lst L),À (Â,.int v)])
  (ds:=wE Ûa) (σ:=[À (Â,.lst ż),À (Â,.lst []),À (Â,.dic [] []),Ä,À (Æ,.lst []),À (Â,.int 0)]) 0 {[],Ä,0,ïa _,rfl} (by
  rintro i d σ o ⟨L,a,v,j,rfl⟩;let{t,rfl}:=Vw o;let p:vw ϗc îc=À ò:=rfl;let c:=k7 (L:=L) (r:=.int v) Ê;show{_,[À (Â,.lst ż),À (Â,.lst []),À (Â,.dic [] []),À (Â,.int (i:Å)),À (Æ,.lst (L++[.int v])),À (Â,.int (v+1))],rfl,.inl ?_,L++[.int v],_,v+1,by rw[í];exact _+1<=_;omega,rfl};unfold Ex;simp only[Ü,c,p])
 let c:=k7 (L:=L) (r:=.int v) (by rw[JS]at j;omega);show{L++[.int v],?_};rw[z22];unfold Dk;simp only[Ü,s,m,k,e1,c]
theorem bP:We ĩg=À (Æ,.lst ťa):=by
 let{L,f}:=oG h hl
 let c:gU ϯm [À (Â,.lst ż),À (Â,.lst []),À (Â,.lst L)]=À ϛh:=by unfold gU;simp only[Ü,x0c h]
 let a:yc ϫb yl PX [À (Â,.lst ż),À (Â,.lst []),À (Â,.lst L),Ä,Ä] ϛh=À ((ϛh).map λ_=>.zG):=VS ăn λd e=>by
  let{i,b}:=List.getElem?_of_mem e;rw[L7]at b;cases z:ťa[i]? with
  |Ä=>rw[z]at b;cases b|À y=>rw[z]at b;cases b;let:y=.zG:=(List.mem_replicate.mp (Ϗa z)).2;subst this;show{_,rfl,?_};unfold PX;simp only[Ü]
 rw[Ļl,VZ]at a;rw[show(ťa).length=Ûa from ðb]at a;rw[z29];unfold Dr;generalize Ϟa ťa=NN at *;let a:_=À ťa:=a;simp only[Ü,f,c,a]
theorem y5i:Wj ĩg=À (Æ,.lst []):=by
 let f:=bP h hl;let j:∀{σ:yK},yc àb yl mT σ []=À []:=rfl;let e:Zu Żn=À îc:=rfl
 let c:∀{k m:É Sl},HK [À (Â,.lst ż),À (Â,.lst []),À (Â,.lst ťa),k,m]=À Ĩc:=λ{k m}=>by
  unfold HK
  show ku (n:=(Ûa:Å)) (by let:(ťa).length=Ûa:=ðb;simp only[Ü,this]) Ê
 let b:yc àb Pg mU [À (Â,.lst ż),À (Â,.lst []),À (Â,.lst ťa),À (Â,.dic [] []),Ä,Ä] Ĩc=À (((Ĩc).filter λ_=>Æ).map id):=VR ōh id λd g=>by let{i,_,rfl}:=ly g;let p:V7 ϗc îc=À ŉ:=rfl;show{_,rfl,?_,λ_=>rfl};unfold Pg;simp only[Ü,p]
 rw[øg Ōd,ϭe]at b;let l:IE [.zG]=À (Â,.bl Æ):=rfl
 let a:yc àb Ph mV [À (Â,.lst ż),À (Â,.lst []),À (Â,.lst ťa),À (Â,.dic [] []),À (Â,.lst Ĩc),Ä] Ĩc=À (((Ĩc).filter λ_=>Â).map id):=VR ān id λd g=>by let{i,q,rfl}:=ly g;let o:=dm q;show{_,rfl,?_,λz=>by cases z};unfold Ph;generalize vJ Ûa=NN at o l ⊢;simp only[Ü,o,l]
 rw[List.filter_eq_nil_iff.mpr (λ_ _=>by decide)]at a;let a:_=À []:=a;rw[z2u];unfold FD;generalize vJ Ûa=NN at f j e c b a ⊢;generalize wE Ûa=UU at f j e c b a ⊢;simp only[Ü,f,j,e,c,b,a]
theorem z13:Uo Ņh=À (Â,.lst []):=by
 let a:=y5i h hl;let b:xE Æd Æd=À ò:=rfl
 let w:Qy Fq dE Ϲi=À (.nx Ϲi):=i9 1 (mP (by unfold Fq;simp only[Ü,b]))
 rw[z2e];unfold Dw;simp only[Ü,a,w]
def uq(r:D):Å:=match Wq [r]with
 |À (_,.int v)=>v|_=>0
omit h hl in
theorem eS{r:D}(h:qP r):Wv r Đi:=by
 let{v,w}:=y41 h
 let:uq r=v:=by unfold uq;rw[w.w]
 rw[this];show w
theorem x7o:T4 Ņh=À (Æ,.lst Ąd):=by
 let e:=z13 h hl;let ds:=bP h hl;let o:=HP λr n=>LH (h r n)
 let f:gU ěh Ϛi=À (Ϟa ż):=by unfold gU;simp only[Ü,o]
 let{σ',c,l,m,rfl}:=pB (g:=xh 4 5) (b:=GC) (λi σ=>∃l m,σ=[À (Â,.lst ż),À (Â,.lst []),À (Â,.lst ťa),À (Æ,.lst (ιd (Íh))),l,m]) (ds:=Ϟa ż)
  (σ:=Ϛi) 0 {Ä,Ä,rfl} (by
  rintro i v σ a ⟨l,m,rfl⟩;rw[ϔ]at *;rw[L7]at a
  let j:i<Ûa:=by
   cases z:ż[i]? with
   |Ä=>rw[z]at a;cases a|À y=>show(Ŭ z).1
  rw[ĳ j]at a;cases a;let w:=(eS (h _ (ŷb j))).w;let d:=dm j;let k:=k7 (L:=(Íh).map λr=>Ş Đi) (r:=.int Än) (by rw[ì,ąa];omega);show{_,[À (Â,.lst ż),À (Â,.lst []),À (Â,.lst ťa),À (Æ,.lst (ιd (rows.take ù))),À (Â,.int (i:Å)),À (Â,ż[i])],rfl,.inl ?_,_,_,rfl};rw[þe j,Ía,List.map_singleton];unfold GC;generalize (Íh).map Ŏg=LL at d w k ⊢;generalize vJ Ûa=NN at d w k ⊢;generalize uq ż[i]=PV at d w k ⊢;simp only[Ü,d,w,k])
 rw[VZ,ϔ,ħd]at c;rw[z3f];unfold Fh;generalize rows.map Ŏg=LL at e ds f c ⊢;generalize Ϟa ż=NN at e ds f c ⊢;generalize vJ Ûa=NN at e ds f c ⊢;simp only[Ü,e,ds,f,c]
theorem x0d:Tb Ąd Ûa (λi=>(i:Å)) (λi=>ŭd i .zG) Ţa:=by
 refine{λi _=>by exact(i:Å)<((i+1:Ã):Å);omega,rfl,by rw[ì],λi d=>?_,x3b (.inr (by rw[ì];rw[žo])),λi p _ z=>(by cases z),by omega};let f:=h _ (ŷb d);let w:=eS f;let{n,l,k}:=w.c
 let m:ŭd i .zG=ż[i]:=by rw[Èa,ĳ d];rfl
 let A:At Ąd (i:Å) Än:={by omega,by rw[ì];omega,IY (ĵb i) (by rw[ϧ,ſ,ĳ d];rfl),w.v0,w.v1};let b:=bC w.v0 w.v1;rw[k]at b;let j:=z11 (n:=n) Ê;rw[į (show ¬ 21<=n by omega),ϕc]at j;rw[ľo];let e:=w.r;rw[m];let{o,g}:=eU f;rw[g]at e ⊢;rw[g]at A b;show x3c A b j a e
omit h hl in
theorem Nw{ds:Á D}(h:∀d∈ds,ve d=Æ):Øa ds=Æ:=by
 induction ds with
 |nil=>rfl|ā d ds ih=>exact Ϡg=Æ;rw[h d ī,ih λd a=>h d Âd];rfl
theorem x08:∃ks vs,Zh [.lst Ąd]=À (Â,.dic ks vs)/\Øa vs=Æ/\∀i:Ã,i<Ûa->zL Ċc ϗc=À (.tup [ŭd i .zG,.int ((i+1:Ã):Å),.zG]):=by
 let T:=x0d h hl;show{_,_,x09 T,?_,λi a=>?_};show Nw λd f=>?_
 let{i,a,rfl}:=ëa f;let a:=ûb a
 let g:ŭd i .zG=ż[i]:=by rw[Èa,ĳ a];rfl
 exact(ve (ŭd i .zG)&&Æ)=Æ;rw[g];let c:=h _ (ŷb a);generalize ż[i]=r at c;cases c<;>rfl;show cI (λi j a b e=>by let e:(i:Å)=(j:Å):=e;omega) a _ (Āa Ûa) (Ŵc a) λj b=>ϯ (ûb b)
theorem oU{T:È}(a:ģc<=100000)(b:vv Ĵe ż):Wa Îi=À (Æ,.lst Ąd):=by let e1:=y5k h hl a b;let e2:=x7o h hl;rw[z23];unfold Dl;generalize rows.map Ŏg=LL at e1 e2 ⊢;rw[Ńo]
#print a
def cU{ns:Á Å}(u:ś<=63)(t:∀m∈ns,wz m<=1048576){f:Å}(B:0<=f)(f1:f<50){m:Ã}(x:m<=6):∃A:Å,(0<=A/\A<rm m)/\Ze [.lst Ϩ,.int f,.int (m:Å)]=À (Â,.int A):=by
 let p:tJ 4294967296=Æ/\tJ 2=Æ:={by decide,by decide}
 let j:∀{o a c:É Sl},HJ [À (Â,.lst Ϩ),À (Â,.int f),À (Â,.int (m:Å)),o,a,c]=À Öe:=λ{o a c}=>by unfold HJ;rw[Ŭo]
 let{σ',e1,A,a,c,h,rfl}:=pB (g:=yF 4) (b:=G7) (λi σ=>∃(A:Å) (a c:É Sl),(0<=A/\A<rm i)/\σ=[À (Â,.lst Ϩ),À (Â,.int f),À (Â,.int (m:Å)),À (Â,.int A),a,c])
  (ds:=wE m) (σ:=[À (Â,.lst Ϩ),À (Â,.int f),À (Â,.int (m:Å)),À (Â,.int 0),Ä,Ä]) 0 {0,Ä,Ä,{ða _,by exact(0:Å)<1;decide},rfl} (by
  rintro i d σ s ⟨A,a,c,h,rfl⟩;rw[ϔ]at *;let{E,rfl}:=Vw s;let{e,z,C,q}:=GI u t (k:=f+(i:Å)) Ê Ê;let{_,r,v,rfl,F,y}:=z47 (P:=λd=>∃w:Å,d=.int w/\0<=w/\w<4294967296) e (n:=5) (l:=[.int (e*2%4294967296),.int (e%3),.int 4294967295,.int 0,.int (e/4%65536)]) rfl Í (TX {_,rfl,by omega,by omega} (TX {_,rfl,by omega,by omega} (TX {_,rfl,by omega,by omega} (TX {_,rfl,by omega,by omega} (TX {_,rfl,by omega,by omega} oN)))));show{_,[À (Â,.lst Ϩ),À (Â,.int f),À (Â,.int (m:Å)),À (Â,.int (A*4294967296+v)),À (Â,.int (i:Å)),À (Â,.int e)],rfl,.inl ?_,A*4294967296+v,_,_,?_,rfl}
  .unfold G7;generalize Īa Ş=NS at p q r ⊢;simp only[Ü,p,ŋa,q,r,ċb]
  .exact 0<=A*4294967296+v/\A*4294967296+v<rm i*4294967296;omega)
 rw[ϔ,JS]at h;show{A,h,?_};rw[z2o];unfold F6;generalize Īa Ş=NS at j e1 ⊢;simp only[Ü,j,e1]
def xo(N:Å)(n:Ã):Á D:=(Şb).map λj=>.int āh
def av{N:Å}{n j:Ã}(h:j<n):zL (Ε (xo N n)) Åm=À (Δ āh):=IY (ĵb j) (by unfold xo;rw[ϧ,ſ,ĥg h];rfl)
def b7{N:Å}{m:Ã}(p:m<=6):Yp [.int N,.int (m:Å)]=À (Æ,.lst ϴc):=by
 let k:tJ 4=Æ:=by decide
 let j:∀{e a:É Sl},HI Þj=À Ϡd:=λ{e a}=>by unfold HI;let:=ku (f:=e2 tH øb þ) (τ:=Þj) (n:=4*(m:Å)) (by simp only[Ü,k]) Ê;rw[this,show(Ϯc).toNat=4*m by omega]
 let{σ',e1,a,rfl}:=pB (g:=yF 3) (b:=E_) (λi σ=>∃(a:É Sl),σ=[À (Â,.int (sh N i)),À (Â,.int (m:Å)),À (Æ,.lst (xo N i)),a])
  (ds:=wE ŋ) (σ:=[À (Â,.int N),À (Â,.int (m:Å)),À (Æ,.lst []),Ä]) 0 {Ä,rfl} (by
  rintro i d σ l ⟨a,rfl⟩;rw[ϔ]at *;let{q,rfl}:=Vw l;let h:=k7 (L:=xo N i) (r:=.int Òo) (by unfold xo;rw[ì,Źc];omega)
  let o:xo N ù=xo N i++[.int Òo]:=by unfold xo;rw[ůg,Ía];rfl
  show{_,[À (Â,.int (sh N i/256)),À (Â,.int (m:Å)),À (Æ,.lst (xo N ù)),À (Â,.int (i:Å))],rfl,.inl ?_,_,rfl};rw[o];let c:sh N i%256=byt N i:=rfl;unfold E_;generalize xo N i=BL at c h ⊢;generalize sh N i=S at c h ⊢;simp only[Ü,c,h])
 rw[ϔ,JS]at e1;rw[z2n];unfold F5;generalize xo N ŋ=BL at j e1 ⊢;simp only[Ü,j,e1]
theorem Oq{α:Type}{enc:α->D}{g:FG}{c:FT}{e:FE}{σ:yK}(p:α->Ð)(v:α->D):∀{ks:Á α},(∀k∈ks,∃σ1,g (enc k) σ=À σ1/\c σ1=À (p k)/\(p k=Æ->e σ1=À (v k)))->yc g c e σ (êd enc)=À ((ks.filter p).map v)
 | [],_=>rfl|k::ks,h=>by
  let{σ1,e1,e2,d}:=h k ī;let a:=Oq p v λm b=>h m Źd
  exact yc g c e σ (enc k::êd enc)=_;cases q:p k with
  |Æ=>rw[q]at e2;simp only[yc,e1,Ãb,e2,d q,a,Ŝe,q,Ŗ,Ň]|Â=>rw[q]at e2;simp only[yc,e1,Ãb,e2,a,Ŝe,q,Ĵa,Ÿ]
theorem lw(n:Ã):wE n=(Şb).map λk:Ã=>Ş (k:Å):=rfl
def ć(f:Ð)(N:Å)(j:Ã):Ð:=decide Şd||f
def xF(f:Ð)(N t:Å)(n:Ã):Á Ĕ:=((Şb).filter ϔn).map λj:Ã=>(t+(j:Å),byt N j)
def Xf{f:Ð}{N t:Å}{n:Ã}{p:Å×Å}:p∈xF f N t n↔∃j,j<n/\ć f N j=Æ/\p=(t+(j:Å),byt N j):=by
 unfold xF;rw[ĩm]
 rw[ύo];rintro⟨j,c,rfl⟩;let{a,b}:=Ϗk c;show{j,ûb a,b,rfl};rintro⟨j,a,b,rfl⟩;show{j,Œk {Ŵc a,b},rfl}
def YG{f:Ð}{N t:Å}{n:Ã}{x:Å}:x∈(ϥe).map (·.1)↔∃j,j<n/\ć f N j=Æ/\x=t+(j:Å):=by
 rw[ĩm]
 rw[ύo];rintro⟨p,c,rfl⟩;let{j,a,b,rfl}:=όf c;show{j,a,b,rfl};rintro⟨j,a,b,rfl⟩;show{_,Xf.mpr {j,a,b,rfl},rfl}
def Gc{f:Ð}{N t:Å}{n:Ã}:((ϥe).map (·.1)).Pairwise (·<·):=by
 unfold xF;rw[Èb,List.pairwise_map];show(īk _ List.pairwise_lt_range).imp λ{a b} h=>?_
 exact t+(a:Å)<t+(b:Å);omega
def Xe{f:Ð}{N t:Å}{n:Ã}:(ϥe).length<=n:=by unfold xF;rw[ì];let:=List.length_filter_le ϔn Şb;rw[Źc]at this;rw[đo]
def eW{f:Ð}{N t:Å}{n:Ã}:(ϥe).filter ēg=xF Â N t n:=by
 unfold xF;rw[Ŵg,List.filter_filter]
 congr 1
 show List.filter_congr λj _=>?_
 exact(decide Şd&&(decide Şd||f))=(decide Şd||Â);cases decide Şd<;>cases f<;>rfl
theorem Cf:∀{ps:Á Ĕ} {p:Å×Å},(ń (·.1)).Nodup->p∈ps->gP ps p.1=p.2
 | [],_,_,h=>Þ h Ìa|q::ps,p,nd,h=>by rw[Ň,List.nodup_cons]at nd;exact(if q.1=p.1 then q.2 else gP ps p.1)=_;rcases Ī h with rfl|h;rw[Ò rfl];rw[Ó λz=>nd.1 (by rw[z];show śe {p,h,rfl})];show Cf nd.2 h
theorem Q1{a:Å}:∀{ps:Á Ĕ},a ∉ ń (·.1)->gP ps a=0
 | [],_=>rfl|q::ps,h=>by rw[Ň]at h;exact(if q.1=a then q.2 else gP ps a)=_;rw[Ó λz=>h (by rw[z];show ī)];show Q1 λz=>h ϰc
theorem PF(a:Å):∀ps:Á Ĕ,jQ ps a=gP ps a
 | []=>rfl|q::ps=>by
  exact(if q.1=a then q.2 else jQ ps a)=if q.1=a then q.2 else gP ps a
  rw[PF a ps]
section
variable{A B s:Å}{m:Ã}{u f:Ð}
def ut(f:Ð)(A B s:Å)(m:Ã):Á Ĕ:=xF f A s ŋ++xF f B ůf ŋ
def eZ(c:m<=6):((ϡg).map (·.1)).Pairwise (·<·):=by unfold ut;rw[Ía];show Şc {Gc,Gc,λx a y b=>?_};let{j,d,_,rfl}:=YG.mp a;let{k,e,_,rfl}:=YG.mp b;omega
def LK{p:Å×Å}(h:p∈ut f A B s m):∃j,j<4*m/\(p=(s+(j:Å),byt A j)\/p=(s+32+(j:Å),byt B j)):=by rcases Ăa h with h|h;let{j,a,_,e}:=όf h;show{j,a,.inl e};let{j,a,_,e}:=όf h;show{j,a,.inr e}
def z6o{l:Á Å}(h:èn (·<·)):l.Nodup:=h.imp λ{a b} h=>by intro z;omega
def z5y(y:m<=6)(E:0<=s)(C:s<65000):k4 A B s m u 0 ϡg:=by
 let o:=z6o (eZ (f:=f) (A:=A) (B:=B) (s:=s) y)
 let c:∀{x:Å},x∈(ϡg).map (·.1)↔(∃j,j<4*m/\ć f A j=Æ/\x=s+(j:Å))\/∃j,j<4*m/\ć f B j=Æ/\x=s+32+(j:Å):=λ{x}=>by unfold ut;rw[Ía,űg,YG,YG]
 let v:∀{N:Å}{j:Ã},¬ ć f N j=Æ->byt N j=0:=λ{N j} h=>by let r:=V4 N j;unfold ć at h;rw[ŀl,Ųc]at h;omega
 show{{λp l=>?_,λp l=>?_,o},?_,λj g=>?_,λj g=>?_,λj g=>by omega,λx w _=>Q1 λz=>?_};obtain⟨j,g,rfl|rfl⟩:=LK l;exact 0<=s+(j:Å)/\s+(j:Å)<65536;omega;exact 0<=s+32+(j:Å)/\s+32+(j:Å)<65536;omega;obtain⟨j,g,rfl|rfl⟩:=LK l;show V4 A j;show V4 B j;unfold ut;rw[í];let a:=Xe (f:=f) (N:=A) (t:=s) (n:=4*m);let b:=Xe (f:=f) (N:=B) (t:=s+32) (n:=4*m);omega;by_cases k:ć f A j=Æ;show Cf (p:=(s+(j:Å),byt A j)) o (ãc _ Ŀk);rw[v k];show Q1 λz=>?_
 rcases c.mp z with⟨i,d,q,e⟩|⟨i,d,q,e⟩;let:i=j:=by omega
 show k Ěn;omega;by_cases k:ć f B j=Æ;show Cf (p:=(s+32+(j:Å),byt B j)) o (Ĳa _ Ŀk);rw[v k];show Q1 λz=>?_
 rcases c.mp z with⟨i,d,q,e⟩|⟨i,d,q,e⟩;omega;let:i=j:=by omega
 show k Ěn;rcases c.mp z with⟨i,d,q,e⟩|⟨i,d,q,e⟩;show(w i d).1 e;show(w i d).2 e
def uS(A B s:Å)(m:Ã)(u:Ð):Á Ĕ:=xF Â A s ŋ++xF Â B ůf ŋ++xF Â ϕ (s+64) ŋ
def z0p{x:Å}:x∈(Ĺb).map (·.1)↔∃j,j<4*m/\((0<byt A j/\x=s+(j:Å))\/(0<byt B j/\x=s+32+(j:Å))\/(0<byt ϕ j/\x=s+64+(j:Å))):=by
 unfold uS
 let k:∀{N:Å}{j:Ã},ć Â N j=Æ↔0<byt N j:=λ{N j}=>by unfold ć;rw[Âh,Ųc]
 rw[Ía,Ía,űg,űg,YG,YG,YG]
 rw[ύo];rintro((⟨j,a,b,c⟩|⟨j,a,b,c⟩)|⟨j,a,b,c⟩);show{j,a,.inl {k.mp b,c}};show{j,a,.inr (.inl {k.mp b,c})};show{j,a,.inr (.inr {k.mp b,c})};rintro⟨j,a,⟨b,c⟩|⟨b,c⟩|⟨b,c⟩⟩;show .inl (.inl {j,a,k.mpr b,c});show .inl (.inr {j,a,k.mpr b,c});show .inr {j,a,k.mpr b,c}
def bT(a:m<=6):((Ĺb).map (·.1)).Pairwise (·<·):=by unfold uS;rw[Ía];show Şc {eZ (f:=Â) a,Gc,λx b y c=>?_};let{k,g,_,rfl}:=YG.mp c;let{p,d,rfl}:=ëa b;obtain⟨j,e,rfl|rfl⟩:=LK d;exact s+(j:Å)<_;omega;exact s+32+(j:Å)<_;omega
def z5z(n:m<=6){ps:Á Ĕ}(M:k4 A B s m u m ps):Y6 ps=(Ĺb).map pD:=by
 let k:∀{x:Å},gP ps x≠0->x∈ń (·.1):=λ{x} h=>Classical.byContradiction λz=>h (Q1 z)
 let l:(Ŕf).filter ſj=(Ĺb).map (·.1):=by
  let i:=ßm (ń (·.1));let q:=i.nodup_iff.mpr M.P.nd;refine dP (īk _ ((L2.isort_sorted (ń (·.1))).imp₂ (λa b r o=>by let:a≠b:=o;omega) q)) (bT n) λx=>?_
  rw[List.mem_filter,Ųc,PF,z0p]
  constructor;rintro⟨_,h⟩;by_cases a:∃j:Ã,j<4*m/\x=s+(j:Å);let{j,d,rfl}:=a;rw[M.a j d]at h;show{j,d,.inl {by let:=V4 A j;omega,rfl}}
  by_cases b:∃j:Ã,j<4*m/\x=s+32+(j:Å);let{j,d,rfl}:=b;rw[M.b j d]at h;show{j,d,.inr (.inl {by let:=V4 B j;omega,rfl})}
  by_cases c:∃j:Ã,j<4*m/\x=s+64+(j:Å);let{j,d,rfl}:=c;rw[M.c j d]at h;show{j,d,.inr (.inr {by let:=V4 ϕ j;omega,rfl})};show Þ (M.z x (λj d=>{λe=>a {j,d,e},λe=>b {j,d,e}}) λj d e=>c {j,d,e}) h;rintro⟨j,d,⟨h,rfl⟩|⟨h,rfl⟩|⟨h,rfl⟩⟩;let e:=M.a j d;show{Ϲg Ĵi,by omega};let e:=M.b j d;show{Ϲg Ĵi,by omega};let e:=M.c j d;show{Ϲg Ĵi,by omega}
 unfold Y6;rw[l,Èb];show Ľe λp g=>?_
 exact Įa [.int p.1,.int (jQ ps p.1)]=.tup Īg;rw[PF]
 let:gP ps p.1=p.2:=by rcases Ăa g with g|g;obtain⟨j,d,rfl|rfl⟩:=LK (f:=Â) g;show M.a j d;show M.b j d;let{j,d,_,rfl}:=όf g;show M.c j d
 rw[this]
theorem y8k(a:m<=6):OE [.lst ϋc]=À Ϙn:=by
 let e:∀l:Á Ĕ,XE (ş pD)=À (ş (·.1)):=λl=>by
  induction l with
  |nil=>rfl|ā p l ih=>exact(XE (ş pD)).bind _=_;rw[ih];rfl
 exact(XE ϋc).bind _=_;rw[e];exact(match decide (((Ĺb).map (·.1)).Pairwise (·<·))with|Æ=>_|Â=>_)=_;rw[ĉ (bT a)]
#print a
abbrev Z8:Á Å:=őe
theorem z63{T:D}{e:Å}{ps:Á Ĕ}(i:ZY Éf=À (Æ,.dic ķ Ŝ)) :WQ [.obj á [] [],.fz T,.fz īf,.fz .zG,.fz õf]=À ([xW T e ĕc ùb Ùg 0 0,.fz T,.fz īf,.fz .zG,.fz õf],.fz .zG):=by let k:∀{x:M}{yJ:yC},jF x (δ ħl) 0 [] [á] Ϣ=À (Μ (.obj á [Ϣ] [x])):=rfl;let g:∀{a x:M}{yJ:yC},jF x (δ (.obj á [Ϣ] [a])) 0 [] [á] Őa=À (Μ (.obj á ŵn [a,x])):=rfl;let h:∀{a b x:M}{yJ:yC},jF x (δ (.obj á ŵn êe)) 0 [] [á] Ϻa=À (Μ (.obj á æm [a,b,x])):=rfl;let f:∀{a b c x:M}{yJ:yC},jF x (δ (.obj á æm [a,b,c])) 0 [] [á] Ąb=À (Μ (.obj á îe [a,b,c,x])):=rfl;let j:=oI (T:=T) (e:=e) (fw:=.zG) (fh:=.zG) (Ws:=Z8) (hk:=kP ps) (hv:=vP ps) (fs:=[]) (ms:=[]);let l:∀{a b c d:M}{yJ:yC},kA á ϫd 0 [] ZV uB Àg=Zq ZV źn Àg:=rfl;let m:IH [.zG]=À (Æ,.lst Ōb):=rfl;rw[z1o];unfold DV;simp only[Ü,wD.eq_1,qV.eq_1,qW.eq_1,vB.eq_1,jq.eq_1,hide.eq_1,vK.eq_1,O6.eq_1,O6.eq_2,gM.eq_1,gM.eq_2,@Option.map_some.{0,0},@List.take_succ_cons.{0},@List.take_zero.{0},k,g,h,f,m,i,l];simp only[ϭ,j]
theorem x7k{ws vs:Á D}{ks:Á Ķ}{ps:Á Ĕ}(c:Zh ŵd=À (Â,.dic ks vs))(d:ZY Éf=À (Æ,.dic ķ Ŝ)) :WX [.obj á [] [],.fz Äd,.fz .zG,.fz õf]=À ([xW Ċc Ñb ĕc ùb Ùg 0 0,.fz Äd,.fz .zG,.fz õf],.fz .zG):=by let b:=z63 (T:=.dic ks vs) (e:=Ñb) d;let a:k8 ħl 0 []=.p 0 []:=rfl;rw[z1y];unfold Dg;generalize ń pD=PP at c a b ⊢;simp only[ϭ,c,a,b]
theorem y92{T fw fh sd:D}{e done:Å}:gD [wn T e fw fh sd e done]=À (Â,.bl Æ):=by rcases lB (T:=T) (fw:=fw) (fh:=fh) (sd:=sd) (row:=.zG) (nx:=.zG) (tg:=.zG) (e:=e) (due:=e) (done:=done) (k:=Æ) λz=>Þ rfl z with z|⟨_,z⟩;rw[z,ĉ rfl];rfl;show z
def y95{T fw fh sd:D}{e due done:Å}:WU âg=À (Â,.int done):=by rw[z1w];unfold De;simp only[Ü,z10]
theorem sn{T fw fh:D}{e due done:Å}{s:M}{x0 x1 x2 x3:É M}{f:ue}:kA á ãe 4 [] ZW f Đg=(f Đg).bind λas=>Zq ZW (.p 4 []::as) Đg:=rfl
def z5a{t:È}{ws vs:Á D}{ks:Á Ķ}{ps f:Á Ĕ}{N:Ã}{Ws:Á Å}{a b c:Ð}(u:Wa [.str t]=À (Æ,.lst ws))(H:Ñb=N)(F:N<=1000)(E:Zh ŵd=À (Â,.dic ks vs))(I:Øa vs=Æ)(G:ZY Éf=À (Æ,.dic ķ Ŝ))(R:pY Ċc ĕc ùb (N:Å) Ùg N ŷj) :Ts Yq [.str t,.zG,.lst ϙc,.int (N:Å)]=À (Â,.tup Ëj):=by
 let j:=x7k E G;rw[H]at j;let x:=y5q F R;let s:vd (xW Ċc (N:Å) ĕc ùb ŷj (N:Å) (N:Å))=wn Ċc (N:Å) ĕc ùb Øg (N:Å) (N:Å):=by rw[JL,JM]
 let g:∀{m:È}{τ:yK}{x0 x1 x2 x3:É Sl},m ∉ Wt->qx á m ů zF (x0::x1::x2::x3::À (Â,wn Ċc (N:Å) ĕc ùb Øg (N:Å) (N:Å))::τ)=À [wn Ċc (N:Å) ĕc ùb Øg (N:Å) (N:Å)]:=λh=>aI rfl h rfl
 let r:=λ{τ:yK} {x0 x1 x2 x3:É Sl}=>g (m := ĝc) (τ:=τ) (x0:=x0) (x1:=x1) (x2:=x2) (x3:=x3) Ýa
 let o:=λ{τ:yK} {x0 x1 x2 x3:É Sl}=>g (m := Ϩd) (τ:=τ) (x0:=x0) (x1:=x1) (x2:=x2) (x3:=x3) Ýa
 let B:=λ{τ:yK} {x0 x1 x2 x3:É Sl}=>g (m := Ķa) (τ:=τ) (x0:=x0) (x1:=x1) (x2:=x2) (x3:=x3) Ýa
 let q:=λ{τ:yK} {x0 x1 x2 x3:É Sl}=>g (m := Ϫd) (τ:=τ) (x0:=x0) (x1:=x1) (x2:=x2) (x3:=x3) Ýa
 let k:=λ{τ:yK} {x0 x1 x2 x3:É Sl}=>g (m := Şa) (τ:=τ) (x0:=x0) (x1:=x1) (x2:=x2) (x3:=x3) Ýa
 let z:=y92 (T:=.dic ks vs) (fw:=.lst Ōb) (fh:=.dic ķ Ŝ) (sd:=tG ϟ a b c (kP f) (vP f)) (e:=(N:Å)) (done:=(N:Å));let v:=y95 (T:=.dic ks vs) (fw:=.lst Ōb) (fh:=.dic ķ Ŝ) (sd:=tG ϟ a b c (kP f) (vP f)) (e:=(N:Å)) (due:=(N:Å)) (done:=(N:Å));let A:=y5l (T:=.dic ks vs) (fw:=.lst Ōb) (fh:=.dic ķ Ŝ) (a:=a) (b:=b) (c:=c) (Ws:=Ws) (ps:=f) (e:=(N:Å)) (due:=(N:Å)) (done:=(N:Å));let l:=z5q (T:=.dic ks vs) (fw:=.lst Ōb) (fh:=.dic ķ Ŝ) (a:=a) (b:=b) (c:=c) (Ws:=Ws) (ps:=f) (e:=(N:Å)) (due:=(N:Å)) (done:=(N:Å));let p:=z60 (T:=.dic ks vs) (fw:=.lst Ōb) (fh:=.dic ķ Ŝ) (a:=a) (b:=b) (c:=c) (Ws:=Ws) (ps:=f) (e:=(N:Å)) (due:=(N:Å)) (done:=(N:Å))
 let y:Øa ϟ=Æ:=Nw λd i=>by let{w,_,rfl}:=ëa i;rfl
 let n:Øa (Y6 f)=Æ:=Nw λd i=>by let{w,_,rfl}:=ëa i;rfl
 let C:Yq ϡf=À (ϡf,.fz (.tup Ëj)):=by rw[z2s];unfold FB;generalize ń pD=PP at y n u j x s r o B q k z v A l p ⊢;simp only[ϭ,y,n,u,j,Tc,Xw,j7,sn,x,s,r,o,B,q,k,z,v,A,l,p,Fo,TV,Fp,Qa]
 exact(Yq ϡf).bind _=_;rw[C];rfl
section
variable{s w:Å}{u:Ð}{m:Ã}
def z5h(P:0<=s)(O:s<65000)(H:m<=6){x0 x1 x2 x3 x4 x8 x9 x10 x11 x12 x13 x14 x15 x16 x17:É Sl}:∃y8,pA ñd QT Öe Ϗi=À (.nx [x0,x1,x2,x3,x4,À (Â,.str Ĕb),À (Â,.int s),À (Æ,.lst ķd),y8,x9,x10,x11,x12,x13,x14,x15,x16,x17]):=by
 let{σ',e1,y8,rfl}:=pB (g:=yF 8) (b:=QT) (λi σ=>∃y8:É Sl,σ=[x0,x1,x2,x3,x4,À (Â,.str Ĕb),À (Â,.int s),À (Æ,.lst όn),y8,x9,x10,x11,x12,x13,x14,x15,x16,x17])
  (ds:=wE m) (σ:=Ϗi) 0 {x8,rfl} (by
  rintro i d σ C ⟨y8,rfl⟩;rw[ϔ]at *;let{K,rfl}:=Vw C;let y:tJ 4=Æ:=by decide
  let B:∀{n:Å},0<=n->n<256->kG [.int n]=À Ūd/\(ĩa).length<=5:=λ{n} a b=>{āi (e5 a Ê),(XZ a Ê).2.1}
  let{o,I}:=B (n:=4*(i:Å)) Ê Ê;let{A,G}:=B (n:=32+4*(i:Å)) Ê Ê;let{e,N}:=B (n:=64+4*(i:Å)) Ê Ê;let t:=Ĵc (a := űc) (b:=yD Õn) Çk;let h:=Ĵc (a := Ĺd) (b:=yD Àm) Çk;let f:=Ĵc (a := åc) (b:=yD ħg) (by exact 13+_<=_;omega)
  obtain⟨b,z,w,x,l,p⟩:∃(b:Ð) (z:È),zh ϗc Ń=À ϭa/\zL (.lst [.str "c",.str ""]) (Δ Ĕd)=À ĩc/\yf Ŝh ĩc=À ūl/\yf ūl Ĺn=À (.str ĳe):=by
   cases i with
   |ϙ=>show{Æ, "",rfl,rfl,by rw[Íp],by rw[Íp]}|Ϛ k=>show{Â, "c",by rw[Íe,į Ê],rfl,by rw[Íp],by rw[Íp]}
  let F:=MD s u i
  let E:(Ŋm).map ϐ=(Äh).map ϐ++[.str Ôg]++[.str Ϭf]++[.str ĳe]++[.str Ġk]:=by exact(wl s u i++JP u i).map ϐ=_;rw[Ía];simp[JP]
  let J:(όn).length<=30:=by rw[ì];omega
  show{_,[x0,x1,x2,x3,x4,À (Â,.str Ĕb),À (Â,.int s),À (Æ,.lst (Λa Ŋm)),À (Â,.int (i:Å)),x9,x10,x11,x12,x13,x14,x15,x16,x17],rfl,.inl ?_,_,rfl};rw[E];generalize (Äh).map ϐ=L0 at *;let j:=k7 (L:=L0) (r:=.str Ôg) Ê;generalize hL1:L0++[ϐ Ôg]=L1 at *;have v:=k7 (L:=L1) (r:=.str Ϭf) (by rw[<-hL1,í];rw[Ĕo]);generalize hL2:L1++[ϐ Ϭf]=L2 at *;have q:=k7 (L:=L2) (r:=.str ĳe) (by rw[<-hL2,<-hL1,í,í];rw[Ĕo]);generalize hL3:L2++[ϐ ĳe]=L3 at *;have c:=k7 (L:=L3) (r:=.str Ġk) (by rw[<-hL3,<-hL2,<-hL1,í,í,í];rw[Ĕo]);unfold QT;generalize (űc : È)++yD Õn=t1 at y o A e t h f w x l p j v q c ⊢;generalize (Ĺd : È)++yD Àm=t2 at y o A e t h f w x l p j v q c ⊢;generalize yh u i ++ Çf=t3 at y o A e t h f w x l p j v q c ⊢;generalize (åc : È)++yD ħg=t4 at y o A e t h f w x l p j v q c ⊢;simp only[Ü,y,o,A,e,t,h,f,w,x,l,p,j,v,q,c,ŋa])
 rw[ϔ,JS]at e1;show{y8,e1}
nonrec def vI(w:Å):Ð:=decide (w/4%2=1)
def dM{N p:Å}{P:Á Ĕ}(o:m<=6)(r:Áa<=60){x0 x2 x3 x5 x7 x8 x12 x13 x14 x15 x16 x17:É Sl}:Om [x0,À (Â,.int (m:Å)),x2,x3,À (Â,.int w),x5,À (Â,.int s),x7,x8,À (Â,.lst œh),À (Â,.int N),À (Â,.int p),x12,x13,x14,x15,x16,x17]=À (.nx [x0,À (Â,.int (m:Å)),x2,x3,À (Â,.int w),x5,À (Â,.int s),x7,x8,À (Â,.lst ((ϡj).map pD)),À (Â,.int N),À (Â,.int p),À (Â,.lst ϴc),x13,x14,x15,x16,x17]):=by
 let q:tJ 4=Æ:=by decide
 let i:=b7 (N:=N) o
 let l:∀{σ:yK},(e2 tH øb þ) σ=À (Δ Ϯc)->HH σ=À Ϡd:=λ{σ} h=>by unfold HH;rw[ku (n:=4*(m:Å)) h Ê,show(Ϯc).toNat=4*m by omega]
 let g:=l (σ:=[x0,À (Â,.int (m:Å)),x2,x3,À (Â,.int w),x5,À (Â,.int s),x7,x8,À (Â,.lst œh),À (Â,.int N),À (Â,.int p),À (Â,.lst ϴc),x13,x14,x15,x16,x17]) Ėk
 let e:yc īi Pf PZ [x0,À (Â,.int (m:Å)),x2,x3,À (Â,.int w),x5,À (Â,.int s),x7,x8,À (Â,.lst œh),À (Â,.int N),À (Â,.int p),À (Â,.lst ϴc),x13,x14,x15,x16,x17,Ä] Ϡd=À ((üg).map pD):=by
  unfold xF;rw[Èb,lw];show Oq (ć Ŭf N) _ λj k=>?_
  let k:=ûb k;let b:=av (N:=N) k;show{_,rfl,?_,λ_=>?_};unfold Pf ć vI;generalize xo N ŋ=BL at *;by_cases c:0<byt N j;let a:=ĉ c;rw[Ϗo];simp only[Ü,b,a];rfl;let a:=į c;rw[Ϗo];simp only[Ü,b,a,Íe];rfl;unfold PZ;exact _=À (γd (s+p+(j:Å)));generalize xo N ŋ=BL at b ⊢;generalize byt N j=bj at b ⊢;simp only[Ü,b,ŋa]
 let d:=TU (L:=P.map pD) (M:=(üg).map pD) (by let:=Xe (f:=vI w) (N:=N) (t:=s+p) (n:=4*m);rw[ì,ì];omega)
 rw[<-Ía]at d;unfold Om;generalize (ϡj).map pD=R1 at i g e d ⊢;generalize (üg).map pD=R2 at i g e d ⊢;generalize P.map pD=R0 at i g e d ⊢;generalize xo N ŋ=BL at i g e d ⊢;simp only[Ü,i,g,e,d]
theorem z5g(e:m<=6){x0 x1 x2 x3 x4 x5 x6 x7 x8 x9 x10 x11 x12 x13 x14 x15 x17:É Sl}:∃y8,pA ñd QU Öe Ϡi=À (.nx [x0,x1,x2,x3,x4,x5,x6,x7,y8,x9,x10,x11,x12,x13,x14,x15,À (Â,.int (rm m)),x17]):=by
 let a:tJ 4294967296=Æ:=by decide
 let{σ',e1,y8,rfl}:=pB (g:=yF 8) (b:=QU) (λi σ=>∃y8:É Sl,σ=[x0,x1,x2,x3,x4,x5,x6,x7,y8,x9,x10,x11,x12,x13,x14,x15,À (Â,.int (rm i)),x17])
  (ds:=wE m) (σ:=Ϡi) 0 {x8,rfl} (by
  rintro i d σ c ⟨y8,rfl⟩;rw[ϔ]at *;let{f,rfl}:=Vw c;show{_,[x0,x1,x2,x3,x4,x5,x6,x7,À (Â,.int (i:Å)),x9,x10,x11,x12,x13,x14,x15,À (Â,.int (rm i*4294967296)),x17],rfl,.inl ?_,_,rfl};unfold QU;generalize rm i=r at a ⊢;simp only[Ü,a])
 rw[ϔ,JS]at e1;show{y8,e1}
#print a
def z0q{L:Á Ĕ}:ga 6 (Ε ĩn)=Æ:=by exact(ĩn).all (ga 5)=Æ;rw[Īm,Şg];intro p _;rfl
def rX{N:Å}{m:Ã}(b:m<=6):xo ϰi ŋ=xo N ŋ:=Ľe λj a=>by let:=ûb a;rw[rY Ê]
theorem z51{A B s w:Å}{m:Ã}{x0 x1 x2 x3 x4 x5 x6 x7 x8 x9 x10 x11 x12 x13 x14 x15 x16 x17:É Sl}:yc (xh 18 19) MV MQ [x0,x1,x2,x3,x4,x5,x6,x7,x8,x9,x10,x11,x12,x13,x14,x15,x16,x17,Ä,Ä] Ϩg=À ((óe).map pD):=by
 let e:(Ŝc).filter ēg=xF Â A s ŋ++xF Â B ůf ŋ:=by unfold ut;rw[List.filter_append,eW,eW]
 rw[<-e];show Oq (enc:=pD) ēg pD λp _=>?_
 show{[x0,x1,x2,x3,x4,x5,x6,x7,x8,x9,x10,x11,x12,x13,x14,x15,x16,x17,À (Â,.int p.1),À (Â,.int p.2)],rfl,?_,λ_=>?_};unfold MV;simp only[Ü];unfold MQ;exact _=À (Įa Īg);simp only[Ü]
theorem z52{N s:Å}{m:Ã}(d:m<=6){x0 x2 x3 x4 x5 x7 x8 x9 x10 x11 x12 x13 x14 x16 x17:É Sl} :LV [x0,À (Â,.int (m:Å)),x2,x3,x4,x5,À (Â,.int s),x7,x8,x9,x10,x11,x12,x13,x14,À (Â,.lst ϴc),x16,x17]=À Ϡd/\yc īi MX MR [x0,À (Â,.int (m:Å)),x2,x3,x4,x5,À (Â,.int s),x7,x8,x9,x10,x11,x12,x13,x14,À (Â,.lst ϴc),x16,x17,Ä] Ϡd=À ((xF Â N (s+64) ŋ).map pD):=by
 let c:tJ 4=Æ:=by decide
 show{?_,?_};unfold LV;rw[ku (n:=4*(m:Å)) (by simp only[Ü,c]) Ê,show(Ϯc).toNat=4*m by omega];unfold xF;rw[Èb,lw];show Oq (ć Â N) _ λj b=>?_
 let b:=ûb b;let a:=av (N:=N) b;show{_,rfl,?_,λ_=>?_};unfold MX ć;rw[Âh];rw[Ļo];simp only[Ü,a];unfold MR;exact _=À (γd (s+64+(j:Å)));rw[Ļo];simp only[Ü,a,ŋa]
theorem y5t:∀ns:Á Å,ś<=63->(∀m∈ns,wz m<=1048576)->∃o,yI 18 Ij ňh=À (o,.bl Æ):=λns hl hb=>by
 let{mk,k0,k1,Y}:=GI hl hb (k:=0) Í Í;let{w,w0,w1,e4}:=GI hl hb (k:=1) Í Í;obtain⟨m,x,d⟩:∃m:Ã,1+mk%6=(m:Å)/\m<=6:={(1+mk%6).toNat,by omega,by omega};let{A,hA,eA}:=cU hl hb (f:=4) Í Í d;let{B,hB,eB}:=cU hl hb (f:=12) Í Í d
 obtain⟨u,Z⟩:∃u,zL (.lst [.str Űa,.str ŏa]) (Δ (w%2))=À Ŝh:=by rcases(show w%2=0\/w%2=1 by omega)with h|h<;>rw[h];show{Â,rfl};show{Æ,rfl}
 obtain⟨s,hs,E,s1⟩:∃s,w/2%65000=s/\0<=s/\s<65000:={_,rfl,by omega,by omega};let fS:=āi (e5 E Ê);let aS:=Ĵc (a := şd) (b:=yD s) (by let:=(XZ E Ê).2.1;exact 7+_<=_;omega);let{T,J,jn,ja,tl,U}:=x0e E Ê (u:=u) d;let pl:=i5 E Ê (u:=u) d;let rl:=Vh s u m;let as:=oU pl Ê tl U;let{ks,vs,F,tp,hT}:=x08 pl Ê;let M0:=z5y (A:=A) (B:=B) (u:=u) (f:=vI w) d E s1;let bf:=rf M0.P (by let:=M0.l;omega);let{w1',w2',n',g',ps',M',R}:=lW (T:=.dic ks vs) (fw:=.lst Ōb) (fh:=.dic (kP Ŝc) (vP Ŝc)) (λi hi=>hT i (by rw[rl];show hi)) d E s1 M0 rfl m ċ;let O:=z5a as (N:=1+4*m) (by rw[ì,rl]) Ê F tp bf R;rw[z5z d M']at O;let e:=sV (u:=u) hA hB;let q:(ķd).length=1+4*m:=by rw[ì,MD]
 let t0:(wl s u 0).map ϐ=[.str (şd ++ yD s)]:=rfl;let l2:tJ 2=Æ:=by decide
 let I:∀{i j:Å},yf Ϡ ĭc=À Řd:=rfl
 have z:∃S,∀g:FS,(zN ϫi
  (zN ľj
  (zN éj
  (zN ϻj
  (zN Ϟi
  (zN Új
  (zN ϩi
  (zN (vY LU ñd
   QT)
  (zN (kz 7) g))))))))) Ϝf=g [À (Â,.lst Ϩ),À (Â,.int (m:Å)),À (Â,.int A),À (Â,.int B),À (Â,.int w),À (Â,.str Ĕb),À (Â,.int s),À (Â,.lst ķd),S,Ä,Ä,Ä,Ä,Ä,Ä,Ä,Ä,Ä]:=by
  let{S,y}:=z5h E s1 (u:=u) d (x0:=À (Â,.lst Ϩ)) (x1:=À (Â,.int (m:Å))) (x2:=À (Â,.int A)) (x3:=À (Â,.int B)) (x4:=À (Â,.int w)) (x8:=Ä) (x9:=Ä) (x10:=Ä) (x11:=Ä) (x12:=Ä) (x13:=Ä) (x14:=Ä) (x15:=Ä) (x16:=Ä) (x17:=Ä);rw[t0]at y
  let v:∀{x2 x3 x4 x5 x6 x7 x8 x9 x10 x11 x12 x13 x14 x15 x16 x17:É Sl},LU ϗi=À Öe:=λ{x2 x3 x4 x5 x6 x7 x8 x9 x10 x11 x12 x13 x14 x15 x16 x17}=>by unfold LU;rw[Ŭo]
  show{S,λg=>?_};generalize (üc).map ϐ=LR at Y x eA eB e4 Z hs fS aS v y I l2 ⊢;generalize (şd : È)++yD s=TS at Y x eA eB e4 Z hs fS aS v y I l2 ⊢;generalize Īa Ş=NS at Y x eA eB e4 Z hs fS aS v y I l2 ⊢;simp only[Ü,Y,x,eA,eB,e4,Z,hs,fS,aS,v,y,I,l2,ċb]
 let pr:ut Ŭf A B s m=Ϗj++xF Ŭf B ůf ŋ:=by rw[ıd,įm];rfl
 let G:=λ{x7 x8:É Sl}=>dM (s:=s) (w:=w) (N:=A) (p:=0) (P:=[]) d Í (x0:=À (Â,.lst Ϩ)) (x2:=À (Â,.int A)) (x3:=À (Â,.int B)) (x5:=À (Â,.str Ĕb)) (x7:=x7) (x8:=x8) (x12:=Ä) (x13:=Ä) (x14:=Ä) (x15:=Ä) (x16:=Ä) (x17:=Ä)
 let H:=λ{x7 x8:É Sl}=>dM (s:=s) (w:=w) (N:=B) (p:=32) (P:=[]++xF Ŭf A (s+0) ŋ) d (by let:=Xe (f:=vI w) (N:=A) (t:=s+0) (n:=4*m);rw[ıd];omega) (x0:=À (Â,.lst Ϩ)) (x2:=À (Â,.int A)) (x3:=À (Â,.int B)) (x5:=À (Â,.str Ĕb)) (x7:=x7) (x8:=x8) (x12:=À (Â,.lst (xo A ŋ))) (x13:=Ä) (x14:=Ä) (x15:=Ä) (x16:=Ä) (x17:=Ä)
 let nl:([]:Á Ĕ).map pD=[]:=rfl;rw[nl]at G;rw[<-pr]at H;let hq:zh Ŝh (.str ŏa)=À (.bl u):=by rw[Íp]
 let pk:qA 4294967296 6=Æ:=by decide
 let pp:decide ((0:Å)<6277101735386680763835789423207666416102355444464034512896)=Æ:=by decide
 let bk:=b7 (N:=xS A B u%6277101735386680763835789423207666416102355444464034512896) d;rw[rX d]at bk
 have dl:(óe).map pD++(ûg).map pD=(Ĺb).map pD:=by rw[<-Ía];rfl
 let X:=TU (L:=(óe).map pD) (M:=(ûg).map pD) (by let a:=Xe (f:=Â) (N:=A) (t:=s) (n:=4*m);let b:=Xe (f:=Â) (N:=B) (t:=s+32) (n:=4*m);let c:=Xe (f:=Â) (N:=xS A B u) (t:=s+64) (n:=4*m);rw[ì,ì,í];omega)
 rw[dl]at X;let so:=y8k (A:=A) (B:=B) (s:=s) (u:=u) d
 have r:∀{x7 x8:É Sl},∃z8,∀g:FS,(zN Ąn
  (zN (vY ϥi ďn
   Om)
  (zN Ük
  (zN (yN ĸj
   Ýk
   yQ)
  (zN ðj
  (zN Ϩi
  (zN ϱi
  (zN Ϯm
  (zN (vY LW ñd
   QU) g))))))))) [À (Â,.lst Ϩ),À (Â,.int (m:Å)),À (Â,.int A),À (Â,.int B),À (Â,.int w),À (Â,.str Ĕb),À (Â,.int s),x7,x8,Ä,Ä,Ä,Ä,Ä,Ä,Ä,Ä,Ä]=g [À (Â,.lst Ϩ),À (Â,.int (m:Å)),À (Â,.int A),À (Â,.int B),À (Â,.int w),À (Â,.str Ĕb),À (Â,.int s),x7,z8,À (Â,.lst Ϩg),À (Â,.int B),À (Â,.int 32),À (Â,.lst Ďn),À (Â,.int ϕ),À (Â,.lst ϋc),À (Â,.lst ņm),À (Â,.int (rm m)),Ä]:=λ{x7 x8}=>by
  let{z8,y}:=z5g d (x0:=À (Â,.lst Ϩ)) (x1:=À (Â,.int (m:Å))) (x2:=À (Â,.int A)) (x3:=À (Â,.int B)) (x4:=À (Â,.int w)) (x5:=À (Â,.str Ĕb)) (x6:=À (Â,.int s)) (x7:=x7) (x8:=x8) (x9:=À (Â,.lst Ϩg)) (x10:=À (Â,.int B)) (x11:=À (Â,.int 32)) (x12:=À (Â,.lst Ďn)) (x13:=À (Â,.int ϕ)) (x14:=À (Â,.lst ϋc)) (x15:=À (Â,.lst ņm)) (x17:=Ä)
  let v:∀{x2 x3 x4 x5 x6 x7 x8 x9 x10 x11 x12 x13 x14 x15 x16 x17:É Sl},LW ϗi=À Öe:=λ{x2 x3 x4 x5 x6 x7 x8 x9 x10 x11 x12 x13 x14 x15 x16 x17}=>by unfold LW;rw[Ŭo]
  let G:=G (x7:=x7) (x8:=x8);let H:=H (x7:=x7) (x8:=x8);let ld:=@z51 A B s w m;let lk:=λ{x0 x2 x3 x4 x5 x7 x8 x9 x10 x11 x12 x13 x14 x16 x17}=>@z52 ϕ s m d x0 x2 x3 x4 x5 x7 x8 x9 x10 x11 x12 x13 x14 x16 x17
  let K:=λ{x0 x2 x3 x4 x5 x7 x8 x9 x10 x11 x12 x13 x14 x16 x17}=>Àj.1
  let Q:=λ{x0 x2 x3 x4 x5 x7 x8 x9 x10 x11 x12 x13 x14 x16 x17}=>Àj.2
  clear lk;show{z8,λg=>?_};generalize (Ϗj).map pD=PA at *;generalize xo A ŋ=BA at *;generalize (Ŝc).map pD=P0 at *;generalize (óe).map pD=P1 at *;generalize (ûg).map pD=P2 at *;generalize (Ĺb).map pD=P3 at *;generalize xo ϕ ŋ=B1 at *;generalize xo B ŋ=B0 at *;generalize Īa Ş=NS at *;cases u with
  |Â=>
   let F:A+B=xS A B Â:=rfl;rw[ŗo]
  |Æ=>
   let F:A-B=xS A B Æ:=rfl;rw[ŗo]
 let{S,p1}:=z;let{z8,p2}:=r (x7:=À (Â,.lst ķd)) (x8:=S)
 let fin:Ij Ϝf=À (.rt Â ŉ):=by
  unfold Ij;rw[p1,p2];let nd:=z6s (z0q (L:=uS A B s m u));let nn:xE ñg ñg=À ò:=L6 èi;let bb:OC ŉ ŉ=À ò:=rfl;generalize hT5:Įa [ıb Æ,Ş ((1+4*m:Ã):Å),ϒf (wI (rg s w1' w2')),Įa Īj,ϒf ϋc]=T5 at O;have i0:zL T5 Ń=À ŉ:=by rw[<-hT5];rfl
  have i1:zL T5 ča=À ñg:=by rw[<-hT5];rfl
  have i3:zL T5 Ňa=À čj:=by rw[<-hT5];rfl
  have i4:zL T5 ĭf=À Ϙn:=by rw[<-hT5];rfl
  let j0:zL čj Ń=À (.bl (cr A B u m)):=rfl;clear hT5 p1 p2 r G H pr bk dl X so bf M0 M' R tp hT F as pl rl U;generalize Įa Īj=T3 at *;generalize (Ŝc).map pD=P0 at *;generalize (Ĺb).map pD=P3 at *;generalize (üc).map ϐ=LR at *;generalize xo ϕ ŋ=B1 at *;generalize xo B ŋ=B0 at *;generalize Īa Ş=NS at *;generalize 1+4*m=N at *;generalize cr A B u m=C at *;generalize xS A B u=U at *;generalize rm m=v at *;let eb:∀b:Ð,zh ϭa ϭa=À ŉ:=λb=>by cases b<;>rfl
  cases hc:decide (0<=U)with
  |Â=>rw[hc]at e;let e:C=Æ:=e;subst e;let e1:=eb Æ;simp only[Ü,jn,ja,q,O,i0,i1,i3,i4,j0,bb,nn,nd,Tf,hc,e1]|Æ=>
   cases hd:decide (U<v)with
   |Â=>rw[hc,hd]at e;let e:C=Æ:=e;subst e;let e1:=eb Æ;simp only[Ü,jn,ja,q,O,i0,i1,i3,i4,j0,bb,nn,nd,Tf,hc,hd,e1]|Æ=>rw[hc,hd]at e;let e:C=Â:=e;subst e;let e1:=eb Â;simp only[Ü,jn,ja,q,O,i0,i1,i3,i4,j0,bb,nn,nd,Tf,hc,hd,e1]
 show{Â,?_};exact(Ij Ϝf).bind _=_;rw[fin];rfl
#print L3
local macro_rules
 | `(tactic| ac_rfl)=>`(tactic| show⟨rfl,rfl,rfl,by decide +kernel,rfl,by decide +kernel,by decide +kernel⟩)
namespace My
open ě L2 L3
set_option maxHeartbeats 4000000
nonrec def top(i:Ã):Ø:=PySem.Challenge.pw_markrun_k93_whole_great_sums.main.body.getD i öl
section
variable{P:ë}{w:å}{K:Ñ}{mg:È->É Value}{Ë:Heap}{WK:Ì}{Yl:Ì}{WN:Ì}{WM:Ì}{WO:Ì}{WP:Ì}{ZO:Ì}{ZQ:Ì}{ZP:Ì}{WL:Ì}
abbrev HT:=ë->å->Ñ->šg->Heap->Ç
section
variable{h:Heap}(X:Ő h)(G:ýa ď mg)
abbrev KQ:Ø:=top 11
def y72:zc ϒh ϒh (zS KQ):=by ac_rfl
variable(ux:mg óc=Ä)(Xy:mg ϲa=Ä)(JX:mg Æe=Ä)
def D2:=HD ćh ϒh 1 pT
def y0c(a:zO K ćh KQ):D2 P w K mg Ë:=(ł).oS P w Ë 0 pT y72 yE λb=>(Ρ (Οa (wQ (k_ .bool rfl rfl ux JX aq Ód)) (pI (Ω (k_ .int rfl rfl ux Xy Fk Ód)))) όb (J4 (vM LF vE ņa Ód Ą) (Xm (vM gb vE Ód (zC Őg) Ą))))
abbrev Hf:Ø:=top 12
def iD:zc [öd,ϣc,ąc,"total"] äm (zS Hf):=by ac_rfl
variable(VC:xU mg "BEYOND" Õc)(Ve:∀H,zW K H Õc Õc)
def Bq:=HD þi äm 1 WY
def z97(a:zO K þi Hf):Bq P w K mg Ë:=(Ïb).oS P w Ë 0 WY iD yE λb=>(zQ (yG (i:=3) iD.nd rfl à (zf xO xM Ϟk šk)) (Ψa (zB (zf pE pC Ϲ ϟg) (Γ (vM Qf vE (zC ðd) (zC ϟg) Ą)))))
abbrev N1:Ø:=top 13
def iR:zc [öd,ϣc,"borrow",ϯa] įk (zS N1):=by ac_rfl
def DD:=HD ûi įk 1 Wo
def y1d(a:zO K ûi N1):DD P w K mg Ë:=(Ïb).oS P w Ë 0 Wo iR yE λb=>(zQ (yG (i:=3) iR.nd rfl à (zf kZ kW (zf kZ kW ğ Ę) šk)) (Ρ (zx gb vE Ϡb ņa Ą) (Ψa (zB (zf xO xM Ϲ ϟg) ϲc)) (ο (zB Ϲ ϲc))))
abbrev Kr:Ø:=top 16
def y7b:zc ŷg ŷg (zS Kr):=by ac_rfl
def DA:=HD ňi ŷg 1 vH
def y10(a:zO K ňi Kr):DA P w K mg Ë:=(Ïb).oS P w Ë 0 vH y7b yE λb=>(Β (zf GU Va ϟk Őj))
abbrev N8:Ø:=top 17
def iU:zc [Ŏ,Ŷf,Ăc,ìa,"there"] ŕk (zS N8):=by ac_rfl
def DF:=HD Ăh ŕk 1 Yu
def y1k(a:zO K Ăh N8):DF P w K mg Ë:=(Ģn).oS P w Ë 0 Yu iU y5x λb=>(zQ (yG (i:=4) iU.nd rfl à (zf kY kU Őj Ę)) (Β (zf e8 Va (zf GU Va ğ (Vn x59 x58 Âa)) (zf kY kU Ϲ Ę))))
abbrev Kz:Ø:=top 18
def iP:zc Òl ñf (zS Kz):=by ac_rfl
def DC:=HD ϲh ñf 1 IF
def y19(a:zO K ϲh Kz):DC P w K mg Ë:=(ł).oS P w Ë 0 IF iP yE λb=>(zQ (yG (i:=2) iP.nd rfl à Őg) (Β (uE (zx gb vE Ąg Ôb Ą) ğ (zf kZ kW ğ Ł))))
abbrev N5:Ø:=top 19
def iT:zc Òl ñf (zS N5):=by ac_rfl
def DE:=HD ĥh ñf 1 IG
def y1h(a:zO K ĥh N5):DE P w K mg Ë:=(ł).oS P w Ë 0 IG iT yE λb=>(zQ (yG (i:=2) iT.nd rfl à Őg) (zQ (χ (Οa (zx gb vE Ąg (zC (Vn JR JQ Ł)) Ą) (pI (zx Qf vE Ąg Ôb Ą)))) (Β (uE (zx Qf vE ϗa ņa Ą) ğ (zf xO xM ğ Ł)))))
abbrev NB:Ø:=top 21
def y7i:zc Ði Ði (zS NB):=by ac_rfl
variable(Pm:mg "sum"=Ä)(g7:mg Ēa=Ä)(Tx:xU mg ŭm ćf)(Qm:∀H,zW K H VG ćf)
def DG:=HD ţh Ði 1 U_
def y1n(a:zO K ţh NB):DG P w K mg Ë:=(ĺ).oS P w Ë 0 U_ y7i yE λd=>(Β (wg (sM rfl) y1a rfl Pm rW (xy (zC (μ (wG (own:=["byte",Ŷf]) rfl) (J8 rfl g7 ğ Ϥl) (Θc (λC s H b c=>(οb (Αa ŵj) (η (δc ŵj))))) žc (Η (zf kY kU Ę ϲb)))) xz)))
abbrev KN:Ø:=top 36
def y6z:zc [ġa] [ġa] (zS KN):=by ac_rfl
variable(gi:mg ãb=Ä)(xG:mg "len"=Ä)(Z9:mg "all"=Ä)(Ca:xU mg űl ϡ)(Go:∀H,zW K H ϡ ϡ)(CZ:xU mg Őn Ŗc)(Gm:∀H,zW K H Ŗc Ŗc)
def B_:=HD ūh [ġa] 1 Bk
def y09(a:zO K ūh KN):B_ P w K mg Ë:=(ĺ).oS P w Ë 0 Bk y6z yE λd=>(Λ (Ω (k_ .str rfl rfl ux gi V2 ϗa)) όb (yV (Οa (zx gb vE îb ņa Ą) (Εd (wK Ca Go rfl))) όb yd) (Β (Κb (wt rfl Ēk ϭb (Ζa (xJ ϗh [Ğc])) žc (Η (vM (jz ůi) jx ğa (zC (wK CZ Gm rfl)) ώj))))))
abbrev KM:Ø:=top 37
def y6y:zc [Ϯa] [Ϯa] (zS KM):=by ac_rfl
def Bz:=HD Ĭh [Ϯa] 1 Zc
def y08(a:zO K Ĭh KM):Bz P w K mg Ë:=(ĺ).oS P w Ë 0 Zc y6y yE λb=>(Οd (zC ϕa))
abbrev KL:Ø:=top 38
def y6x:zc [Ϯa] [Ϯa] (zS KL):=by ac_rfl
variable(CY:xU mg "JUMPS" Ćf)(Gk:∀H,zW K H OO Ćf)
def By:=HD Ŭh [Ϯa] 1 Wg
def y07(a:zO K Ŭh KL):By P w K mg Ë:=(ĺ).oS P w Ë 0 Wg y6x yE λb=>(Β (vM ěc jx (zC ϕa) (zC (wK CY Gk rfl)) Ža))
abbrev NE:Ø:=top 47
def iV:zc Ñl [ϲ] (zS NE):=by ac_rfl
def DH:=HD Ĥh [ϲ] 1 Wr
def y1q(a:zO K Ĥh NE):DH P w K mg Ë:=(ĺ).oS P w Ë 0 Wr iV yE λd=>(zQ (yG (i:=1) iV.nd rfl à (y7t (y7s ğ yZ) (LG rfl) Í)) (Ξ (wt rfl (wG (own:=[Ŏ]) rfl) (ιa (il Ę yZ)) (vA (Η (Λb (xJ Ñl [Ņi]))) rfl) (Μa (zx (tO įf) tM (zC ϲb) Ġb Ůi)) ÿh)))
abbrev Kp:Ø:=top 51
def y79:zc [Ŏ] [Ŏ] (zS Kp):=by ac_rfl
variable(CW:xU mg ųl Ϫa)(Gj:∀H,zW K H Ϫa Ϫa)(CV:xU mg őn çc)(Gi:∀H,zW K H çc çc)
def D8:=HD Ϯg [Ŏ] 1 Wk
def y0y(a:zO K Ϯg Kp):D8 P w K mg Ë:=(ĺ).oS P w Ë 0 Wk y79 yE λb=>(Λ (uZ (qc íe (Εd (wK CW Gj rfl)))) ăb (yV (Ω (Κb (wt rfl Ēk ϭb (Ωa (Αa (xJ [Ŏ] [Ğc]))) ìc (Ο (vM ěc jx (zC Ę) (zC (wK CV Gi rfl)) Ža))))) ăb yd) (Ρ (uZ (Vu (wQ (iZ ğ yZ)) (JI (zx łb tM Ód Ġb Ą)))) Ļm (y7p rfl Xy Ϲm)))
abbrev Ks:Ø:=top 54
def y7c:zc ϔh ϔh (zS Ks):=by ac_rfl
variable(Tz:xU mg İl èo)(Qq:u8 K w WO T_ Q2)(Ce:xU mg Ěm Ń)(Gu:∀H,zW K H Ń Ń)(tm:xU mg "PLACES" ço)(qC:u8 K w WP uk ul)
def DB:=HD ũg ϔh 1 u7
def y11(a:zO K ũg Ks):DB P w K mg Ë:=(ł).oS P w Ë 0 u7 y7c yE λb=>(Ρ (zx òb xN (zC Ę) Ġb Ą) (Ψa (zB (wK Ce Gu rfl) (Γ ϩk))) ϧk)
abbrev KB:Ø:=top 57
def y6t:zc [Ïa] [Ïa] (zS KB):=by ac_rfl
variable(kH:xU mg "FIELDS" éo)(kj:u8 K w WM tu kJ)
def Bv:=HD ŗg [Ïa] 1 qo
def z9x(a:zO K ŗg KB):Bv P w K mg Ë:=(ĺ).oS P w Ë 0 qo y6t yE λd=>(Ξ (wt rfl (wG (own:=[ľb]) rfl) (vN (uW kH kj rfl ğ)) (Ζa (xJ [Ïa] [ľb])) (Μa (zx (tO įf) tM ğa Ġb Ůi)) ϛk))
abbrev KW:Ø:=top 60
def iK:zc [Ŏa,"found"] [Ŏa] (zS KW):=by ac_rfl
variable(VD:xU mg "CODES" æo)(Qn:u8 K w ZO jo jp)(Z_:xU mg ěm äo)(Qp:u8 K w ZQ XH Y1)(Zz:xU mg Ŭm åo)(Qo:u8 K w ZP XG Y0)(CA:qt K w ZO jo OP)(Tj:qt K w ZQ XH OR)(HF:∀H,ã K H Y1 OR)(Ti:qt K w ZP XG OQ)(HE:∀H,ã K H Y0 OQ)
def D4:=HD Ϗg [Ŏa] 1 Wh
def y0g(a:zO K Ϗg KW):D4 P w K mg Ë:=(ĺ).oS P w Ë 0 Wh iK yE λd=>(zQ (y8z (i:=1) rfl iK.nd rfl rfl Ēj rfl (NZ VD CA rfl Í Í) Ϙi (υb (uW VD Qn rfl ϲb)) ÿh) (zQ (Ηd (NZ Z_ Tj rfl Í Í) (υb (uW Z_ Qp rfl ϲb))) (zQ (Ηd (NZ Zz Ti rfl Í Í) (υb (uW Zz Qo rfl ϲb))) (M3 1 (Β (uE (zx (xP įf) xN ğa Êh Ą) xR ϛj))))))
abbrev KP:Ø:=top 61
def y71:zc [Ŏa] [Ŏa] (zS KP):=by ac_rfl
variable(qd:mg Ġ=Ä)
def D1:=HD ϐg [Ŏa] 1 Zd
def y0b(a:zO K ϐg KP):D1 P w K mg Ë:=(ĺ).oS P w Ë 0 Zd y71 yE λb=>(Αd (yp (ii rfl rfl qd Z_ Tj rfl HF Í)))
abbrev KH:Ø:=top 62
def y6w:zc [Ŏa] [Ŏa] (zS KH):=by ac_rfl
def Bw:=HD ϱg [Ŏa] 1 Wf
def y05(a:zO K ϱg KH):Bw P w K mg Ë:=(ĺ).oS P w Ë 0 Wf y6w yE λb=>(Αd (yp (ii rfl rfl qd Zz Ti rfl HE Í)))
abbrev Hk:Ø:=top 71
def y6e:zc [Ϣ] [Ϣ] (zS Hk):=by ac_rfl
variable(Pl:mg ųa=Ä)
def Br:=HD ϸh [Ϣ] 1 Ui
def z9c(a:zO K ϸh Hk):Br P w K mg Ë:=(ĺ).oS P w Ë 0 Ui y6e yE λd=>(Β (y7r rfl rfl Pl (yp (y83 (y81 rfl (wG (own:=[ōa]) rfl) (y8b (i:=0) rfl (by first|show Ťi rfl|show ŀc à|show ŀc ŝa)) (Ζa (xJ [Ϣ] [ōa])) žc (Η ϛj)) (z0d (z0e 0)))) zH))
abbrev Kq:Ø:=top 78
def y7a:zc [ϻ] [ϻ] (zS Kq):=by ac_rfl
variable(Xz:mg Ša=Ä)
def D9:=HD Īh [ϻ] 1 Uu
def y0z(a:zO K Īh Kq):D9 P w K mg Ë:=(ĺ).oS P w Ë 0 Uu y7a yE λb=>(Ξ (wt rfl (wG (own:=[ėa]) rfl) (ιa (y84 rfl rfl Xz Ŝa)) (Ωa (Αa (xJ [ϻ] [ėa]))) (Ο (jP (zx łb tM (zC Ĉe) ņa Ą))) (Ο (ο (ω Ϝh)))))
abbrev Hl:Ø:=top 79
def y6f:zc Àd Àd (zS Hl):=by ac_rfl
def Bs:=HD Űh Àd 1 Wb
def z9d(a:zO K Űh Hl):Bs P w K mg Ë:=(ł).oS P w Ë 0 Wb y6f yE λb=>(Β (y7n Ϧa ğ Ę zH {rfl,rfl,rfl,rfl}))
abbrev Hd:Ø:=jr (top 86) 0
def y6a:zc Łd Łd (zS Hd):=by ac_rfl
variable(YT:mg Ź=Ä)(j8:xU mg "MARKS" ąf)(jG:∀H,zW K H kI ąf)(xn:wY K [ĸ] Ĵ)(tF:wY K [ĸ] ϛa)(qy:wY K [ĸ] ϻ)
def z95{f:Ì}{c:Ļ}(d:wR K Ϡa ûl Hd f c):y_ P w K mg Ë yu 1 f c Łd ϴn:=Ŏc P w mg Ë 0 WV y6a vg λe=>(wU (jv ύ xn (GJ (NX rfl qd όa))) (wU (jv ύ tF (GJ (ζb (Ζd (νb (Τa (xJ [ĭ,Ĵ,ŉi] ["mark"]))) (ο (zB ðd ϲc)))))) (wb (jv ύ qy (GJ (y80 rfl YT Iq Āb))))))
abbrev Hy:Ø:=top 87
def y6n:zc Ľ Ľ (zS Hy):=by ac_rfl
def Bu:HT:=λP w K mg Ë=>wB P w K mg Ë Ċf Ľ 1 (xB K Ul)
def z9p(a:zO K Ċf Hy):Bu P w K mg Ë:=(ł).oM P w Ë 0 Ul y6n vg λb=>(ξ (vj Ĕa))
abbrev Hs:Ø:=top 89
def y6i:zc Ľ Ľ (zS Hs):=by ac_rfl
def Bt:HT:=λP w K mg Ë=>wB P w K mg Ë áf Ľ 1 (xB K Be)
def z9j(a:zO K áf Hs):Bt P w K mg Ë:=(ł).oM P w Ë 0 Be y6i vg λb=>(ξ (jE Óc))
abbrev KU:Ø:=top 94
def y74:zc Ŷg Ŷg (zS KU):=by ac_rfl
def D3:=HD ϴh Ŷg 1 Bm
def y0f(a:zO K ϴh KU):D3 P w K mg Ë:=(Ïb).oS P w Ë 0 Bm y74 yE λb=>(zQ (Βb (zf GU Va Ę Ł)) (zQ (Βb (zf e8 Va Ę Ł)) (Β (zf y2d Va Ę Ł))))
abbrev Ke:Ø:=top 103
def y76:zc Ľ Ľ (zS Ke):=by ac_rfl
def D7:=HD üi Ľ 1 Wi
def y0n(a:zO K üi Ke):D7 P w K mg Ë:=(ł).oS P w Ë 0 Wi y76 yE λb=>(Λ Äg (Β ϋj) (yV Äg (Β (iX ϋj)) yd) (Οd (zC Ĕa)))
abbrev HY:Ø:=jr ŏb 2
def y68:zc [ĭ] [ĭ] (zS HY):=by ac_rfl
variable(k6:wY K [á] äb)(X5:wY K [á] Ϣ)(TN:wY K [á] Őa)
def z92{f:Ì}{b:Ļ}(d:wR K ĝc ýl HY f b):y_ P w K mg Ë yu 1 f b [ĭ] ϻn:=d.oF P w mg Ë 0 gD y68 yE λa=>(Β (iY (ηb (wP ğ k6) (wP ğ TN)) (Xm (ηb (zZ ŭb zY ıj zH) (vm (zB yZ zM) ĩd)))))
abbrev HW:Ø:=jr ŏb 5
def y67:zc [ĭ] [ĭ] (zS HW):=by ac_rfl
variable(pq:wY K [á] Ńa)
def z90{f:Ì}{a:Ļ}(d:wR K Ķa Ōk HW f a):y_ P w K mg Ë yu 1 f a [ĭ] Áo:=d.oF P w mg Ë 0 WT y67 yE λb=>(Ξ (NX rfl qd (Γ (wP ϵe xn))))
abbrev HU:Ø:=jr ŏb 6
def y65:zc [ĭ] [ĭ] (zS HU):=by ac_rfl
variable(pM:mg ō=Ä)
def z8y{f:Ì}{c:Ļ}(d:wR K Ϫd Ĳl HU f c):y_ P w K mg Ë yu 1 f c [ĭ] Ão:=d.oF P w mg Ë 0 WR y65 yE λe=>(Β (Οb (Ζd (νb (Αa (xJ ["self"] ["mark"]))) (zZ (zX (zR e)) zY (wP ϵe tF) Ę))))
abbrev Hc:Ø:=jr ŏb 10
def y69:zc [ĭ] [ĭ] (zS Hc):=by ac_rfl
variable(X4:wY K [á] şb)
def z94{f:Ì}{a:Ļ}(d:wR K Ϩd ıl Hc f a):y_ P w K mg Ë yu 1 f a [ĭ] Ào:=d.oF P w mg Ë 0 WU y69 yE λb=>(Β (wP ğ X4))
abbrev KO:Ø:=top 118
def y70:zc [Ľb] [Ľb] (zS KO):=by ac_rfl
variable(Cd:xU mg Ŏn Ěc)(Gq:∀H,zW K H Ěc Ěc)(Cc:xU mg ūm ĉa)(Gp:∀H,zW K H ĉa ĉa)
def D0:=HD Ūh [Ľb] 1 IE
def y0a(a:zO K Ūh KO):D0 P w K mg Ë:=(ĺ).oS P w Ë 0 IE y70 yE λb=>(Β (iY (vM YC YB ϗa Ϩa Ą) (Xm (J4 (vM LF vE (zC (Vn JR JQ (wK Cc Gp rfl))) ϗa Ą) (Xm (vM LF vE ϗa (zC (wK Cd Gq rfl)) Ą))))))
abbrev Kb:Ø:=top 128
def y75:zc Ŵd Ŵd (zS Kb):=by ac_rfl
def D6:=HD ϒg Ŵd 1 Us
def y0k(a:zO K ϒg Kb):D6 P w K mg Ë:=(ł).oS P w Ë 0 Us y75 y5u λb=>(zQ (yV (zx gb vE ğa îb Ą) (Β Ĉe) yd) (zU (zl zH)))
abbrev KZ:Ø:=top 130
def Ld:zc [Ìk,ŕe,ęm,ĸd] ųn (zS KZ):=by ac_rfl
variable(tT:mg ğb=Ä)
def D5:=HD áh ųn 1 Yp
def y0j(a:zO K áh KZ):D5 P w K mg Ë:=(ł).oS P w Ë 0 Yp Ld yE λb=>(zQ (gf (i:=2) Ld.nd rfl à Ûc) (zQ (Ν (Z0 rfl tT ãl) (ξa (yO (i:=3) Ld.nd rfl à)) (zQ (ge (qv 2) (zf pE pC ğ zH)) (zU (yG (i:=0) Ld.nd rfl à (zf LD L9 ğ zH))))) (zU (YO 2))))
abbrev Kj:Ø:=top 14
def NM:zc [Ŏ,ýi,"moved","fallen"] ϊe (zS Kj):=by ac_rfl
variable(j9:xU mg Ūm ϊd)(jH:∀H,zW K H ϊd ϊd)(tI:DA P w K mg Ë)
def AY:=HD Ùh ϊe 2 Bn
def y0r(a:zO K Ùh Kj):AY P w K mg Ë:=(ł).oS P w Ë 1 Bn NM yE λb=>(zQ (yG (i:=2) NM.nd rfl à (zf kY kU ğ Ę)) (zQ (yG (i:=3) NM.nd rfl à (ξc (Ρa (zB īe ŋb)))) (Ψa (zB (Βd ϝn) Ŷb))))
abbrev Kk:Ø:=top 15
def iN:zc [Ŏ,ýi,"fallen"] ϊe (zS Kk):=by ac_rfl
def AZ:=HD ϯg ϊe 2 Bo
def y0s(a:zO K ϯg Kk):AZ P w K mg Ë:=(ł).oS P w Ë 1 Bo iN yE λb=>(zQ (yG (i:=2) iN.nd rfl à (ξc (Ι (zB (zf kZ kW Ę zH) ŋb)))) (Ψa (zB ϟk Āb)))
abbrev Hn:Ø:=top 20
def y6g:zc [Ŏ] [Ŏ] (zS Hn):=by ac_rfl
def A0:=HD Įh [Ŏ] 2 Wc
def z9f(a:zO K Įh Hn):A0 P w K mg Ë:=(ĺ).oS P w Ë 1 Wc y6g yE λd=>(Β (Lg I_ LB rfl pM V3 (Γ (μ (wG (own:=[Ŷf]) rfl) (vN Ϥl) (Ζa (xJ [Ņi] [Ŷf])) žc (Η (ze tI d rfl (Ι (zB Ę ŋb))))))))
abbrev KD:Ø:=top 35
def iI:zc [Ïa,ľb,ġa,Ăc] çm (zS KD):=by ac_rfl
variable(E7:B_ P w K mg Ë)(kM:D2 P w K mg Ë)
def AJ:=HD Ŋi çm 2 jf
def z9z(a:zO K Ŋi KD):AJ P w K mg Ë:=(Ïb).oS P w Ë 1 jf iI yE λb=>(Λ öe (Β (ze E7 b rfl Āb)) (yV öe (Β (vM (y21 Ϧa) y02 Ôb (zC Ŋe) Ža)) yd) (zQ (yG (i:=3) iI.nd rfl à (uE öe ϩk (zZ Æa zY ϧk zH))) (Β (ωb ŀm))))
abbrev Ky:Ø:=top 39
def y7e:zc [Ϙ] [Ϙ] (zS Ky):=by ac_rfl
variable(Y2:Bz P w K mg Ë)
def Ai:=HD Ŧh [Ϙ] 2 Zg
def y18(a:zO K Ŧh Ky):Ai P w K mg Ë:=(ĺ).oS P w Ë 1 Zg y7e yE λd=>(Ξ (wt rfl (wG (own:=[Ϯa]) rfl) ϭb (Ζa (xJ [Ϙ] [Ϯa])) (Μa (Ω (ze Y2 d rfl όa))) ϛk))
abbrev KY:Ø:=top 40
def J0:zc [Ϙ,"places",őd,Ϯa] [Ϙ] (zS KY):=by ac_rfl
def AR:=HD ώg [Ϙ] 2 Ur
def y0h(a:zO K ώg KY):AR P w K mg Ë:=(ĺ).oS P w Ë 1 Ur J0 yE λb=>(zQ (gf (i:=1) ϑf rfl à J7) (zQ (yG (i:=2) ϑf rfl à zH) (zQ (Ν ϭb (ξa (yO (i:=3) ϑf rfl à)) (zU (yV Ćg (zU (JG Ϧa Úe Þc Ł)) (zU (l7 (i:=2) El GQ ϑf rfl à zH))))) śd)))
abbrev KA:Ø:=top 50
def y6s:zc ϑh ϑh (zS KA):=by ac_rfl
variable(OX:D8 P w K mg Ë)
def AH:=HD Üh ϑh 2 pS
def z9w(a:zO K Üh KA):AH P w K mg Ë:=(ł).oS P w Ë 1 pS y6s yE λb=>(zQ (Βb (ze OX b rfl Ŝd)) (zQ (yV (uZ (qc íe (pI íe))) (Β (uE (wQ (iZ Ę yZ)) (ze OX b rfl (Γ (Li Ę (JA zH) J9))) xR)) yd) ÿm))
abbrev Kf:Ø:=top 52
def Xl:zc [ōa,"names",ìa,Ϯa,"ahead"] [ōa] (zS Kf):=by ac_rfl
variable(QB:By P w K mg Ë)
def AU:=HD ϰg [ōa] 2 Ut
def y0o(a:zO K ϰg Kf):AU P w K mg Ë:=(ĺ).oS P w Ë 1 Ut Xl yE λb=>(zQ (gf (i:=1) Xl.nd rfl à J7) (zQ (Ν ϭb Ϣi (zU (yV (uZ (Vu ök (JI Ćg))) (zU (JG Ϧa Úe Þc uD)) yd))) (M3 1 (zQ (gf (i:=4) Xl.nd rfl à J7) (zQ (Ν ϭb Ϣi (Λ (zx YC YB Ϡb Ϩa Ą) Ņd (yV (uZ (Vu (wQ (ze QB b rfl Ŷb)) (JI (zx (GV Ϧa) GS (zC (zZ Æa zY Ϲ Ðh)) ğa Ža)))) Ņd yd) (zU (yV Ćg (zQ (yV (zx ěc jx (zC Ϣk) (iA 4) Ža) Ņd yd) (zU (JG Ϧa (qv 4) Ϣk uD))) yd)))) (M3 4 ăb))))))
abbrev Ko:Ø:=top 55
def y78:zc ϕh ϕh (zS Ko):=by ac_rfl
def Ac:=HD Ąh ϕh 2 Zf
def y0x(a:zO K Ąh Ko):Ac P w K mg Ë:=(ł).oS P w Ë 1 Zf y78 yE λb=>(θd (Ι (zB Ĕa Ÿe)))
abbrev N7:Ø:=top 56
def y7g:zc Åh Åh (zS N7):=by ac_rfl
variable(QL:DF P w K mg Ë)
def Ap:=HD ϭg Åh 2 jg
def y1j(a:zO K ϭg N7):Ap P w K mg Ë:=(Ïb).oS P w Ë 1 jg y7g yE λb=>(Β (ze QL b rfl (Ι (zB Ĕa (zB Ĕa Āb)))))
abbrev K7:Ø:=top 67
def y6q:zc Æh Æh (zS K7):=by ac_rfl
variable(QH:DC P w K mg Ë)
def AE:=HD ϵh Æh 2 Bi
def z9t(a:zO K ϵh K7):AE P w K mg Ë:=(Ïb).oS P w Ë 1 Bi y6q yE λb=>(Ρ (zx Qf vE (zC Ég) îb Ą) Ļm (Ρb (οc (zB (zZ Æa zY ğ Ég) (zB (wK j9 jH rfl) zM)))))
abbrev KG:Ø:=top 77
def y6v:zc [ġa] [ġa] (zS KG):=by ac_rfl
variable(Tu:xU mg Ŵl ĉa)(Qk:∀H,zW K H ĉa ĉa)
def AM:=HD Úh [ġa] 2 Up
def y04(a:zO K Úh KG):AM P w K mg Ë:=(ĺ).oS P w Ë 1 Up y6v yE λb=>(Β (ωb (Ι Ĳk)))
abbrev Hh:Ø:=top 80
def y6c:zc ϖh ϖh (zS Hh):=by ac_rfl
def Sx:=HD Þh ϖh 2 WZ
def z99(a:zO K Þh Hh):Sx P w K mg Ë:=(ł).oS P w Ë 1 WZ y6c yE λb=>(θd (zB Ϟk (zB zH Ĳk)))
abbrev Kt:Ø:=top 83
def y7d:zc ŀd ŀd (zS Kt):=by ac_rfl
variable(Tv:xU mg Ům ϡ)(Ql:∀H,zW K H ϡ ϡ)
def Ad:HT:=λP w K mg Ë=>wB P w K mg Ë ĩh ŀd 2 (xB K Wl)
def y13(a:zO K ĩh Kt):Ad P w K mg Ë:=(Ïb).oM P w Ë 1 Wl y7d vg λb=>(wb (QY Ϧa ύ Ę (vj (Βd ık))))
abbrev Ht:Ø:=top 88
def y6j:zc Ľ Ľ (zS Ht):=by ac_rfl
def A6:HT:=λP w K mg Ë=>wB P w K mg Ë àf Ľ 2 (xB K Bf)
def z9k(a:zO K àf Ht):A6 P w K mg Ë:=(ł).oM P w Ë 1 Bf y6j vg λb=>(ξ (jE (ze QL b rfl (zB Óc (zB zH (zB zH Ÿe))))))
abbrev K_:Ø:=top 91
def y7f:zc Ĩg Ĩg (zS K_):=by ac_rfl
variable(OS:Bq P w K mg Ë)(EU:DD P w K mg Ë)
def Aj:=HD ϱh Ĩg 2 Wn
def y1b(a:zO K ϱh K_):Aj P w K mg Ë:=(Ģn).oS P w Ë 1 Wn y7f yE λb=>(zQ (Νd (zB Ł ϲc)) (zQ (Νd ŀm) (Β (ze EU b rfl (ω (Ρa (Γ (J4 ðd (Xm (vM (xP (yY b)) xN ϗa Ġb Ą))))))))))
abbrev Ki:Ø:=top 92
def y77:zc ϓh ϓh (zS Ki):=by ac_rfl
def AX:HT:=λP w K mg Ë=>wB P w K mg Ë ŧh ϓh 2 (xB K Yr)
def y0q(a:zO K ŧh Ki):AX P w K mg Ë:=(ł).oM P w Ë 1 Yr y77 vg λb=>(wU (Ηb (vj (vM òb xN ğa ņa Ą))) (wb (Ηb (vj (Υc (ω (zB (zf kZ kW īe zH) ŋb)))))))
abbrev ND:Ø:=top 106
def y7k:zc [Ķa] [Ķa] (zS ND):=by ac_rfl
variable(OK:xU mg ül ϡ)(LP:∀H,zW K H ϡ ϡ)
def Au:=HD Õh [Ķa] 2 IH
def y1p(a:zO K Õh ND):Au P w K mg Ë:=(ĺ).oS P w Ë 1 IH y7k yE λc=>(Λ õk (zU (qF (y82 (uX ŋb ĩd) ϥl))) (χ (Γb Ŕj (zx (tO (yY c)) tM îb (zC ϥl) Ą))) (zQ (yV (Ω (Κb (wt rfl (wG (own:=ϗh) rfl) ϭb (vA (γa (Αa (xJ [Ķa] ϗh))) rfl) ŏg (γa (ze kM c rfl (ω ϝn)))))) YN yd) (Ξ (NX rfl qd Ϲm))))
abbrev HS:Ø:=jr ŏb 1
def y64:zc [ĭ] [ĭ] (zS HS):=by ac_rfl
variable(TQ:wY K [á] Ąb)(TR:wY K [á] Ϻa)(Ep:IJ P w K mg Ë ĸ Łd 1 ϴn)
def z8x{f:Ì}{a:Ļ}(d:wR K ϫd ĳl HS f a):y_ P w K mg Ë yu 3 f a [ĭ] ϲn:=Ŏc P w mg Ë 2 ZV y64 vg λb=>(wU (jv ύ pq (dU Ep b rfl (jt (uu ύ TR) (jt (uu ύ TQ) jD)))) (wU (jv ύ k6 Įi) (wb (jv ύ X4 Įi))))
abbrev HV:Ø:=jr ŏb 7
def y66:zc [ĭ] [ĭ] (zS HV):=by ac_rfl
variable(EM:D9 P w K mg Ë)
def z8z{f:Ì}{a:Ļ}(d:wR K Şa þl HV f a):y_ P w K mg Ë yu 2 f a [ĭ] Âo:=d.oF P w mg Ë 1 WS y66 yE λb=>(Ξ (pG EM b rfl (Γ (wP ϵe qy))))
abbrev Kd:Ø:=top 129
def iL:zc [ϻa,ĸd,úl] Ŵd (zS Kd):=by ac_rfl
variable(EF:D6 P w K mg Ë)
def AT:=HD Čh Ŵd 2 gz
def y0m(a:zO K Čh Kd):AT P w K mg Ë:=(ł).oS P w Ë 1 gz iL yE λb=>(zQ (yG (i:=2) iL.nd rfl à (zf xO xM (Ξa (zf xO xM (ψb (ze EF b rfl Ÿb)) ãl) (zf tN jy zH (ς ϗa))) zH)) (Β (Θa (ψb (zf pE pC (zf y25 y0t Ł Ł) zH)))))
abbrev KJ:Ø:=top 34
def NK:zc [ġa,Ïa,"fields"] [ġa] (zS KJ):=by ac_rfl
variable(Cz:AJ P w K mg Ë)
def AN:=HD ŭh [ġa] 3 Zb
def y06(a:zO K ŭh KJ):AN P w K mg Ë:=(ĺ).oS P w Ë 2 Zb NK yE λb=>(zQ (yV (Γb (k_ .tuple rfl rfl ux pM V3 ϗa) Ûk) όb yd) (zQ (yG (i:=1) NK.nd rfl ŝa ϕa) (Λ (Γb (k_ .str rfl rfl ux gi V2 ğa) ϫk) όb (yG (i:=2) NK.nd rfl à Ϩk) (zQ (yV Ãj όb yd) (Β (Κb (wt rfl (wG (own:=Ųn) rfl) ĵj (Χb (οb (Τa (xJ Ϥj Ųn)) (Μb (xJ Ϥj [ϝd,ŉi])))) ìc (Ο (ze Cz b rfl (ω (zB Ϲ (Γ űi))))))))))))
abbrev N2:Ø:=top 41
def iS:zc ϑl [Ϙ] (zS N2):=by ac_rfl
variable(ED:AR P w K mg Ë)(XN:Ai P w K mg Ë)
def Al:=HD Øh [Ϙ] 3 Yt
def y1e(a:zO K Øh N2):Al P w K mg Ë:=(ĺ).oS P w Ë 2 Yt iS yE λb=>(zQ (yG (i:=1) iS.nd rfl ŝa (ze ED b rfl Ŝa)) (Ξ (wt rfl (wG (own:=[ϲ]) rfl) (vN äl) (Ωa (Λb (xJ ϑl [ϲ]))) ìc (Ο (uE (wQ (ze QB b rfl ϸm)) (zZ Æa zY Ę (zZ Æa zY Ł Ðh)) xR)))))
abbrev Kx:Ø:=top 49
def NQ:zc [Ĵ,Ïa,"fields"] [Ĵ] (zS Kx):=by ac_rfl
variable(Cy:AH P w K mg Ë)
def Ah:=HD ħh [Ĵ] 3 Wm
def y17(a:zO K ħh Kx):Ah P w K mg Ë:=(ĺ).oS P w Ë 2 Wm NQ yE λb=>(zQ (yG (i:=1) NQ.nd rfl à ϕa) (Λ (uZ (qc öe (pI ϫk))) ăb (yG (i:=2) NQ.nd rfl à Ϩk) (zQ (yV Ãj ăb yd) (Β (Οb (Ξa (yp (uX Ŝd ĩd)) (μ (wG (own:=[ϝd,Ņi]) rfl) ĵj (Χb (οb (Τa òj) (η (yO (i:=4) (show(òj).Nodup by rw[ÿo]) rfl à)))) ìc (Ο (ze Cy b rfl (zB ðd (zB űi zM)))))))))))
abbrev KC:Ø:=top 58
def Vj:zc [ϲ,Ŏa,Ŏ,ľb,ϻ,ìa] Ŵn (zS KC):=by ac_rfl
variable(Eo:DT K Yl)(Y3:Ap P w K mg Ë)(Q8:Bv P w K mg Ë)(QD:DB P w K mg Ë)
def AI:=HD Ûh Ŵn 3 qp
def z9y(a:zO K Ûh KC):AI P w K mg Ë:=(ł).oS P w Ë 2 qp Vj yE λb=>(zQ (ιc (zB zH (zB Ģd όa))) (zQ (Ν (J8 rfl g7 (yp (pG Q8 b rfl ϟn)) (y7u ğ (JA zH) J9)) (Χa (yO (i:=3) Vj.nd rfl à) (η (yO (i:=4) Vj.nd rfl à))) (zQ (yG (i:=5) Vj.nd rfl à (uE (zx òb xN Ϡb Ġb Ą) (y7o j8 jG Eo rfl Âa) Âa)) (zU (ιc (Ρa (zB (ze QD b rfl (zB ϕa Ŷb)) Ϟn)))))) Ņd))
abbrev Ho:Ø:=top 59
def y6h:zc [Ŏ] [Ŏ] (zS Ho):=by ac_rfl
variable(XM:Ac P w K mg Ë)
def A3:=HD ůh [Ŏ] 3 ZZ
def z9g(a:zO K ůh Ho):A3 P w K mg Ë:=(ĺ).oS P w Ë 2 ZZ y6h yE λb=>(Β (Αc (Ι (Γ Ģd))))
abbrev KF:Ø:=top 64
def iJ:zc [Ŏ,Ïa,ľb,ìa] èm (zS KF):=by ac_rfl
def AL:=HD Ůh èm 3 qq
def y01(a:zO K Ůh KF):AL P w K mg Ë:=(Ïb).oS P w Ë 2 qq iJ yE λb=>(zQ (yG (i:=3) iJ.nd rfl à (Αc (Ι (Γ (ze QD b rfl Łm))))) (Ρ (zx łb tM Ôb Ġb Ą) ϝh (uE (zx gb vE Ϡb (zC (ς (zC Ŋe))) Ą) (zZ Æa zY Ŋe Ϲ) xR)))
abbrev KR:Ø:=top 76
def y73:zc [ġa] [ġa] (zS KR):=by ac_rfl
variable(E4:AM P w K mg Ë)
def AO:=HD ũh [ġa] 3 Uq
def y0d(a:zO K ũh KR):AO P w K mg Ë:=(ĺ).oS P w Ë 2 Uq y73 yE λb=>(Ρ (Γb (k_ .tuple rfl rfl ux pM V3 Ód) (zx łb tM îb ņa Ą)) όb (J4 (ze E4 b rfl ϟn) (Xm (ωb (zB ϕa ık)))))
abbrev KE:Ø:=top 81
def y6u:zc [ėa] [ėa] (zS KE):=by ac_rfl
variable(Q3:Sx P w K mg Ë)
def AK:=HD Ĉh [ėa] 3 Yo
def y00(a:zO K Ĉh KE):AK P w K mg Ë:=(ĺ).oS P w Ë 2 Yo y6u yE λd=>(Ξ (wt rfl đd (Z0 rfl tT zH) (Ζa (xJ [ėa] [ìa])) žc (Η (ze Q3 d rfl Ÿb))))
abbrev K6:Ø:=top 90
def iH:zc [Ńa,ϲ,ōa] Ľ (zS K6):=by ac_rfl
variable(XJ:AX P w K mg Ë)(ES:Aj P w K mg Ë)
def AD:HT:=λP w K mg Ë=>wB P w K mg Ë ϡb Ľ 3 (xB K gF)
def z9s(a:zO K ϡb K6):AD P w K mg Ë:=(ł).oM P w Ë 2 gF iH vg λb=>(wU (Y7 (i:=2) iH.nd rfl à Í (jE (ze ES b rfl (ψd (zB Óc (Γ (zZ Æa zY (wP ğ tF) yZ))))))) (wU (Ηb (vj éc)) (wU (Φb (tz éc jD)) (wb (Oz (QZ (zx łb tM (zC Ĕa) Ġb Ą)) (ξ (vj éc)) O_)))))
abbrev Hr:Ø:=top 93
def iF:zc [Ńa,ϲ,Ŏ] Ľ (zS Hr):=by ac_rfl
variable(EB:D3 P w K mg Ë)
def A5:HT:=λP w K mg Ë=>wB P w K mg Ë Ϲc Ľ 3 (xB K Uj)
def z9i(a:zO K Ϲc Hr):A5 P w K mg Ë:=(ł).oM P w Ë 2 Uj iF vg λb=>(wU (Y7 (i:=2) iF.nd rfl à Í (jE (ze EB b rfl (ψd (zB Óc zM))))) (wU (Φb Èn) (ξ Ûi)))
abbrev Hw:Ø:=top 95
def NJ:zc [Ńa,ϲ,Ŏ,ōa] Ľ (zS Hw):=by ac_rfl
variable(EJ:AY P w K mg Ë)(EK:AZ P w K mg Ë)
def A9:HT:=λP w K mg Ë=>wB P w K mg Ë Ŭd Ľ 3 (xB K ID)
def z9n(a:zO K Ŭd Hw):A9 P w K mg Ë:=(ł).oM P w Ë 2 ID NJ vg λb=>(wU (Y7 (i:=2) NJ.nd rfl à Í (jE Óc)) (wU (Y7 (i:=3) NJ.nd rfl à Í (vj (uE Äg (ze EJ b rfl Ŀm) (ze EK b rfl Ŀm)))) (wU (Oz (QZ (zx Vc Vb (zC Þc) Ϩa Ą)) (wb (Ηb (vj Þc))) O_) (wU (Φb (tz Þc jD)) (ξ (vj Þc))))))
abbrev Hg:Ø:=top 96
def y6b:zc Ľ Ľ (zS Hg):=by ac_rfl
def Sw:=HD ßh Ľ 3 ZX
def z98(a:zO K ßh Hg):Sw P w K mg Ë:=(ł).oS P w Ë 2 ZX y6b yE λb=>(Β (ze Q3 b rfl (zB (zZ Æa zY (wP ğ xn) Ĕa) Ÿe)))
abbrev Hi:Ø:=top 111
def Vi:zc Ŋj Ϫc (zS Hi):=by ac_rfl
def Sy:=HD ċh Ϫc 3 Uh
def z9a(a:zO K ċh Hi):Sy P w K mg Ë:=(ł).oS P w Ë 2 Uh Vi yE λc=>(zQ (yG (i:=2) çe rfl à (yp (ζb (μ đd Üi (vA (γa (yO (i:=6) (show(xJ Ŋj [ìa]).Nodup by rw[ÿo]) rfl à)) rfl) ŏg (γa (ο (zB ūf ϲc))))))) (zQ (gf (i:=4) çe rfl à Ûc) (zQ (yG (i:=5) çe rfl à zH) (zQ (Ν (Αe (zC (ze XN c rfl Ŝa))) (ξa (yO (i:=3) çe rfl à)) (zQ Řl (zU (l7 (i:=5) El GQ çe rfl à (uE (zx (jz (zR c)) jx Ϡb Ôb Ža) zH zH))))) (zQ Řl (zU (YO 4)))))))
abbrev Kc:Ø:=top 131
def J1:zc [ϻa,"_law_first",ŕe,ęm,ĸd,úl] ík (zS Kc):=by ac_rfl
variable(VH:AT P w K mg Ë)
def AS:=HD àh ík 3 Ze
def y0l(a:zO K àh Kc):AS P w K mg Ë:=(Ïb).oS P w Ë 2 Ze J1 yE λb=>(zQ (yG (i:=3) ϐf rfl à zH) (zQ (Ν (Z0 rfl tT Ł) (ξa (yO (i:=4) ϐf rfl à)) (zQ (yG (i:=5) ϐf rfl à (ze VH b rfl (Ι (Γ (zf xO xM Ę Âa))))) (zU (yG (i:=3) ϐf rfl à (Ξa (zf tN Qc Ϲ zH) (zZ Æa zY (yp (uX (zB (Θa (zf tN Qc ũa zH)) (zB ϕn (zB zH (zB zH (Γ (Θa (zf LD L9 ũa zH))))))) (xH (yM (yM (yM Ág))) Í))) ϕn)))))) ϝh))
abbrev KS:Ø:=top 48
def NL:zc [Ĵ,Ϯa] [Ĵ] (zS KS):=by ac_rfl
variable(ER:Ah P w K mg Ë)(E6:AN P w K mg Ë)
def AQ:=HD Ćh [Ĵ] 4 gx
def y0e(a:zO K Ćh KS):AQ P w K mg Ë:=(ĺ).oS P w Ë 3 gx NL yE λb=>(zQ (yG (i:=1) NL.nd rfl à (ze ER b rfl Ŝa)) (Ρ (uZ (Vu Ûk (JI (wQ (y7m ϕa yZ))))) (zU (yG (i:=1) NL.nd rfl à (ο (zB yZ (Γ (Li ϕa J9 (JA Ðh))))))) (uE (wQ (ze E6 b rfl Ŝd)) Ę xR)))
abbrev Kw:Ø:=top 63
def J2:zc [Ŏ,Ŏa,Ïa,ϲ,"known"] [Ŏ] (zS Kw):=by ac_rfl
variable(Q5:A3 P w K mg Ë)(EC:D4 P w K mg Ë)(C_:AL P w K mg Ë)(QC:D1 P w K mg Ë)(kL:AI P w K mg Ë)
def Ag:=HD ϳh [Ŏ] 4 Ys
def y16(a:zO K ϳh Kw):Ag P w K mg Ë:=(ĺ).oS P w Ë 3 Ys J2 yE λb=>(zQ (yG (i:=1) Ϗf rfl à (ze Q5 b rfl Ŝa)) (zQ (yG (i:=2) Ϗf rfl ŝa (ze EC b rfl όa)) (Λ ôk ăb (yG (i:=3) Ϗf rfl à (Οb (Ξa (yp (uX Āb ĩd)) (μ (wG (own:=[ϝd]) rfl) (ιa (pG Q8 b rfl Āb)) (Ωa (yO (i:=5) (show(xJ [Ŏ,Ŏa,"kind",ϲ,"known"] [ϝd]).Nodup by rw[ÿo]) rfl à)) ìc (Ο (ze C_ b rfl (Ι (Ρa (zB ũa zM))))))))) (zQ (yV (zx ěc jx Ϩa Ϡb Ža) ăb yd) (zQ (yG (i:=4) Ϗf rfl à (uE (wQ (ze QC b rfl όa)) (ze Y3 b rfl (Ι (zB Ģd ŋb))) ğ)) (Β (uE (zx òb xN (zC (ze kL b rfl (zB Ϲ Ŝd))) Ğf Ą) Ϲ xR)))))))
abbrev Hm:Ø:=top 75
def NI:zc [Şa,ϻ,"pair"] [Şa] (zS Hm):=by ac_rfl
variable(E9:AO P w K mg Ë)
def S_:=HD Ýh [Şa] 4 ZY
def z9e(a:zO K Ýh Hm):S_ P w K mg Ë:=(ĺ).oS P w Ë 3 ZY NI yE λb=>(zQ (gf (i:=1) NI.nd rfl à J7) (Λ õk śd (χ (Ω Ŕj)) (zQ (Ν ϭb (ξa (yO (i:=2) NI.nd rfl à)) (zQ (χ (Ω (ze E9 b rfl Āb))) (zQ (χ (zx ěc jx (zC éc) (iA 1) Ža)) (zU (JG Ϧa Úe éc éc))))) śd)))
abbrev N9:Ø:=top 82
def y7h:zc Àd Àd (zS N9):=by ac_rfl
variable(EZ:DG P w K mg Ë)(Q9:AK P w K mg Ë)(Q4:Bs P w K mg Ë)
def Aq:=HD Ťh Àd 4 Uy
def y1l(a:zO K Ťh N9):Aq P w K mg Ë:=(ł).oS P w Ë 3 Uy y7h yE λb=>(Β (ze EZ b rfl (Γ (μ (wG (own:=[öd]) rfl) (ιa (pG Q9 b rfl Ŝd)) (Ωa (δc (xJ [ŉi,"address"] [öd]))) ìc (Ο (ze Q4 b rfl (Ι ϸm)))))))
abbrev Ku:Ø:=top 84
def NO:zc [ϻ,ėa,Ŏ,öd,"byte"] ŀd (zS Ku):=by ac_rfl
variable(QF:Ad P w K mg Ë)(Ck:A0 P w K mg Ë)
def Ae:HT:=λP w K mg Ë=>wB P w K mg Ë Ĩh ŀd 4 (xB K Uv)
def y14(a:zO K Ĩh Ku):Ae P w K mg Ë:=(Ïb).oM P w Ë 3 Uv NO vg λb=>(wb (z68 Ñc rfl (J8 rfl g7 (yp (pG Q9 b rfl όa)) (ze Ck b rfl Āb)) (z61 (Γa (yO (i:=3) NO.nd rfl à) (η (yO (i:=4) NO.nd rfl à))) rfl rfl Í Í) (Νa (XX QF b rfl (jt ύ (tz Ϲ (tz Âa jD)))))))
abbrev Hu:Ø:=top 97
def y6k:zc Ľ Ľ (zS Hu):=by ac_rfl
variable(kK:Sw P w K mg Ë)
def A7:HT:=λP w K mg Ë=>wB P w K mg Ë ßf Ľ 4 (xB K Bg)
def z9l(a:zO K ßf Hu):A7 P w K mg Ë:=(ł).oM P w Ë 3 Bg y6k vg λb=>(ξ (jE (ze Q4 b rfl āj)))
abbrev Hz:Ø:=top 99
def y6o:zc Ľ Ľ (zS Hz):=by ac_rfl
def AB:HT:=λP w K mg Ë=>wB P w K mg Ë Áf Ľ 4 (xB K Bh)
def z9q(a:zO K Áf Hz):AB P w K mg Ë:=(ł).oM P w Ë 3 Bh y6o vg λb=>(Νa (XX QF b rfl Ðj))
abbrev Hq:Ø:=top 117
def iE:zc [Ϙ,ŷf,"at"] Ϫc (zS Hq):=by ac_rfl
variable(Xx:mg Ńb=Ä)(Cg:Sy P w K mg Ë)(EV:Al P w K mg Ë)
def A4:=HD ϑg Ϫc 4 We
def z9h(a:zO K ϑg Hq):A4 P w K mg Ë:=(ł).oS P w Ë 3 We iE yE λb=>(zQ (yG (i:=2) iE.nd rfl ŝa (yp (pG Cg b rfl Ÿb))) (zU (qF (wt rfl (wG (own:=[ìa,"target"]) rfl) (NY rfl Xx (ze EV b rfl Ŝa)) (Χb (Γa (Τa þj) (Μb þj))) ìc (Ο (uE (zx YC YB Ğf Ϩa Ą) xR (zf kZ kW Þg (zZ Æa zY Ł Ϲ))))))))
abbrev NC:Ø:=top 120
def y7j:zc [ϲ] [ϲ] (zS NC):=by ac_rfl
def As:=HD Ϭg [ϲ] 4 Wq
def y1o(a:zO K Ϭg NC):As P w K mg Ë:=(ĺ).oS P w Ë 3 Wq y7j yE λb=>(Β (δb (uW VD Qn rfl ϕa)))
abbrev Kl:Ø:=top 122
def iO:zc [ϲ,Ľb,őd] ųd (zS Kl):=by ac_rfl
variable(QJ:DE P w K mg Ë)
def Aa:=HD ąh ųd 4 Bp
def y0u(a:zO K ąh Kl):Aa P w K mg Ë:=(ł).oS P w Ë 3 Bp iO yE λb=>(zQ (yG (i:=2) iO.nd rfl à Ģd) (Β (ze Y3 b rfl (zB (δb (uW Z_ Qp rfl ϕa)) (Ρa (Ξd (zB éc zM)))))))
abbrev K9:Ø:=top 123
def y6r:zc ųd ųd (zS K9):=by ac_rfl
def AG:=HD ĉh ųd 4 Bj
def z9v(a:zO K ĉh K9):AG P w K mg Ë:=(ł).oS P w Ë 3 Bj y6r yE λb=>(zU (qF (uX (zB (δb (uW Zz Qo rfl ϕa)) (Ξd (zB īe zM))) þd)))
abbrev N4:Ø:=top 46
def J3:zc [ņi,ōa,ìa,ϲ,Ĵ] ħc (zS N4):=by ac_rfl
variable(Ef:DH P w K mg Ë)(EA:AQ P w K mg Ë)
def An:=HD ăh ħc 5 Ux
def y1g(a:zO K ăh N4):An P w K mg Ë:=(ĺ).oS P w Ë 4 Ux J3 yE λb=>(zQ (gf (i:=1) ώf rfl à Ûc) (zQ (Ν (NY rfl Xx (yp (il ğ yZ))) (Χa (yO (i:=2) ώf rfl à) (η (yO (i:=3) ώf rfl à))) (zQ (yG (i:=4) ώf rfl à (ze Ef b rfl Ŷb)) (zU (yV (zx (tO (yY b)) tM Ğf Êh Ą) (zU (ge Úe (ο (Ρa (Γ (ze EA b rfl Ϸm)))))) yd)))) śd))
abbrev N3:Ø:=top 66
def Lf:zc [Ĵ,ėa,ϲ,Ŏa,őd] Ŷn (zS N3):=by ac_rfl
variable(EQ:Ag P w K mg Ë)(E5:Bw P w K mg Ë)(Cu:AE P w K mg Ë)
def Am:=HD ťh Ŷn 5 gH
def y1f(a:zO K ťh N3):Am P w K mg Ë:=(ł).oS P w Ë 4 gH Lf yE λb=>(Λ (Οa (zx gb vE ğa ņa Ą) (pI (zx Qf vE ğa îb Ą))) ăb (yG (i:=2) Lf.nd rfl à (ze EQ b rfl Ϝh)) (zQ (yV ôk ăb yd) (zQ (yG (i:=3) Lf.nd rfl à (ze Q5 b rfl Ϝh)) (zQ (yV (wQ (ze E5 b rfl Ŷb)) (Β (ze Cu b rfl (Ι Łm))) yd) (Ρ (wQ (ze QC b rfl (Γ ðd))) (zQ (yG (i:=4) Lf.nd rfl à Ģd) (Β (Ρb (οc (zB (Αc (zB Ĉe Ϸm)) (zB ϡk zM)))))) (Ρb (zB xR zM)))))))
abbrev Hv:Ø:=top 98
def y6l:zc Ľ Ľ (zS Hv):=by ac_rfl
variable(EX:Aq P w K mg Ë)
def A8:HT:=λP w K mg Ë=>wB P w K mg Ë Âf Ľ 5 (xB K Uk)
def z9m(a:zO K Âf Hv):A8 P w K mg Ë:=(ł).oM P w Ë 4 Uk y6l vg λb=>(ξ (jE (ze EX b rfl āj)))
abbrev H_:Ø:=top 100
def y6p:zc Ľ Ľ (zS H_):=by ac_rfl
variable(EN:Ae P w K mg Ë)
def AC:HT:=λP w K mg Ë=>wB P w K mg Ë ϫe Ľ 5 (xB K Um)
def z9r(a:zO K ϫe H_):AC P w K mg Ë:=(ł).oM P w Ë 4 Um y6p vg λb=>(Νa (XX EN b rfl Ðj))
abbrev HR:Ø:=jr ŏb 0
def y63:zc Čd Čd (zS HR):=by ac_rfl
variable(P6:qN P w K mg Ë á ϫd [ĭ] 3 ϲn)(Ee:Au P w K mg Ë)(Cj:S_ P w K mg Ë)
def z8w{f:Ì}{b:Ļ}(d:wR K Ϡa Źk HR f b):y_ P w K mg Ë yu 5 f b Čd ϵn:=Ŏc P w mg Ë 4 WQ y63 vg λa=>(wU (jv ύ X5 (vj Ę)) (wU (jv ύ TN Ûi) (wU (jv ύ TR (vj (yp (pG Ee a rfl Ŷb)))) (wU (jv ύ TQ (vj (yp (pG Cj a rfl (Γ Âa))))) (Νa (dW P6 a ύ))))))
abbrev Km:Ø:=top 116
def Le:zc [Ϙ,ŷf,ũm,"chosen","near"] Ϫc (zS Km):=by ac_rfl
variable(Q6:A4 P w K mg Ë)(E8:D0 P w K mg Ë)
def Ab:=HD ύg Ϫc 5 Wj
def y0w(a:zO K ύg Km):Ab P w K mg Ë:=(ł).oS P w Ë 4 Wj Le yE λd=>(zQ (yG (i:=2) Le.nd rfl ŝa (ze Q6 d rfl Ÿb)) (zQ (yG (i:=3) Le.nd rfl ŝa (yp (ζb (yp (wt rfl đd Üi Ϛf žc (Η (vm (zB ũa ϲc) Ϥe))))))) (zQ (l8 (i:=4) rfl Le.nd rfl rfl đd rfl (Αe (zC ϲb)) Ϛf (Μa (zx (GV ůi) GS (zC ũa) Ϡb ώj)) ϥn) (Ξ (wt rfl đd (vN Âa) Ϛf (Μa (Ω (ze E8 d rfl (Γ (zZ (zX ůi) zY ϲb ũa))))) ϥn)))))
abbrev Kv:Ø:=top 45
def NP:zc [ņi,ōa,"wrong"] ħc (zS Kv):=by ac_rfl
variable(EW:An P w K mg Ë)(EH:AU P w K mg Ë)
def Af:=HD Ňi ħc 6 Uw
def y15(a:zO K Ňi Kv):Af P w K mg Ë:=(ĺ).oS P w Ë 5 Uw NP yE λc=>(zQ (yG (i:=1) NP.nd rfl à (ze EW c rfl Ŝa)) (zQ (yG (i:=2) NP.nd rfl à (ze EH c rfl όa)) (zQ (χ (zx Vc Vb Ôb Ϩa Ą)) (Ξ (wt rfl (wG (own:=[ìa,Ϯa]) rfl) Üi (Θc (γa (Γa (Τa ój) (Μb ój)))) ŏg (λC s H b d=>Âa))))))
abbrev N6:Ø:=top 70
def Vk:zc [Ĵ,Ϣ,ėa,ōa] [Ĵ] (zS N6):=by ac_rfl
variable(OY:Am P w K mg Ë)
def Ao:=HD ϰh [Ĵ] 6 Wp
def y1i(a:zO K ϰh N6):Ao P w K mg Ë:=(ĺ).oS P w Ë 5 Wp Vk yE λb=>(zQ (gf (i:=1) Vk.nd rfl à J7) (zQ (yG (i:=2) Vk.nd rfl à zH) (zQ Ìj (zQ (l9 Ñc ök (zQ (JG Ϧa Úe Ł Ϲ) (zQ (yG (i:=2) Vk.nd rfl à Þc) (zU Ìj)))) śd))))
abbrev Hx:Ø:=top 102
def y6m:zc Ľ Ľ (zS Hx):=by ac_rfl
variable(OJ:xU mg "DEEDS" êo)(O2:Zi K w mg WL gO bQ)(Cr:Bu P w K mg Ë)(Cn:A6 P w K mg Ë)(Cm:Bt P w K mg Ë)(XI:AD P w K mg Ë)(Q7:A5 P w K mg Ë)(OT:A9 P w K mg Ë)(Co:A7 P w K mg Ë)(Cp:A8 P w K mg Ë)(Cs:AB P w K mg Ë)(Ct:AC P w K mg Ë)
def AA:HT:=λP w K mg Ë=>wB P w K mg Ë Ϸh Ľ 6 (xB K Za)
def z9o(a:zO K Ϸh Hx):AA P w K mg Ë:=(ł).oM P w Ë 5 Za y6m vg λb=>(wb (Oz (QZ (y91 OJ O2 rfl Ĕa)) (Νa (z5t OJ O2 rfl (øa Cr Í (øa Cn Í (øa Cm Í (øa XI Í (øa XI Í (øa XI Í (øa XI Í (øa XI Í (øa Q7 Í (øa Q7 Í (øa Q7 Í (øa OT Í (øa OT Í (øa Co Í (øa Cp Í (øa Cs Í (øa Ct Í v8.nil))))))))))))))))) b Ĕa (jt ύ (tz Ę jD)))) O_))
abbrev K8:Ø:=top 115
def Q_:zc [Ϙ,ŷf,"lacking"] [Ϙ] (zS K8):=by ac_rfl
variable(OW:Ab P w K mg Ë)
def AF:=HD ĭh [Ϙ] 6 Uo
def z9u(a:zO K ĭh K8):AF P w K mg Ë:=(ĺ).oS P w Ë 5 Uo Q_ yE λb=>(zQ (yG (i:=1) Q_.nd rfl à (yp Ûc)) (zQ ñj (zQ (l9 Ñc (zx łb tM Ôb Êh Ą) (zQ (yG (i:=1) Q_.nd rfl à (yp (y86 rfl Xz (Γ (zf xO xM Ę Ł))))) (zU ñj))) ÿm)))
abbrev NA:Ø:=top 68
def Vl:zc [Ĵ,Ϣ,Őa,ėa,ōa,"target"] [Ĵ] (zS NA):=by ac_rfl
variable(QK:Ao P w K mg Ë)(Ci:Br P w K mg Ë)
def Ar:=HD Öh [Ĵ] 7 Uz
def y1m(a:zO K Öh NA):Ar P w K mg Ë:=(ĺ).oS P w Ë 6 Uz Vl yE λb=>(zQ (yG (i:=1) æe rfl à ål) (zQ (yG (i:=2) æe rfl à (ze Ci b rfl όa)) (Λ (zx łb tM Ôb îb Ą) Ņd (y90 (y8y Ñc rfl (y8a (i:=1) rfl (by first|show Ťi rfl|show ŀc à|show ŀc (ŀc rfl))) (Χa (yO (i:=3) æe rfl à) (η (yO (i:=4) æe rfl à))) (zQ (yG (i:=5) æe rfl à ϡk) (zU (yV (uZ (Vu (zx Vc Vb Úf Ϩa Ą) (Vu (zx łb tM Úf Ôb Ą) (JI (zx (GV Ϧa) GS Úf ğa Ža))))) ϝh yd)))) (z0b (z0c 1))) ăb)))
abbrev HZ:Ø:=jr ŏb 3
def iB:zc [ĭ,ōa] [ĭ] (zS HZ):=by ac_rfl
variable(JU:qN P w K mg Ë á ĝc [ĭ] 1 ϻn)(Cq:AA P w K mg Ë)(EG:D7 P w K mg Ë)
def z93{f:Ì}{b:Ļ}(d:wR K Åe Ųl HZ f b):y_ P w K mg Ë yu 7 f b [ĭ] ϰn:=Ŏc P w mg Ë 6 gE iB vg λa=>(wU (Oz (QZ (wQ (Lh JU a ğ))) êl O_) (wU (Y7 (i:=1) iB.nd rfl à Í (jE ıj)) (wU (ju (XX Cq a rfl (jt (uu ύ pq) (tz Ķg jD)))) (wU (jv ύ k6 (jE (uE (wQ (ze EG a rfl (zB ϵe (Γ (zZ ϲm zY Ę zH))))) Ķg Ķg))) (wU (z67 ύ X4 zH) êl)))))
abbrev NG:Ø:=top 121
def Vm:zc [Ϙ,ŷf,ũm,Ĵ,ìa,ϲ] [Ϙ] (zS NG):=by ac_rfl
variable(Cv:AF P w K mg Ë)(Ec:As P w K mg Ë)(Cw:AG P w K mg Ë)(EL:Aa P w K mg Ë)
def Av:=HD Ţh [Ϙ] 7 T4
def y1r(a:zO K Ţh NG):Av P w K mg Ë:=(ĺ).oS P w Ë 6 T4 Vm yE λb=>(zQ (yG (i:=1) åe rfl à (ze Cv b rfl Ŝa)) (zQ (yG (i:=2) åe rfl à (ze Q6 b rfl Ÿb)) (zQ (gf (i:=3) åe rfl à Ûc) (zQ (Ν (NY rfl Xx äl) (Χa (yO (i:=4) åe rfl à) (η (yO (i:=5) åe rfl à))) (zU (yV (zx YC YB (zC Þg) Ϩa Ą) (zU (ge Źi (ze Ec b rfl Ϟn))) (zU (yV (zx ěc jx Ğf ğa Ža) (zU (Np Źi (pG Cw b rfl Ϥk))) (zU (ge Źi (ze EL b rfl Ϥk)))))))) (zU (YO 3))))))
abbrev N0:Ø:=top 69
def iQ:zc [Ĵ,"wrong"] [Ĵ] (zS N0):=by ac_rfl
variable(EY:Ar P w K mg Ë)
def Ak:=HD Ħh [Ĵ] 8 Zh
def y1c(a:zO K Ħh N0):Ak P w K mg Ë:=(ĺ).oS P w Ë 7 Zh iQ yE λb=>(zQ (yG (i:=1) iQ.nd rfl à (ze EY b rfl Ŝa)) (zQ (χ (zx Vc Vb ğa Ϩa Ą)) (Β ål)))
abbrev HX:Ø:=jr ŏb 4
def NH:zc [ĭ,"most",ýi] Ϟe (zS HX):=by ac_rfl
variable(PC:qN P w K mg Ë á Åe [ĭ] 7 ϰn)
def z91{f:Ì}{a:Ļ}(d:wR K ãe Ëm HX f a):y_ P w K mg Ë yu 8 f a Ϟe ϱn:=Ŏc P w mg Ë 7 ZW NH vg λb=>(wU (Y7 (i:=2) NH.nd rfl à Í Įi) (wU (z69 Ñc (z6l (z6j (QZ (zx gb vE Ôb ğa Ą)) (z6k (z6i (dW PC b ύ))))) (wb (z66 (i:=2) El GQ NH.nd rfl à Í zH))) (wb (L4 Ûi))))
abbrev Hj:Ø:=top 125
def y6d:zc ħc ħc (zS Hj):=by ac_rfl
variable(Eg:Av P w K mg Ë)(EO:Af P w K mg Ë)
def Sz:=HD Ċh ħc 8 Wa
def z9b(a:zO K Ċh Hj):Sz P w K mg Ë:=(ĺ).oS P w Ë 7 Wa y6d yE λb=>(Ξ (pG Eg b rfl (Γ (ze EO b rfl Ŝa))))
abbrev He:Ø:=jr (top 109) 0
def iC:zc [ĭ,Ĵ,Ķa,Şa,Ϣ] Őe (zS He):=by ac_rfl
variable(PM:II P w K mg Ë ŏn Ϡa Čd 5 ϵn)(ET:Ak P w K mg Ë)
def z96{f:Ì}{b:Ļ}(d:wR K Ϡa ãk He f b):y_ P w K mg Ë yu 9 f b Őe ϳn:=Ŏc P w mg Ë 8 WX iC vg λa=>(wU (Y7 (i:=4) iC.nd rfl à Í (vj (ze ET a rfl όa))) (Νa (z5s (pl:=_) PM a rfl (jt ύ (tz Âa (tz (ς ğa) (tz Ł Çn)))))))
abbrev Kg:Ø:=top 126
def iM:zc [ņi,Ķa,Şa,"most","machine"] ěe (zS Kg):=by ac_rfl
variable(Er:IJ P w K mg Ë á Őe 9 ϳn)(PB:qN P w K mg Ë á ãe Ϟe 8 ϱn)(P8:qN P w K mg Ë á Şa [ĭ] 2 Âo)(P7:qN P w K mg Ë á Ϫd [ĭ] 1 Ão)(P9:qN P w K mg Ë á Ķa [ĭ] 1 Áo)(PD:qN P w K mg Ë á Ϩd [ĭ] 1 Ào)(Ch:Sz P w K mg Ë)
def AW:HT:=λP w K mg Ë=>wB P w K mg Ë Ũh ěe 11 (xB K Yq)
def y0p(a:T6 K Ũh Kg ěe):AW P w K mg Ë:=a.hh X G P w Ë λd=>Ŏc P w mg Ë 10 Yq iM vg λb=>(wU (Y7 (i:=4) iM.nd rfl à Í (dU Er b rfl (tz (yp (pG Ch b rfl Ŝa)) (tz Ę Èn)))) (wU (ju (z5u PB b (xQ 4) Çn)) (wb (L4 (z5v (z5w (QX (jE (Lh JU b Âa)) (QX (jE (Lh PD b Âa)) (QX (dS (dX (ik P9 b Âa))) (QX (jE (Lh P7 b Âa)) (QX (dS (dX (ik P8 b Âa))) z65)))))))))))
abbrev Xk:Ø:=top 132
def vL:zc Ϙf [ϻa] (zS Xk):=by ac_rfl
variable(OV:AS P w K mg Ë)(OU:D5 P w K mg Ë)(EI:AW P w K mg Ë)
def y0i{f:Ì}{g:Ļ}(d:Fun K ϱa ϱa Xk f g):y_ P w K mg Ë yu 12 f g [ϻa] ύi:=z53 d vL Í y5t λh A e s H E a=>(zQ (yG (i:=1) Öa rfl à (zf xO xM zH (zf pE pC Ϛj zH))) (zQ (yG (i:=2) Öa rfl à őj) (zQ (yG (i:=3) Öa rfl à őj) (zQ (yG (i:=4) Öa rfl ŝa Ϛj) (zQ (yG (i:=5) Öa rfl à (zZ ŭb zY łj (zf pE pC Âa zH))) (zQ (yG (i:=6) Öa rfl ŝa (Θa (zf LD L9 Âa zH))) (zQ (gf (i:=7) Öa rfl à (uX (Γ (Νb (zC ūf))) ĩd)) (zQ (Ν Ťl Ňj (zQ (ge (qv 7) (Νb (zC (zf tN jy zH (z7 8))))) (zQ ϻi (zQ (ge (qv 7) (zf xO xM (zf xO xM ũa (zZ ŭb zY łj (J6 rq y03 rfl Xy Fk (xy (zC (vM şe xN (zC (z7 8)) (zC zH) Ą)) xz)))) yZ)) (zU ϻi))))) (M3 7 (zQ (yG (i:=9) Öa rfl à (yp Ûc)) (zQ (pH Ñc rfl (ιa (uX (zB (ο (zB Ł ŋb)) (Γ (ο (zB ðd ŋb)))) þd)) (Χa (yO (i:=10) vL.nd rfl à) (η (yO (i:=11) vL.nd rfl ŝa))) (zQ (yG (i:=12) Öa rfl ŝa (Ιd (z7 10))) (zU (yG (i:=9) Öa rfl à (Ξa Űi (Οc İk (Οa (Ψb (zZ ŭb zY (z7 12) Áe)) (pI (zx şe xN (zC (Θa (zf LD L9 űi zH))) ņa Ůi))) (zB (zf xO xM (zf xO xM ūf (z7 11)) Áe) (Γ (zZ ϲm zY (z7 12) Áe))) Ϥe)))))) (zQ (yG (i:=13) Öa rfl à (zf xO xM Ł Ϲ)) (zQ (yV (zx şe xN Úf Ġb Ą) (zU (yG (i:=13) Öa rfl à (zf kZ kW Ł Ϲ))) yd) (zQ (l8 (i:=14) rfl Öa rfl rfl (wG (own:=Éj) rfl) rfl (vN Űi) (Θc (Η (Γa (Ξc ňm) (η (yO (i:=19) (show(ňm).Nodup by rw[ÿo]) rfl à))))) (Μa (Ψb (z7 19))) (Η (vm (zB Áe (Γ (z7 19))) Ϥe))) (zQ (yG (i:=15) Öa rfl ŝa (Ιd (zf pE pC (z7 13) (zf y2b y12 zH zH)))) (zQ (yG (i:=14) Öa rfl à (yp (y85 rfl Xz (Γ (Ξa (z7 14) (Οc İk (Ψb Ĳj) (zB (zf xO xM (zf xO xM ūf zH) Áe) (zB Ĳj zM)) Ϥe)))))) (zQ (yG (i:=16) Öa rfl à zH) (zQ (Ν Ťl Ňj (zU (yG (i:=16) Öa rfl à (ψb (z7 16))))) (zQ (yG (i:=17) Öa rfl à (ze (wB.nc EI) a rfl (zB (zf xO xM (y7q yZ Ŷk) yZ) (zB xR (zB Űi (Γ Ϧn)))))) (Ρ (Οa (zx y27 y0v (zC ϰf) (zC uD) Ą) (qc (Μd (yY a) Ϧn) (pI (Μd (yY a) (z7 14))))) όb (J4 (k_ .bool rfl rfl ux JX aq (zC Ϡk)) (Xm (ηb Ϡk (iX (y7l LF vE gb vE ņa (zC (z7 13)) (zC (z7 16)))))))))))))))))))))))))))
#print a
#print a
def all_mk{l:ύh}{w:å}{K:Ñ}{h:Heap}{a:È->É Value}(X:Ő h)(G:ýa ď a)(hfa:a ϱa=À (.ref fa))(a0:zO K ćh KQ)(a1:zO K þi Hf)(a2:zO K ûi N1)(a3:zO K ňi Kr)(a4:zO K Ăh N8)(a5:zO K ϲh Kz)(a6:zO K ĥh N5)(a7:zO K ţh NB)(a8:zO K ūh KN)(a9:zO K Ĭh KM)(a10:zO K Ŭh KL)(a11:zO K Ĥh NE)(a12:zO K Ϯg Kp)(a13:zO K ũg Ks)(a14:zO K ŗg KB)(a15:zO K Ϗg KW)(a16:zO K ϐg KP)(a17:zO K ϱg KH)(a18:zO K ϸh Hk)(a19:zO K Īh Kq)(a20:zO K Űh Hl)(a21:T7 K ĸ ûl Hd Łd)(a22:qr K Ċf Hy I)(a23:qr K áf Hs B)(a24:zO K ϴh KU)(a25:zO K üi Ke)(a26:ji K á á ĝc ýl HY [ĭ])(a27:ji K á á Ķa Ōk HW [ĭ])(a28:ji K á á Ϫd Ĳl HU [ĭ])(a29:ji K á á Ϩd ıl Hc [ĭ])(a30:zO K Ūh KO)(a31:zO K ϒg Kb)(a32:zO K áh KZ)(a33:zO K Ùh Kj)(a34:zO K ϯg Kk)(a35:zO K Įh Hn)(a36:zO K Ŋi KD)(a37:zO K Ŧh Ky)(a38:zO K ώg KY)(a39:zO K Üh KA)(a40:zO K ϰg Kf)(a41:zO K Ąh Ko)(a42:zO K ϭg N7)(a43:zO K ϵh K7)(a44:zO K Úh KG)(a45:zO K Þh Hh)(a46:zO K ĩh Kt)(a47:qr K àf Ht J)(a48:zO K ϱh K_)(a49:zO K ŧh Ki)(a50:zO K Õh ND)(a51:ji K á á ϫd ĳl HS [ĭ])(a52:ji K á á Şa þl HV [ĭ])(a53:zO K Čh Kd)(a54:zO K ŭh KJ)(a55:zO K Øh N2)(a56:zO K ħh Kx)(a57:zO K Ûh KC)(a58:zO K ůh Ho)(a59:zO K Ůh KF)(a60:zO K ũh KR)(a61:zO K Ĉh KE)(f:qr K ϡb K6 b)(k:qr K Ϲc Hr d)(A:qr K Ŭd Hw i)(a65:zO K ßh Hg)(a66:zO K ċh Hi)(a67:zO K àh Kc)(a68:zO K Ćh KS)(a69:zO K ϳh Kw)(a70:zO K Ýh Hm)(a71:zO K Ťh N9)(a72:zO K Ĩh Ku)(Z:qr K ßf Hu u)(a74:qr K Áf Hz F)(a75:zO K ϑg Hq)(a76:zO K Ϭg NC)(a77:zO K ąh Kl)(a78:zO K ĉh K9)(a79:zO K ăh N4)(a80:zO K ťh N3)(a81:qr K Âf Hv t)(a82:qr K ϫe H_ x)(a83:IC K ŏn Ϡa Źk HR Čd)(a84:zO K ύg Km)(a85:zO K Ňi Kv)(a86:zO K ϰh N6)(a87:zO K Ϸh Hx)(a88:zO K ĭh K8)(a89:zO K Öh NA)(a90:ji K á á Åe Ųl HZ [ĭ])(a91:zO K Ţh NG)(a92:zO K Ħh N0)(a93:ji K á á ãe Ëm HX Ϟe)(a94:zO K Ċh Hj)(a95:T7 K á ãk He Őe)(a96:T6 K Ũh Kg ěe)(a97:Ū K ď ϱa=À (À Øb))(l97:ϋ z=OH ϱa Xk oc97 od97 S q o m r j p)(c97:Ěb K j ϱa=Æ)(k97:âa K Øb=Æ)(z8k:Gn K óc)(z8j:Gn K ϲa)(z8g:Gn K Æe)(z8r:Gn K "sum")(z8t:Gn K Ēa)(z8q:Gn K ãb)(z8l:Gn K "len")(z8f:Gn K "all")(z8m:Gn K Ġ)(z8n:Gn K ųa)(z8p:Gn K Ša)(z8h:Gn K Ź)(z8s:Gn K ō)(z8o:Gn K ğb)(z8i:Gn K Ńb)(X4:wY K [á] şb)(k6:wY K [á] äb)(TN:wY K [á] Őa)(TQ:wY K [á] Ąb)(TR:wY K [á] Ϻa)(O:wY K [ĸ] ϻ)(Y:wY K [á] Ńa)(X5:wY K [á] Ϣ)(N:wY K [ĸ] ϛa)(g:wY K [ĸ] Ĵ)(z72:Gs K "DEEDS" êo)(z7k:Dc K w WL [(őa,x0z,.ref I),(Ħb,x23,.ref J),(ϸb,x2c,.ref B),(Űa,x2j,.ref b),(Ūa,x2o,.ref b),(ŏa,x2t,.ref b),(Ŭa,x2x,.ref b),(ŝb,x31,.ref b),(ţb,x35,.ref d),(ťb,x38,.ref d),(Ãc,x1e,.ref d),(ϯa,x1h,.ref i),(Ģb,x1k,.ref i),(ĥb,x1n,.ref u),(Ôa,x1q,.ref t),(ġb,x1t,.ref F),(õa,x1w,.ref x)])(z6y:Gs K "BEYOND" (.int 4294967296 x0g))(z70:Gs K ŭm ćf)(dt:Tq K Ä WK [.int 0 x4y,.int 8 x51,.int 16 x54,.int 24 x57])(z7a:Gs K űl (.int 8 x0l))(z78:Gs K Őn (.str "abcdefghijklmnopqrstuvwxyz" x0k))(z77:Gs K "JUMPS" Ćf)(du:Tq K Ä WN [.str Ûb x4z,.str Úb x52,.str Ìb x55])(z76:Gs K ųl (.int 5 x0j))(z75:Gs K őn (.str ϓe x0i))(z7f:Gs K İl èo)(z7m:Dc K w WO [(őa,x1b,.int 16 x43),(Ħb,x27,.int 16 x4f),(ϯa,x2g,.int 5 x4j),(Ģb,x2l,.int 5 x4l),(ĥb,x2q,.int 8 x4n),(ġb,x2v,.int 8 x4p),(Ôa,x2z,.int 8 x4r),(õa,x33,.int 8 x4t)])(z7e:Gs K Ěm (.int 0 x0o))(z7g:Gs K "PLACES" ço)(z7n:Dc K w WP [(Ïa,x1c,.ref SM),("d",x28,.ref Sd),("s",x2h,.ref Sh),(όd,x2m,.ref Sj),(Ľb,x2r,.ref Sm)])(z7p:Tp K SM [.int 27 x5h,.int 5 x5i])(z81:Tp K Sd [.int 24 x67,.int 3 x69])(z85:Tp K Sh [.int 21 x6d,.int 3 x6f])(z87:Tp K Sj [.int 24 x6h,.int 2 x6j])(z89:Tp K Sm [.int 0 x6l,.int 5 x6n])(z74:Gs K "FIELDS" éo)(z7l:Dc K w WM [("label",x19,.ref SL),(őa,x25,.ref Sc),(Ħb,x2e,.ref Sg),(ϸb,x2k,.ref Si),(Űa,x2p,.ref Sk),(Ūa,x2u,.ref Sn),(ŏa,x2y,.ref So),(Ŭa,x32,.ref Sq),(ţb,x36,.ref Sr),(ťb,x39,.ref Ss),(Ãc,x1f,.ref SN),(ŝb,x1i,.ref SQ),(ϯa,x1l,.ref SR),(Ģb,x1o,.ref SU),(ĥb,x1r,.ref SV),(ġb,x1u,.ref SX),(Ôa,x1x,.ref SY),(õa,x1z,.ref SZ),(Ûb,x20,.ref Sa),(Úb,x21,.ref Sb),(Ìb,x29,.ref Se),(ëd,x2a,.ref Sf)])(z7o:Tp K SL [.str řf x5g])(z80:Tp K Sc [.str "d" x66,.str "n" x68])(z84:Tp K Sg [.str "d" x6c,.str "n" x6e])(z86:Tp K Si [.str "d" x6g,.str "s" x6i])(z88:Tp K Sk [.str "d" x6k,.str "s" x6m])(z8a:Tp K Sn [.str "d" x6o,.str "s" x6p])(z8b:Tp K So [.str "d" x6q,.str "s" x6r])(z8c:Tp K Sq [.str "d" x6s,.str "s" x6t])(z8d:Tp K Sr [.str "d" x6u,.str "s" x6v])(z8e:Tp K Ss [.str "d" x6w,.str "s" x6x])(z7q:Tp K SN [.str "d" x5j,.str "s" x5k])(z7r:Tp K SQ [.str "d" x5l,.str "s" x5m])(z7s:Tp K SR [.str "d" x5n,.str "n" x5o])(z7t:Tp K SU [.str "d" x5p,.str "n" x5q])(z7u:Tp K SV [.str "d" x5r,.str "s" x5s,.str "n" x5t])(z7v:Tp K SX [.str "d" x5u,.str "s" x5v,.str "n" x5w])(z7w:Tp K SY [.str "d" x5x,.str "s" x5y,.str "n" x5z])(z7x:Tp K SZ [.str "d" x60,.str "s" x61,.str "n" x62])(z7y:Tp K Sa [.str řf x63])(z7z:Tp K Sb [.str όd x64,.str řf x65])(z82:Tp K Se [.str όd x6a,.str řf x6b])(z83:Tp K Sf [])(z71:Gs K "CODES" æo)(GM:Dc K w ZO [(ëd,x0y,.int 0 x40),(őa,x22,.int 1 x4c),(Ħb,x2b,.int 2 x4g),(ϸb,x2i,.int 3 x4k),(Űa,x2n,.int 4 x4m),(Ūa,x2s,.int 5 x4o),(ŏa,x2w,.int 6 x4q),(Ŭa,x30,.int 7 x4s),(ţb,x34,.int 8 x4u),(ťb,x37,.int 9 x4v),(Ãc,x1d,.int 10 x44),(ŝb,x1g,.int 11 x45),(ϯa,x1j,.int 12 x46),(Ģb,x1m,.int 13 x47),(ĥb,x1p,.int 14 x48),(ġb,x1s,.int 15 x49),(Ôa,x1v,.int 16 x4a),(õa,x1y,.int 17 x4b)])(z7c:Gs K ěm äo)(GO:Dc K w ZQ [(Ûb,x1a,.int 18 x42),(Úb,x26,.int 19 x4e),(Ìb,x2f,.int 20 x4i)])(z73:Gs K Ŭm åo)(GN:Dc K w ZP [(Ûb,x18,.int 21 x41),(Úb,x24,.int 22 x4d),(Ìb,x2d,.int 23 x4h)])(z79:Gs K "MARKS" ąf)(dw:Tq K Ä Yl [.str ąc x50,.str źe x53,.str Ğc x56])(z7d:Gs K Ŏn (.int 15 x0n))(z7b:Gs K ūm (.int 16 x0m))(z7i:Gs K Ūm (.int 32 x0q))(z6x:Gs K Ŵl (.int 16 x0f))(z6z:Gs K Ům (.int 8 x0h))(z7h:Gs K ül (.int 8 x0p)): ∃fd:Ļ,(∀(s:Ï)(v:Value),Ýb s fd {[v],[]} [(ϻa,v)])/\∀Ë:Heap,Ő Ë->ád ď a->y_ Į w K a Ë yu 12 fa fd [ϻa] ύi:=by
 let e:=hfa.symm.trans (Śb X G a97);cases e;let E:=tq X G z8k;let Xy:=tq X G z8j;let JX:=tq X G z8g;let Pm:=tq X G z8r;let U:=tq X G z8t;let gi:=tq X G z8q;let c:=tq X G z8l;let Z9:=tq X G z8f;let P:=tq X G z8m;let Pl:=tq X G z8n;let Xz:=tq X G z8p;let YT:=tq X G z8h;let R:=tq X G z8s;let Q:=tq X G z8o;let Xx:=tq X G z8i;let OJ:=gT X G z72;let O2:Zi K w a WL gO bQ:=z06 (fs:=[I,J,B,b,b,b,b,b,d,d,d,i,i,u,t,F,x]) z7k rfl Ýa rfl (.cons (a22.n X G) (.cons (a47.n X G) (.cons (a23.n X G) (.cons żd (.cons żd (.cons żd (.cons żd (.cons żd (.cons Ϫh (.cons Ϫh (.cons Ϫh (.cons Üo (.cons Üo (.cons (Z.n X G) (.cons (a81.n X G) (.cons (a74.n X G) (.cons (a82.n X G) .nil)))))))))))))))));let VC:=gS X G z6y;let Ve:∀H,zW K H Õc Õc:=λ_=>rfl
 let Tx:=gT X G z70;let x87:=Nx dt;let Qm:∀H,zW K H VG ćf:=M8 dt rfl;let Ca:=gS X G z7a;let Go:∀H,zW K H ϡ ϡ:=λ_=>rfl
 let CZ:=cB X G z78;let Gm:∀H,zW K H Ŗc Ŗc:=λ_=>{rfl,įa Í}
 let CY:=gT X G z77;let x88:=Nx du;let Gk:∀H,zW K H OO Ćf:=M8 du rfl;let CW:=gS X G z76;let Gj:∀H,zW K H Ϫa Ϫa:=λ_=>rfl
 let CV:=cB X G z75;let Gi:∀H,zW K H çc çc:=λ_=>{rfl,įa Í}
 let Tz:=gT X G z7f;let Qq:u8 K w WO T_ Q2:=O3 z7m rfl Ýa rfl;let Ce:=gS X G z7e;let Gu:∀H,zW K H Ń Ń:=λ_=>rfl
 let L:=gT X G z7g;let C:u8 K w WP uk ul:=bL z7n rfl Ýa rfl λH=>{_,_,rfl,wj z7p rfl H,{_,_,rfl,wj z81 rfl H,{_,_,rfl,wj z85 rfl H,{_,_,rfl,wj z87 rfl H,{_,_,rfl,wj z89 rfl H,rfl}}}}}
 let kH:=gT X G z74;let kj:u8 K w WM tu kJ:=bL z7l rfl Ýa rfl λH=>{_,_,rfl,wj z7o rfl H,{_,_,rfl,wj z80 rfl H,{_,_,rfl,wj z84 rfl H,{_,_,rfl,wj z86 rfl H,{_,_,rfl,wj z88 rfl H,{_,_,rfl,wj z8a rfl H,{_,_,rfl,wj z8b rfl H,{_,_,rfl,wj z8c rfl H,{_,_,rfl,wj z8d rfl H,{_,_,rfl,wj z8e rfl H,{_,_,rfl,wj z7q rfl H,{_,_,rfl,wj z7r rfl H,{_,_,rfl,wj z7s rfl H,{_,_,rfl,wj z7t rfl H,{_,_,rfl,wj z7u rfl H,{_,_,rfl,wj z7v rfl H,{_,_,rfl,wj z7w rfl H,{_,_,rfl,wj z7x rfl H,{_,_,rfl,wj z7y rfl H,{_,_,rfl,wj z7z rfl H,{_,_,rfl,wj z82 rfl H,{_,_,rfl,wj z83 rfl H,rfl}}}}}}}}}}}}}}}}}}}}}}
 let VD:=gT X G z71;let CA:qt K w ZO jo OP:=C0 (ds:=jp) GM rfl Ýa rfl;let y5d:∀H,ã K H jp OP:=C1 GM rfl;let Qn:u8 K w ZO jo jp:=O3 GM rfl Ýa rfl;let Z_:=gT X G z7c;let Tj:qt K w ZQ XH OR:=C0 (ds:=Y1) GO rfl Ýa rfl;let HF:∀H,ã K H Y1 OR:=C1 GO rfl;let Qp:u8 K w ZQ XH Y1:=O3 GO rfl Ýa rfl;let Zz:=gT X G z73;let Ti:qt K w ZP XG OQ:=C0 (ds:=Y0) GN rfl Ýa rfl;let HE:∀H,ã K H Y0 OQ:=C1 GN rfl;let Qo:u8 K w ZP XG Y0:=O3 GN rfl Ýa rfl;let j8:=gT X G z79;let Eo:=Nx dw;let T:∀H,zW K H kI ąf:=M8 dw rfl;let Cd:=gS X G z7d;let Gq:∀H,zW K H Ěc Ěc:=λ_=>rfl
 let Cc:=gS X G z7b;let Gp:∀H,zW K H ĉa ĉa:=λ_=>rfl
 let j9:=gS X G z7i;let jH:∀H,zW K H ϊd ϊd:=λ_=>rfl
 let Tu:=gS X G z6x;let Qk:∀H,zW K H ĉa ĉa:=λ_=>rfl
 let Tv:=gS X G z6z;let Ql:∀H,zW K H ϡ ϡ:=λ_=>rfl
 let OK:=gS X G z7h;let LP:∀H,zW K H ϡ ϡ:=λ_=>rfl
 let F97:=c7 (st:=Xk) l97 c97 k97;show{Ľc ϱa ϱa (q_ Xk) (w_ Xk) (zS Xk) .none q o m r j p,λs v=>.of_eq rfl,λbase _ _=>?_};let kM:D2 Į w K a Ë:=y0c X G E Xy JX a0;let OS:Bq Į w K a Ë:=z97 X G VC Ve a1;let EU:DD Į w K a Ë:=y1d X G VC Ve a2;let y:DA Į w K a Ë:=y10 X G a3;let QL:DF Į w K a Ë:=y1k X G a4;let QH:DC Į w K a Ë:=y19 X G a5;let QJ:DE Į w K a Ë:=y1h X G a6;let EZ:DG Į w K a Ë:=y1n X G Pm U Tx Qm a7;let E7:B_ Į w K a Ë:=y09 X G E gi c Z9 Ca Go CZ Gm a8;let Y2:Bz Į w K a Ë:=y08 X G a9;let QB:By Į w K a Ë:=y07 X G CY Gk a10;let Ef:DH Į w K a Ë:=y1q X G a11;let OX:D8 Į w K a Ë:=y0y X G Xy c Z9 CW Gj CV Gi a12;let QD:DB Į w K a Ë:=y11 X G Tz Qq Ce Gu L C a13;let Q8:Bv Į w K a Ë:=z9x X G kH kj a14;let EC:D4 Į w K a Ë:=y0g X G VD Qn Z_ Qp Zz Qo CA Tj Ti a15;let QC:D1 Į w K a Ë:=y0b X G Z_ Tj HF P a16;let E5:Bw Į w K a Ë:=y05 X G Zz Ti HE P a17;let Ci:Br Į w K a Ë:=z9c X G Pl a18;let EM:D9 Į w K a Ë:=y0z X G Xz a19;let Q4:Bs Į w K a Ë:=z9d X G a20;let Ep:=a21.hh X G Į w Ë (z95 P YT j8 T g N O);let Cr:Bu Į w K a Ë:=z9p X G g a22.2;let Cm:Bt Į w K a Ë:=z9j X G g a23.2;let EB:D3 Į w K a Ë:=y0f X G a24;let EG:D7 Į w K a Ë:=y0n X G N a25;let JU:=(a26.hh Į w a Ë (z92 k6 X5 TN)).1;let P9:=(a27.hh Į w a Ë (z90 P g Y)).1;let P7:=(a28.hh Į w a Ë (z8y j8 T N Y R)).1;let PD:=(a29.hh Į w a Ë (z94 X4)).1;let E8:D0 Į w K a Ë:=y0a X G Cd Gq Cc Gp a30;let EF:D6 Į w K a Ë:=y0k X G c a31;let OU:D5 Į w K a Ë:=y0j X G Q a32;let EJ:=y0r X G j9 jH y a33;let EK:=y0s X G y a34;let Ck:=z9f X G Tx Qm R y a35;let Cz:=z9z X G Tz Qq L C j8 T E7 kM a36;let XN:=y18 X G Y2 a37;let ED:=y0h X G Y2 a38;let Cy:=z9w X G OX a39;let EH:=y0o X G Y2 QB a40;let XM:=y0x X G y a41;let Y3:=y1j X G QL a42;let Cu:=z9t X G c j9 jH QH a43;let E4:=y04 X G kM Tu Qk a44;let Q3:=z99 X G y Tu Qk a45;let QF:=y13 X G y Tv Ql a46;let Cn:=z9k X G g QL a47.2;let ES:=y1b X G OS EU a48;let XJ:=y0q X G N j9 jH y a49;let Ee:=y1p X G E c Z9 P j9 jH kM OK LP a50;let P6:=(a51.hh Į w a Ë (z8x k6 Y X4 TQ TR Ep)).1;let P8:=(a52.hh Į w a Ë (z8z O Y EM)).1;let VH:=y0m X G c EF a53;let E6:=y06 X G E U gi c Z9 kH kj R Cz a54;let EV:=y1e X G QB ED XN a55;let ER:=y17 X G U c kH kj R Cy a56;let kL:=z9y X G U L C j8 T Eo Y3 Q8 QD a57;let Q5:=z9g X G L C XM a58;let C_:=y01 X G c j8 T QD XM a59;let E9:=y0d X G E c R kM Tv Ql E4 a60;let Q9:=y00 X G Q Q3 a61;let XI:=z9s X G g N XJ ES f.2;let Q7:=z9i X G g XJ EB k.2;let OT:=z9n X G g N XJ EJ EK A.2;let kK:=z98 X G g Q3 a65;let Cg:=z9a X G c YT Q XN a66;let OV:=y0l X G Q VH a67;let EA:=y0e X G c ER E6 a68;let EQ:=y16 X G L C R Y3 Q8 Q5 EC C_ QC kL a69;let Cj:=z9e X G E P E9 a70;let EX:=y1l X G EZ Q9 Q4 a71;let EN:=y14 X G U Q9 QF Ck a72;let Co:=z9l X G g O Q4 kK Z.2;let Cs:=z9q X G g O QF kK a74.2;let Q6:=z9h X G Xx Cg EV a75;let Ec:=y1o X G VD Qn kL a76;let EL:=y0u X G L C Z_ Qp Y3 kL QJ a77;let Cw:=z9v X G Zz Qo j9 jH kL QJ a78;let EW:=y1g X G Xx Ef EA a79;let OY:=y1f X G c L C QH XM Q5 QC EQ E5 Cu a80;let Cp:=z9m X G g O kK EX a81.2;let Ct:=z9r X G g O kK EN a82.2;let PM:=a83.hh X G Į w Ë (z8w X5 TN TQ TR P6 Ee Cj);let OW:=y0w X G c YT Q Q6 E8 a84;let EO:=y15 X G EW EH a85;let QK:=y1i X G OY a86;let Cq:=z9o X G OJ O2 Cr Cn Cm XI Q7 OT Co Cp Cs Ct a87;let Cv:=z9u X G Xz OW a88;let EY:=y1m X G c QK Ci a89;let PC:=(a90.hh Į w a Ë (z93 k6 X5 Y X4 JU Cq EG)).1;let Eg:=y1r X G XN Xx Q6 Cv Ec Cw EL a91;let ET:=y1c X G QK EY a92;let PB:=(a93.hh Į w a Ë (z91 PC)).1;let Ch:=z9b X G Eg EO a94;let Er:=a95.hh X G Į w Ë (z96 c PM ET);let EI:=y0p X G JU Er PB P8 P7 P9 PD Ch a96;show y0i E Xy JX gi c Xz Q VH OV OU EI F97
def walk{l:ύh}{q:ë}{b:Á È}{o:šg->Heap->Ç}{i:å->Heap->Ç}{d:DefRec}{K:Ŧf->Ñ}(j:œi=À 63)(e:Èl=[])(v:∀(w:å)(h:Heap),i w h->(Ĉb).In h)(F:∀(w:å)(c:È->É Value)(g:Ì)(h:Heap),(Ĉb).In h->ýa ď c->c d.name=À ði->
   ∃fd:Ļ,(∀(s:Ï)(u:Value),Ýb s fd {[u],[]} [(ϻa,u)])/\∀Ë:Heap,(Ĉb).In Ë->ád ď c->y_ Į w Ĉb c Ë yu 12 g fd [ϻa] (JB Ĉb)) :
  W.WalkO q b o i æh d [] Ϫj:=
 L3.walkB (n:=63) (k:=12) (x := ϻa) (sp:=JB) j Í e {rfl,by decide,by decide,rfl} v F λ_ _ a m r p t=>{a,m,rfl,t,r,p,λ_=>rfl}
#print My
end
open Lean in
local macro_rules|`(universe $x)=>return rb0 (fb0 .missing) (mkNullNode (<-(("o_653 o_904 o_407 o_794 o_665 o_440 o_773 sts_260 o_272 o_819 o_456 o_646 o_322 o_341 o_887 o_846 o_489 o_613 o_329 o_882 o_197 o_677 o_176 o_702 tree_407 o_423 o_212 o_487 o_79 o_796 tree_322 tree_108 o_750 tree_257 o_832 o_721 tree_541 o_310 tree_489 tree_818 o_217 o_473 o_520 o_160 sts_408 o_190 sts_254 o_851 o_606 tree_778 sts_124 o_818 o_525 o_714 o_447 o_641 o_896 o_903 o_598 o_386 o_908 o_901 o_274 o_501 o_144 tree_167 o_218 o_741 o_691 o_875 o_468 o_367 sts_904 o_260 o_662 o_165 o_49 o_620 sts_168 o_254 sts_687 o_574 o_634 o_408 o_823 o_348 o_716 o_267 o_158 o_729 o_343 tree_684 o_362 o_806 o_655 o_553 o_350 o_369 sts_490 o_811 o_395 sts_325 o_889 tree_241 o_779 o_461 tree_93 sts_244 o_153 o_853 o_296 o_336 o_214 o_124 o_255 o_627 o_470 o_435 o_355 sts_663 o_298 o_338 o_590 o_648 o_660 o_393 o_542 o_804 o_426 o_534 o_454 o_731 o_188 o_894 o_687 tree_216 o_813 tree_123 o_611 o_360 o_265 o_277 o_555 heap_39 o_320 o_707 o_353 o_146 o_209 o_639 o_860 heap_911 o_682 tree_910 o_625 o_449 o_174 o_672 o_743 o_480 o_522 tree_903 o_844 o_539 o_405 o_168 o_700 o_873 view_39 o_315 o_684 o_490 o_305 sts_598 o_825 o_331 sts_217 o_816 o_416 o_325 o_244 o_207 o_64 o_109 o_604 o_738 sts_779 o_618 o_532 tree_597 o_576 o_597 o_313 o_709 o_723 o_204 o_388 o_167 o_858 o_482 o_595 o_757 o_588 o_503 tree_78 o_517 tree_251 o_151 o_679 o_541 sts_819 o_433 o_755 o_428 o_303 sts_542 o_279 o_663 o_527 o_202 o_475 tree_662 o_94 o_442 o_463 o_383 o_308".splitOn).toArray++(Array.range' 910 1).map (s!"o_{·}")).mapM λi=>`(def $(mkIdent (.mkSimple s!"tw{(Name.str x.getId i).hash}")):ident:=Nat)))
namespace PySem.W.Fast
universe PySem.Challenge.cw_markrun_k93_whole_great_sums_holds
def tw12790923001487034317:=Nat
end PySem.W.Fast
open PySem PySem.W PyProof.Rows
set_option maxRecDepth 100000 in
set_option maxHeartbeats 0 in
theorem PySem.Challenge.cw_markrun_k93_whole_great_sums_holds : PySem.Challenge.rw_markrun_k93_whole_great_sums.Holds := by
 w_on;o_law;k_head;(case hw=>w_witness2)
 k_fill
 refine My.walk (l:=PySem.Challenge.rw_markrun_k93_whole_great_sums) rfl rfl (λw h Y=>PySem.W.kIn_of Y) ?F
 case F=>
  intro w e d h c G b;refine' My.all_mk c G b ?a0 ?a1 ?a2 ?a3 ?a4 ?a5 ?a6 ?a7 ?a8 ?a9 ?a10 ?a11 ?a12 ?a13 ?a14 ?a15 ?a16 ?a17 ?a18 ?a19 ?a20 ?a21 ?a22 ?a23 ?a24 ?a25 ?a26 ?a27 ?a28 ?a29 ?a30 ?a31 ?a32 ?a33 ?a34 ?a35 ?a36 ?a37 ?a38 ?a39 ?a40 ?a41 ?a42 ?a43 ?a44 ?a45 ?a46 ?a47 ?a48 ?a49 ?a50 ?a51 ?a52 ?a53 ?a54 ?a55 ?a56 ?a57 ?a58 ?a59 ?a60 ?a61 ?a62 ?a63 ?a64 ?a65 ?a66 ?a67 ?a68 ?a69 ?a70 ?a71 ?a72 ?a73 ?a74 ?a75 ?a76 ?a77 ?a78 ?a79 ?a80 ?a81 ?a82 ?a83 ?a84 ?a85 ?a86 ?a87 ?a88 ?a89 ?a90 ?a91 ?a92 ?a93 ?a94 ?a95 ?a96 ?a97 ?l97 ?c97 ?k97 ?a200 ?a201 ?a202 ?a203 ?a204 ?a205 ?a206 ?a207 ?a208 ?a209 ?a210 ?a211 ?a212 ?a213 ?a214 ?a215 ?a216 ?a217 ?a218 ?a219 ?a220 ?a221 ?a222 ?a223 ?a224 ?a225 ?a226 ?a227 ?a228 ?a229 ?a230 ?a231 ?a232 ?a233 ?a234 ?a235 ?a236 ?a237 ?a238 ?a239 ?a240 ?a241 ?a242 ?a243 ?a244 ?a245 ?a246 ?a247 ?a248 ?a249 ?a250 ?a251 ?a252 ?a253 ?a254 ?a255 ?a256 ?a257 ?a258 ?a259 ?a260 ?a261 ?a262 ?a263 ?a264 ?a265 ?a266 ?a267 ?a268 ?a269 ?a270 ?a271 ?a272 ?a273 ?a274 ?a275 ?a276 ?a277 ?a278 ?a279 ?a280 ?a281 ?a282 ?a283
  all_goals try first|exact L3.fnp_mk (by k_is) (by k_is) (by k_is) (by k_is)|exact L3.gn_mk (by k_is)|exact L3.gs_mk (by k_is)|exact L3.dc_mk (by simp only[List.map_cons,List.map_nil];k_is) (by decide)|exact L3.tp_mk (by k_is)|exact L3.tq_mk (by k_is)|exact L3.fnq_mk (by k_is) (by k_is) (by k_is) (by k_is)|exact L3.mtp_mk (L3.mtc_mk (by k_is) (L3.cls_mk (by k_is) (by k_is) (by k_is) (by k_is)) (by k_is)) (L3.mtc_mk (by k_is) (L3.cls_mk (by k_is) (by k_is) (by k_is) (by k_is)) (by k_is)) (L3.mdp_mk (by k_is) (by k_is) (by k_is) (by k_is) (by first|exact .all (L3.us1 λ_=>rfl)|exact .all (L3.us2 λ_ _=>rfl)|exact .all (L3.us3 λ_ _ _=>rfl)|exact .all (L3.us4 λ_ _ _ _=>rfl)|exact .all (L3.us5 λ_ _ _ _ _=>rfl)|(refine L3.bd2 λ_ _ _ a=>?_;apply PySem.W.binds_K a rfl;k_is;all_goals rfl)|(refine L3.bd4 λ_ _ _ _ _ a=>?_;apply PySem.W.binds_K a rfl;k_is;all_goals rfl)))|exact L3.mkp_mk (by k_is) (by k_is) (by k_is) (by k_is) (L3.mdp_mk (by k_is) (by k_is) (by k_is) (by k_is) (by first|exact .all (L3.us1 λ_=>rfl)|exact .all (L3.us2 λ_ _=>rfl)|exact .all (L3.us3 λ_ _ _=>rfl)|exact .all (L3.us4 λ_ _ _ _=>rfl)|exact .all (L3.us5 λ_ _ _ _ _=>rfl)|(refine L3.bd2 λ_ _ _ a=>?_;apply PySem.W.binds_K a rfl;k_is;all_goals rfl)|(refine L3.bd4 λ_ _ _ _ _ a=>?_;apply PySem.W.binds_K a rfl;k_is;all_goals rfl)))|exact L3.cmp_mk (by k_is) (by k_is) (by k_is) (by k_is) (L3.mdp_mk (by k_is) (by k_is) (by k_is) (by k_is) (by first|exact .all (L3.us1 λ_=>rfl)|exact .all (L3.us2 λ_ _=>rfl)|exact .all (L3.us3 λ_ _ _=>rfl)|exact .all (L3.us4 λ_ _ _ _=>rfl)|exact .all (L3.us5 λ_ _ _ _ _=>rfl)|(refine L3.bd2 λ_ _ _ a=>?_;apply PySem.W.binds_K a rfl;k_is;all_goals rfl)|(refine L3.bd4 λ_ _ _ _ _ a=>?_;apply PySem.W.binds_K a rfl;k_is;all_goals rfl)))|exact L3.fldk_cons (by k_is) (L3.cls_mk (by k_is) (by k_is) (by k_is) (by k_is)) (by k_is) L3.fldk_nil|exact L3.mkd_mk (by k_is) (by k_is) (by k_is) (by k_is) (by k_is) (by k_is) (by k_is) (by k_is) (by(refine L3.bd3 λ_ _ _ _ a=>?_;apply PySem.W.binds_K a rfl;k_is;all_goals rfl))|exact L3.fnd_mk (by k_is) (L3.mdp_mk (by k_is) (by k_is) (by k_is) (by k_is) (by first|exact .all (L3.us1 λ_=>rfl)|exact .all (L3.us2 λ_ _=>rfl)|exact .all (L3.us3 λ_ _ _=>rfl)|exact .all (L3.us4 λ_ _ _ _=>rfl)|exact .all (L3.us5 λ_ _ _ _ _=>rfl)|(refine L3.bd2 λ_ _ _ a=>?_;apply PySem.W.binds_K a rfl;k_is;all_goals rfl)|(refine L3.bd4 λ_ _ _ _ _ a=>?_;apply PySem.W.binds_K a rfl;k_is;all_goals rfl)))
  all_goals try (first|k_is|k_exc|kit_is|kts_exm)
  all_goals decide
