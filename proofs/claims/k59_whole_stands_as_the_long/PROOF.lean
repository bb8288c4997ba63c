import PyProof.Rows.All
import Wide.All
import OpenK.AllK
import Wide.FinOn
import Lean
import PyProof.EqAt
import PyProof.EqKinds
import PyProof.TupleCall
import PySem.Challenge.RW_markrun_k59_whole_stands_as_the_long
set_option Elab.async false
set_option linter.all false
set_option maxRecDepth 100000
set_option genSizeOf false
set_option genInjectivity false
set_option compiler.extract_closed false
set_option bootstrap.genMatcherCode false
section
open Lean
def rb0(f:Syntax→Syntax)(s:Syntax):Syntax:=s.rewriteBottomUp f
def ix0(b w:Nat)(s:Syntax):Nat:=match s with
 |.ident _ _ (.str .anonymous x) _=>
  let n:=x.front.toNat
  let n:=if b=192&&970≤n then n-586 else n
  if n<b||b+w≤n||2<x.length then 99999 else 2*(if x.length=1 then n-b else n-b+w*(x.back.toNat-96))
 |_=>99999
def wr0(k:Name)(x:Array Syntax):Syntax:=.node .none ``Parser.Tactic.rcasesPatLo #[.node .none ``Parser.Tactic.rcasesPatMed #[mkNullNode #[.node .none k x]],mkNullNode]
def pt0(s:Syntax):Syntax:=rb0 (λs=>if s.isIdent then wr0 ``Parser.Tactic.rcasesPat.one #[s]else if s.isOfKind ``Parser.Term.hole then wr0 ``Parser.Tactic.rcasesPat.ignore #[s[0]]else if s.isOfKind ``Parser.Term.anonymousCtor then wr0 ``Parser.Tactic.rcasesPat.tuple s.getArgs else s) s
def hs0:Nat→Syntax→Bool
 |0,_=>false
 |n+1,s=>!s.isOfKind ``Parser.Term.byTactic&&(s.isOfKind ``Parser.Term.syntheticHole||s.getArgs.any (hs0 n))
def fs0(s:Syntax):Syntax:=match s with
 |.node _ k a=>if k==`«term{_}» then .node .none ``Parser.Term.anonymousCtor #[mkAtom "⟨",a[1]!,mkAtom "⟩"]
  else if k==choiceKind then (a.find? (·.isOfKind ``Parser.Term.anonymousCtor)).getD s
  else if k==``Parser.Tactic.tacticLet__ then
   let p:=s[2][0][0]
   if p.isOfKind ``Parser.Term.anonymousCtor then .node .none ``Parser.Tactic.obtain #[mkAtom "obtain",mkNullNode #[(pt0 p)[0]],mkNullNode,mkNullNode #[mkAtom ":=",mkNullNode #[s[2][0][4]]]]
   else if s[1][0].getNumArgs=0 then .node .none ``Parser.Tactic.tacticHave__ (a.set! 0 (mkAtom "have"))
   else s.setArg 1 (.node .none ``Parser.Term.letConfig #[mkNullNode])
  else if k==``Parser.Tactic.show then if hs0 99 s then .node .none ``Parser.Tactic.refine #[mkAtom "refine",s[1]]else .node .none ``Parser.Tactic.exact #[mkAtom "exact",s[1]]
  else if k==``Parser.Tactic.exact then .node .none ``Parser.Tactic.show #[mkAtom "show",s[1]]
  else if k==``Parser.Command.declModifiers then if s[6][0].isOfKind ``Parser.Command.nonrec then (s.setArg 4 (mkNullNode #[.node .none ``Parser.Command.noncomputable #[mkAtom "noncomputable"]])).setArg 6 mkNullNode else s
  else s
 |_=>s
def tq0(s:Syntax):Bool:=s.isOfKind ``Parser.Tactic.rwSeq&&s[2][1][0][1].isOfKind ``Parser.Term.paren&&s[2][1][0][1][1].isOfKind ``Parser.Term.byTactic
def fb0(t s:Syntax):Syntax:=match s with
 |.atom _ v=>.atom .none v
 |.ident ..=>let u:=t[1][0][1][ix0 192 242 s]
  if u.isMissing||u.isOfKind numLitKind then s.setInfo .none else u
 |.node _ k a=>if k==``Parser.Term.app then
   let u:=t[1][2][0][1][ix0 913 57 s[0]]
   if u.isMissing||u.isOfKind numLitKind then s else rb0 (λx=>let y:=s[1][ix0 7936 8 x/2]
    if y.isMissing then x else y) u
  else if k==nullKind then
   let l:=s[0][2][1][1][0][0][0][4][1]
   if l.isMissing then (if a.any tq0 then mkNullNode (a.flatMap λc=>if tq0 c then c[2][1][0][1][1][1][0][0].getArgs else #[c]) else s) else mkNullNode (l.getArgs++a.extract 1 a.size)
  else if k==``Parser.Command.print then .node .none ``Parser.Command.end #[mkAtom "end",mkNullNode (if s[1].getId==`a then #[]else #[s[1],mkNullNode])]else .node .none k a
 |_=>s
def cs0(u w s:Syntax):Syntax:=if s.isOfKind ``Parser.Tactic.cases&&s[1].getNumArgs=1&&s[1][0][0].getNumArgs+s[2].getNumArgs+s[3].getNumArgs=0&&!s[1][0][1][1].isOfKind ``Parser.Term.paren then
  let h:=s[1][0][1]
  rb0 (λx=>if x.getId==`ἀ then h else x) (if h.isIdent then u else w)
 else s
def oc0(t s:Syntax):Syntax:=
 let v:Nat→Syntax:=λi=>t[1][2][2][1][i][1][1][0][0][0]
 if s.isOfKind ``Parser.Tactic.omega then (if s[1][0].getNumArgs=0 then v 0 else s)
 else if s.isOfKind ``Parser.Tactic.cases then
  let f:Nat→Syntax:=λi=>rb0 (cs0 (v 6) s) (v i)
  cs0 (f 2) (f 4) s
 else s
end
open Lean in
local macro_rules(kind:=Lean.Parser.Command.mutual)|s=>do
 let c:=s[1][0]
 unless c.isOfKind ``Parser.Command.check do Macro.throwUnsupported
 let g:Syntax→Syntax:=λt=>rb0 (fb0 t) t
 let t:=g (g (g (g (g (g c[1])))))
 return rb0 (oc0 t) (rb0 fs0 (rb0 (fb0 t) (s[1].setArg 0 mkNullNode)))
mutual
#check([some,List,Nat,true,false,none,Int,Str,Prop,Option,(by omega),Addr,base,Shared,autoParam,if_pos,Bool,if_neg,(by decide),PySem.wpAny_bind,W.Frag,(zB z6),Expr,0,(by simp only[_root_.L3.yJ,_root_.L3.zR,_root_.L3.zm,_root_.L3.qK,_root_.L3.yb,_root_.L3.vS,_root_.L3.p_,_root_.L3.ya,_root_.L3.xM,_root_.L3.Yw,_root_.L3.rf,_root_.L3.qJ,_root_.L3.jS,_root_.L3.Yk,_root_.L3.e1,_root_.L3.e2,_root_.L3.eL,_root_.L3.eC,_root_.L3.z7,_root_.L3.qX,_root_.L3.zC,_root_.L3.zE,_root_.L3.tE,_root_.L3.Xq,_root_.L3.X6,_root_.L3.ZA,_root_.L3.g9,_root_.L3.Zc,_root_.L3.IN,_root_.L3.MZ,_root_.L3.pU,_root_.L3.wP,_root_.L3.xv,_root_.L3.Xu,_root_.L3.Iv,_root_.L3.ZC,_root_.L3.qy.sel,_root_.L3.fI,_root_.L3.pW,_root_.L3.pV,_root_.L3.VU,_root_.L3.IQ,_root_.L3.xE,_root_.L3.vC,_root_.L3.hU,_root_.L3.uA,_root_.L3.Ta,_root_.L3.vX,_root_.L3.YZ,_root_.L3.vk,_root_.L3.h9,_root_.L3.Ze,_root_.L3.IS,_root_.L3.Ye,_root_.L3.yA,_root_.L3.vO,_root_.L3.vm,_root_.L3.zf,_root_.L3.wA,_root_.L3.wO,Option.bind_some,Option.bind_none,List.getElem?_cons_zero,List.getElem?_cons_succ,List.set_cons_zero,List.set_cons_succ,List.map,List.cons_append,List.nil_append,List.length_cons,List.length_nil,List.replicate_zero,List.replicate_succ,Bool.not_true,Bool.not_false,decide_true,decide_false,Bool.and_self,Bool.and_true,Bool.true_and,Nat.reduceAdd,Nat.reduceSub,Int.reduceLT,Int.reduceLE,Int.reducePow,Int.reduceToNat,Int.reduceAdd,Int.reduceSub,Int.reduceMul,Int.reduceNeg]),wpAny,Array,X.env,Stmt,s.heap.objs.size,absurd,Keyed,"RowMachine",(Or.inl rfl),s.heap,List.length_map,(Bool×D),sizeLine,World,heap,(model prog w),And.intro,Reps,xs.length,List.length_append,(i+1),PyProof.Rows.wpS_bind,Program,X.mg,cons,X.N.length,PySem.wpAny_pure,(by simp),(Ë×Obj),X.prog,0,s.heap.get?,Around,decide_eq_true,(.bl Ä),PyProof.Rows.wpS_pure,Nat.le_trans,ds.length,List.mem_cons_self,False,SortSt,rows,prog,(model X.prog X.w),(z7 0),List.length_cons,(z7 1),(zB X),getK,data,outer,rows.length,h'.get?,(Ĭ _),[a,x1],Bool.and_eq_true,List.getElem?_eq_getElem,decide_eq_false,vs.length,(z7 2),s.toks,toks,List.getElem?_map,(e::es),Value.ref,D.int,Heap.get?_push_of_some,(n+1),I.zi,List.mem_cons.mp,(zA 0),(zA 1),mainGlobals,h.get?,Int.toNat_natCast,Heap.lt_size,"items",Bool.false_ne_true,ps.length,(k+1),eval,"list",(.ref f),Nat.le_refl,List.size_toArray,Sum.inl,all_at,X.xe,(eC (.int 0)),(Æ×Æ),(kP ps),name,List.getElem?_eq_some_iff.mp,(.bl Ã),congrArg,Nat.zero_add,(zA 2),(z7 3),List.map_cons,Array.length_toList,List.mem_singleton.mp,(Sum Æ Ç),"State",X.base,PySem,l.prog,scope,(eC (.int 1)),z.length,z6.size,FuncData,zero,(by simp only[_root_.L3.yJ,_root_.L3.zR,_root_.L3.zm,_root_.L3.qK,_root_.L3.yb,_root_.L3.vS,_root_.L3.p_,_root_.L3.ya,_root_.L3.xM,_root_.L3.Yw,_root_.L3.rf,_root_.L3.qJ,_root_.L3.jS,_root_.L3.Yk,_root_.L3.e1,_root_.L3.e2,_root_.L3.eL,_root_.L3.eC,_root_.L3.z7,_root_.L3.qX,_root_.L3.zC,_root_.L3.zE,_root_.L3.tE,_root_.L3.Xq,_root_.L3.X6,_root_.L3.ZA,_root_.L3.g9,_root_.L3.Zc,_root_.L3.IN,_root_.L3.MZ,_root_.L3.pU,_root_.L3.wP,_root_.L3.xv,_root_.L3.Xu,_root_.L3.Iv,_root_.L3.ZC,_root_.L3.qy.sel,_root_.L3.fI,_root_.L3.pW,_root_.L3.pV,_root_.L3.VU,_root_.L3.IQ,_root_.L3.xE,_root_.L3.vC,_root_.L3.hU,_root_.L3.uA,_root_.L3.Ta,_root_.L3.vX,_root_.L3.YZ,_root_.L3.vk,_root_.L3.h9,_root_.L3.Ze,_root_.L3.IS,_root_.L3.Ye,_root_.L3.yA,_root_.L3.vO,_root_.L3.vm,_root_.L3.zf,_root_.L3.wA,_root_.L3.wO,Option.bind_some,Option.bind_none,List.getElem?_cons_zero,List.getElem?_cons_succ,List.set_cons_zero,List.set_cons_succ,List.map,List.cons_append,List.nil_append,List.length_cons,List.length_nil,List.replicate_zero,List.replicate_succ,Bool.not_true,Bool.not_false,decide_true,decide_false,Bool.and_self,Bool.and_true,Bool.true_and,Nat.reduceAdd,Nat.reduceSub,Int.reduceLT,Int.reduceLE,Int.reducePow,Int.reduceToNat,Int.reduceAdd,Int.reduceSub,Int.reduceMul,Int.reduceNeg,_root_.L3.xK,_root_.L3.Ym,_root_.L3.Yn,_root_.L3.Yo,_root_.L3.qb,_root_.L3.uv,_root_.L3.we,_root_.L3.jh,_root_.L3.IF,_root_.L3.Y4,_root_.L3.Sq,_root_.L3.Sr,_root_.L3.TR,_root_.L3.kf,_root_.L3.putAt,_root_.L3.z44,_root_.L3.x0b,_root_.L3.kR,_root_.L3.hide,_root_.L3.gx,_root_.L3.x6u,_root_.L3.x6v,_root_.L3.x6w,_root_.L3.x6x,_root_.L3.x6y,_root_.L3.x6z,_root_.L3.x7l,_root_.L3.x7m,_root_.L3.x7n,_root_.L3.x7o,_root_.L3.x7p,_root_.L3.x7q,_root_.L3.x7r,_root_.L3.Zm,_root_.L3.Vp,_root_.L3.jL,_root_.L3.N6,_root_.L3.y2j,_root_.L3.y2k,_root_.L3.vN,_root_.L3.TM,_root_.L3.wf,_root_.L3.jf,_root_.L3.z40,_root_.L3.QT,_root_.L3.MR,_root_.L3.jv,_root_.L3.YU,_root_.L3.gR,_root_.L3.VO,_root_.L3.GI,_root_.L3.Zb,_root_.L3.Mb,_root_.L3.vF,_root_.L3.i9,_root_.L3.Th,Option.map_some,Option.map_none,List.take_succ_cons,List.take_zero]),PyProof.Rows,kvs.length,ks.length,(Áq=Ä),a.size,List.mem_cons_of_mem,List.replicate,List.getD_eq_getElem?_getD,List.append_nil,["state","row"],(wI Ws),N.length,(.ref a),(za st),(.str w),(z7 4),HT.sIx,"set",succ,(zU (zQ b)),PySem.Spec,"self",StateT,cond,List.append_assoc,of_decide_eq_true,(.inl rfl),ns.length,(vP ps),[.lst z6],z.elim,(.dK kvs),(.ref C),(a.d1 X G),(zA 3),Nat.lt_of_lt_of_le,PySem.sizeLine_eq,ys.length,W.kitOne,(.int 0),P.it,E.l2,E.l1,Nat.zero_le,(.ref p),X.calm,Heap.get?_push_size,List.all_cons,(a.d2 X G),(ϡ 8),iter,K.In,(.Name x xp),(xD z6),ps.map,if_true,D.tup,List.mem_append.mp,"tuple",(zp X i),o.push,rawInt,OwnMs,pos',bootBuiltins,(É Â),es.size,b.size,W.nsIn,I.list,cLine,seen,I.wX,List.not_mem_nil,Nat.ne_of_lt,L.length,stop,List.range,Option.some.inj,ns.map,its.toArray,X.length,(zp z6 i),(.lst xs),(.int i),(xz 0),plain,(j+1),cpos,List.map_map,[.ref a],r.length,d.length,(ÿ ..),[b,x1,a],k.toNat,add_int,o.data,0,List.mem_of_getElem?,(by decide +kernel),(ns.map D.int),List.mem_map.mp,X.env.scope,X.env.locals,(yI _),"carry",K.lookup,(À v),j.toNat,(zY×V),(u q),apos,List.length_set,List.foldl_cons,(.int 8),(wg I q ô),"unless",(zA 4),"copy","when","dict",D.str,I.tok,(a σ),l.map,K.go,0,F.dj,List.getElem?_eq_none,List.length_range,Nat.le_of_lt,s.heap.push,(xL n zG),W.keepIn,(u9 st),I.tuple,(xB X),E.go,List.all_eq_true.mp,(λ_ z=>nomatch z),List.length_take,(λz=>nomatch z),List.map_append,"nought",us.length,X.N.Nodup,b.length,a.length,"sign",String,label,Scope,Unit,(vj X scope cl own C s H fp pn),List.filter_cons_of_neg,((Ę).all xN=Ã),Nat.succ_le_succ,(.Name x pos),0,Int.le_of_lt,(xi prog w),"held",(ó ?_),c.length,(.int 1),(őa s),"test",x.size,"row",getA,List.filter_cons_of_pos,List.mem_range.mpr,"_law_script",(by simpa using h),(Or.inr rfl),(xN e=Ã),Ws.length,A.handled,if_false,g.length,P.length,(zQ b),(À c),(Ùc _),"subc","addc",r.mono,elem',args,((Õ).map xA),"number",(zG.map xC),List.mem_cons,(.type Ī),(.lst Ŕ),(.lst ys),False.elim,(.ref Ý),(À Ū),(zM z_),R.length,"left",I.ok.hd,xs.size,uG.cons,(yI _),qs.map,I.loc,F.at_,most,h.Ns,List.mem_append_right,(zC ą zE),List.length_replicate,Nat.le_add_right,X.env.cells.lookup,List.filter_append,Builtin.bitAnd,PySem.wpAny_mono,(Nat.sub_le _ _),(a==sysModules),SetTable.below,compareOp,"words","right",ms.length,or_false,"jump",PyProof,(Ý+1),IsPair,I.cell,(zB L),(pl a),zS.tj,"zip",(W i),"sub","add",I.pin,F.ok,step,Int.eq_ofNat_of_zero_le,Array.getElem?_toList,(by simpa using e),List.mem_filter.mp,List.length_drop,(z6.map (xP z6)),zS.refl,Nat.ne_of_gt,(zY×Value),"storew",fs.length,"word",X.A.units,(Á Â),(À ī),(.tup xs),"table","store","loadw",j.length,W.findIn,yF.refl,X.stack,"range","load",A.units,(zA 5),(ub F),yZ.of,keep,X.fs,E.ow,E.fr,(X.fn x=Ã\/X.env.scope.names.lookup x=À .local),(À (Ä,.int (m:Æ))),List.getElem?_append_left,(.Call (.Name x p) Ę [] pos),Str.ofString,(N.map D.str),List.nodup_nil,(Â×Â×Â),(.int (i:Æ)),(.str "subc"),(.str "addc"),Heap.SameBut,"sorted",True.intro,E.ext.gh,(zM ğ),(.type ώ),vs.toArray,"state",(.inr z),z6.length,c.trans,(a &&& p),(zM zI),K.ext.gh,SetTable,L2.cutS,(zA 6),t.place,(Á D),(x::xs),intsOf,I.laid,I.free,I.bare,keyOf,"and",V.ref,E.own,"or",dEqs,PySem.PassesOwn.never,(eC (.int 2)),List.take_append_drop,PySem.wpAny_holding,Builtin.bitOr,a.heap.objs.size,Nat.min_eq_left,Heap.size_push,(.type "bool"),(.yj o ũ),(.type "int"),(Æ×Value),Value.none,Int.le_refl,binaryOp,(ϣ V.int),(É Value),(zD Ĺ zP),its.length,(Ç×Ë),(.int 16),a.toArray,W.kia_one,0,(eC .zO),(g i j),(xO t L),T.length,(ĵ h),(κ×V),y.Perm,(yA 1),(qY x),(lo+i),(k<=j),isort,ye.tr,"xor",r.get,o.cls,IsZip,A.in1,(j-1),memK,its',D.nx,D.bl,beq_eq_false_iff_ne.mpr,starEach,(zC ć zE),Int.emod_nonneg,Nat.lt_of_le_of_lt,0,(eq_of_beq c),own.length,foldedSetIterable,"registers",a.toList.drop,(.str "test"),(.builtin id),(.str "add"),(ks.zip vs),(.type "str"),"truths",Int.le_trans,h.objs.size,ForInStep,(.ref it),b.extract,Obj.mapSeq,"__init__",(xi P w),b.toArray,(eC Ëa),y.toList,(ĵ hi),envOfC,(z7 6),s.TypeIs,Reps.imp,I.turned,(.int 2),(z7 5),"high",0,IntsAre,(À m),(vI z6),X.H₀,(zN T),(gr i),"due",V.int,"law",value,small,I.len,(x+1),item,body,P.gH,E.lp,E.ap,(.tup [.str k,.int (d:Æ),.int (s:Æ)]),(xY (yh b)),Nat.lt_succ_self,PySem.wpAny_field,Int.emod_lt_of_pos,(.tup (hd++[.str u])),PySem.wpAny_seqItems,Array.getElem_toList,List.replicate_succ,List.zip_cons_cons,(x ≠ "__name__"),(.str "jump"),attributeBase,beq_self_eq_true,(e2 zJ ć ı),(eC (.int 3)),(.str "stop"),(zD ğ zP),b.toArray.size,(.ins C dx fs),(.inl (n:Æ)),I.zi.fresh,(σ++[À v]),A.deeper,(a.d3 X G),"memory",(Wf z6 m),"stands",I.ok.kind,(gt T i),(.inl a),"rows",t.length,l.length,C.extBut,codeAny,BindsTo,z.symm,(ϡ n),(.bl b),"end",tplDs,forIn,at_ex,IsTup,E.pin,[d,s],x.gh,putF,call,I.jB,"abcdefghijklmnopqrstuvwxyz",(.ListComp elt [{tg,iter,ifs,0}] scope pos),((apos.endLine==cpos.line)=Ã),"_law_mark_here",Option.isSome_iff_exists.mp,PySem.wpAny_call_entry,(e2 zJ ą ı),a.toList.take,Nat.lt_succ_of_lt,(eC (.int 4)),Bool.false_eq_true,Builtin.bitNot,Nat.le_of_lt_succ,(zD Ġ zP),List.getElem_mem,List.cons_append,(by kernel_rfl),"set_iterator",(EP X z8 σ Q),(Α (z7 2)),a.extract,Nat.le_of_eq,Nat.min_self,"places",(K w.params),(.str "sub"),(.str "and"),(.inl z),DecidableEq,(Á zY×V),(model P w),(.str "or"),SeqAt.EqAt,scanBound,Value.str,u.extBut,q.toList,W.codeIn,(xB z6),(Ç×V),(.str t),(.ref l),Ne.symm,(xv zE),(ŵ _),(À d),(pB z6),(yA 2),(ur i),(lo+k),names,E.ext,hide,True,K.lp,(zX ŝ zV Ġ zI),Int.natCast_nonneg,(backToKw pos (keywordEach [] Û)),((x==("__classdict__" : Ç))=Ä),List.mem_append_left,"first_words",[À (Ä,.lst z6),Å,Å],List.getElem?_append_right,List.pairwise_append.mp,List.drop_eq_getElem_cons,(.tup [.str "stop"]),(by simpa using c),Nat.le_succ_of_le,"address",b.toList.take,Nat.le_antisymm,beq_iff_eq.mpr,a.toArray.size,a.names.lookup,(.dic hk hv),(À (Ã,d)),(.Name x p),"_law_k","enumerate","number",(yR x p f g),(eL vk ĭa),(.int 32),d.trans,decide_true,(Θ (x+3)),(.str Ľb),(dl++[m]),Value.type,(.inr rfl),(zM Ŭ),es.toList,Value.int,PassesOwn,(őa źa),(ϣ Òa),(ŏ _ c),(j d ô),(.type T),(.nx β2),(.dT kvs),"place",["item"],(.int v),x.length,i.length,f.length,callWith,List.map,(zM Ĺ),(vm ą),0,(uQ ğ),(g d σ),(L++[d]),(.str x),(.str k),(.ref z),(.inl h),Rd.mono,(c b a),nextOf,W.mg_of,Sum.inr,(Óa _),assign,L2.ixN,IsPart,putAt,a.map,L.map,drawn,[x,y],self,s.ws,s.ps,many,cont,X.pn,P.ln,0,I.os,Nat.lt_irrefl,[À (Ä,.lst a),Å,Å,Å,Å],(zX ŝ zV (vd ğ wc) Ŵb),PySem.wpAny_newObj_type,(.tup [.str "jump",.str t]),X.s₀.heap.objs.size,PySem.codeAny_builtin,Nat.mod_two_eq_zero_or_one,PyProof.Rows.wpS_forRange,[.int w,.int 31,.int 1],List.take_of_length_le,(yP (zd yV) Ò),Nat.add_le_add_left,List.getElem?_range,Array.toList_append,(st ws a b c hk hv),(À (Ä,d)),(by rw[hl];decide),Nat.lt_of_succ_lt,List.ext_getElem?,Option.bind_some,(λC s H d c=>tZ),"first_held",((Ĉ).length+1),Nat.testBit_and,List.nil_append,List.length_zip,(yR a0 p0 f0 g),Sum.inl.inj,"_law_items",0,isort_perm,b.toList.drop,Nat.sub_self,List.zipWith,(Ç×Value),(λ_ _=>Ā),(zM Ġ),L.filter,fs.lookup,(Θ (x+2)),(Θ (x+1)),(Θ (x+0)),(ps.zip us),(.type Ña),SortSt.mk',(.ref I),(λ_=>Å),(xy X.K F),(thaws ms),(L.map zN),(.dic K V),(Α ĺ),DictEntry,(Ν Äa),(Ú ß),(λ_=>?_),(top 101),(.lst []),ts.map,e.trans,"do_sum",x.toList,s.length,o.length,NameKind,(Ĥ e),valueAt,i.toNat,Nat.ble,N.Nodup,Iff.rfl,zS.lay,(ûk s),xs.map,t.fits,stored,q.size,o.elim,backTo,(zN a),(yA 3),(f β),(c β),"int",whole,t.led,field,bindL,bindC,N.map,(h a),putO,nds',hi.h,c.gh,(starEach Ę Û=(Ä,eval e Û)::starEach es Û),(wT zP (yP yV Ò)),(.tup [.str "set",.str "high"]),(pV λi j=>decide (i<j)),(.Assign [.Name x pos'] e pos),List.Perm.refl,(by with_unfolding_all rfl),(.str "label"),Array.getElem?_eq_getElem,List.nodup_cons.mpr,"_law_first",PySem.wpAny_passesOwn,(Á zY×Ë×Value),[.bl a,.bl b,.bl c],(λ_ h=>by cases h),(getMethod ov m pl),(ϣ WData.int),(z6.take i),(zW wS wR Ġ zI),(ϡ (Õ).length),(.str "left"),(zD zI zP),List.flatten_cons,(zW ue ud ğ zI),[.at [Ŀ] úa],Int.not_lt.mp,t.heap.objs.size,PySem.call_meets,List.take_length,List.mem_map.mpr,(wL as vs ks us),"set-order","isinstance",X.env.kindOf,List.length_nil,Bool.eq_iff_iff,s.heap.update,(τ++Ő k Å),eq_of_beq,g.objs.size,(yR y q Å g),(.tup [x,y,z]),(.int (p:Æ)),(dl'++[m]),behindInMarks,(yY z6 r),(.int x),(Ÿ _ rfl),(start N vs),(failedOf s),(F.ok i q z),(.str "xor"),"targets",apos.atName,List.lookup,(.str Âa),(.int 2047),(.int (-1)),"__next__",swapsWith,sep.length,env.kindOf,beq_iff_eq,Str.length,"thing",(ze H p o),(kindOf s),(Y1 a b c),zG.length,x.testBit,m.testBit,OwnMs.imp,[úa,ϋb],(ŷg _ _),(ŏ _ b),(ŏ _ a),(start _),(j s ô),(arrOf s),(Uf z6 m),(Pf z6 m),(.rt o d),r.append,h.length,(lo+hi),b.trans,(ϊ pD),(Pf X i),(ľc _),s'.heap,kvs.map,I.fresh,(Čb _),(Wf z6),ys.all,fs.map,"done",zG.map,vA.one,modify,l.mono,h.elim,eq_int,Ws.set,W.fnOf,(zB a),(z7 7),(xB a),(u8 n),(lo+m),(e σ),(c σ),z.cps,xR.of,x.new,0,thaws,WE.nd,N.len,(i+k),(f a),(V k),insI,nds2,hv.h,hk.h,dict,S.rs,P.tg,P.nd,I.ok,[À (Ä,.str name),À (Ä,.lst Õ),À (Ä,.dic ks vs),À (Ã,.dic K V),À (Ä,.str a)],[.str w,.str k,.str t],(yO (vH tT b rfl (zD ğ zP))),(pA (l.map λi:Â=>(i:Æ))),(.Call (.Attribute o m apos) [] [] pos),(.tup [.str "left",.str "right"]),X.env.scope.names.lookup,List.take_succ_eq_append_getElem,(λC s H c b=>tZ),PySem.wpAny_callSpecial?_slot,Array.getElem?_eq_some_iff.mp,(L.map λl=>.lst (zN l)),PySem.Around.under_plainId,0,(wm T e fw fh sd due done),w.params.followText,(.int 4294967296),PySem.wpAny_setField_rec,PySem.wpAny_Call_Name_kw,PySem.wpAny_pyIter_list,(.dic ĳ Ŧ),Nat.add_sub_cancel',List.drop_eq_nil_of_le,(Yx h ô λu n j=>?_),List.getElem?_toArray,Heap.get?_update_self,(seqObj Ī #[] 0),List.mem_of_mem_take,List.dropLast_concat,List.all_eq_true.mpr,"StopIteration",List.mem_filter.mpr,(ςa (Ób Ę Û)),(Nat.not_lt_zero _),PySem.wpAny_rule,PySem.wpAny_typeOf,PySem.codeAny_mono,Nat.sub_add_cancel,[YW X fw fh s i j],(ςa (Ób es Û)),(.type "NoneType"),List.mem_range.mp,List.getElem?_set,(Üa W.emptyDict),(σ++Ő Ùb Å),0,d.heap.objs.size,Nat.zero_testBit,Nat.testBit_succ,(.fz (.int m)),[.int i,.bl Ã],(Á D->É ä),(.builtin "len"),Nat.succ.inj,(gc (yh b)),WData.weightAll,List.find?_cons,(X.N[i]?=À x),(wv Č zG p),I.base.free,"target",s.heap.IsTuple,(Θ (x+n)),(.str Ïa),(τ.set i Å),(fs.map V.ref),(.inl (m:Æ)),(xO t z6),List.any_cons,many.toNat,(wq Ă zG i),(WG QO QN zI),(vZ z6 t),W.callWith_K,Nat.lt_or_ge,Nat.add_comm,(λd=>!zl d),(knd.hash k),(.tup [x,y]),Array.getD,scope.names,OwnMs.cells,List.map_id,List.length,L2.isort,I.ok.mod.XQ,(.tup Ëd),(.str Ĺa),[b,x1,a,x3],(κ×Value),(uq (vq d)),(e1 YZ ń),a.testBit,ord.length,(Γ Ŭ),(ϭa .Add),(λ_=>rfl),(uB a Ŋc),(kJ ϻ x),(gt T í),L.foldl,"do_bits",pos.line,Reps.ints,(ğb Ď),(ě _ e),(xP z6 d),(c.val k),(.ref i1),[.ref p],["mark"],(us++ds),(ϐ p),(.fz d),p.extBut,n.length,k.length,i.natAbs,ct.toNat,Operator,zG.getD,(uB a L),(u++[l]),(lo+m-1),(gt T w),(eC ĕb),(F++[m]),(.ref x),(.ref c),(.own x),(.lst a),(.int n),(.int j),(.inr t),(Ûa c),(w%256),"marks",callerA,base.Ns,X.outer,K.ext.g,AllBare,(Ϛb c),(ϋa b),(ϝ h),(wI ns),(vZ z6),(jj st),(e σ1),(G b d),(.bl k),"told",pyNext,c.symm,"one",f.map,"ways","stop",y.size,xs.all,pyIter,o.getD,m.mono,isTrue,e.symm,c.drop,Result,Paired,I.kept,(zN R),(v1 k),(qv 3),(b σ),(a::r),(Yj P),z.imp,slots,n.map,binds,a.any,U9.nd,Model,Fl.nx,F.map,D.lst,(w=0),(n+k),(m+4),(j+2),(g=1),(g i),(yP (zd (zd yV)) Ò),(zX ŝ zV ğ zI),(.tup [.str "load",.str "store",.str "loadw",.str "storew"]),["self","table","end","registers","memory"],(min (if i<0 then i+(n:Æ)else i) (n:Æ)),(!w.params.followText "set-order"),PyProof.Rows.wpS_mono,(À (Ä,.int (need:Æ))),(!t.plain&&decide (es.size>1)),(yz T e fw fh s due done),(SetTable.grown c.size),[À (Ä,.lst z6),Å,x2],PySem.wpAny_setState_of,List.pairwise_iff_getElem.mp,(by simp only[ĭ]<;>omega),(e2 zJ ć Ϡa),List.extract_eq_take_drop,List.pairwise_append.mpr,Builtin.List.listTooLong,PySem.wpAny_truthy_bool,PySem.fits_of_scanBound,List.getElem?_replicate,(zX ŝ zV Ĺ Îa),(assignEach es Û),[À (Ä,.int x),Å],(by exact 1<30;decide),(À (Ä,.int i)),(λi:Â=>(i:Æ)),List.pairwise_cons.mp,(vB (own:=[ėa]) rfl),Array.toList_extract,(by rw[E.l1];show c),(X.drop k++Y.take e),(.int (xr z6 a:Â)),PySem.plainId_quiet,0,List.length_zipWith,List.getElem_of_mem,Int.toNat_of_nonneg,Builtin.Int.intBits,(.builtin Ÿa),(À (Ã,.lst ds)),(λl=>D.lst (zN l)),(ps.take i),(zC ą Ôb),xs.toList.Pairwise,ForInStep.yield,(zX ŝ zV Ŭ zI),(by rw[ļ];omega),(L.foldl (uf t) s),SetTable.below.go,Nat.lt_succ_of_le,Array.toList_push,(yP (zd Ϥe) Ò),(wI (Ws.set d w)),(relabel Ń Û),(QY b t2 â a d),((Ça).mpr ſa),(.fz (.int w)),(.Name x pos'),List.lookup_cons,(qe z6 F dl ŭa),sliceBounds,Nat.zero_lt_one,0,List.filter_nil,List.cons.injEq,Int.min_eq_left,[.at [à] ža],(À (V.ref p)),(tupleKind êb),(e2 zJ Ĕ ı),(by simp;omega),((Ça).mpr Řb),"_law_found",(V s+n),"other",Nat.not_lt.mpr,List.take_zero,(wG ks vs k v),(.int (a:Æ)),s.heap.DictAt,Nat.add_assoc,(ε Ża),(Wf z6 i),[úa,ϋb,Ŗa],[ş,ĸa,úa],[p0,p1,p2,p3],(Ξc (b::yB)),(À (Ã,e)),(β++[À m]),(Yd c.heap H),(.Name gn gp),(ĩ e Û),"items",isort_sorted,0,List.map_nil,Int.pow_zero,Int.ediv_one,I.base.there,Around.under,assignEach,(Ő Ĝ []),(yP Ϥe Ò),a.heap.push,X.base.get?,OwnMs.focus,Int.one_mul,I.base.slot,(À (b,d)),(uR X.K FF),(ks.zip us),(T.set m x),L2.start,(Zu fs f),(.tup ys),(.fz ŧc),out.toList,its.toList,W.plainGet,(eC ŀc),(ze H a o),(xN a=Ã),(W3 e=Ã),(.str èa),l.extBut,"do_move",y.testBit,x.extract,hd.length,I.base.t5,I.base.ql,I.base.jC,Decidable,(.inr u),[ąa,ϔb],(Ĕc Òa),(Ξc Ěk),(ķa .In),(Θ âe),(Η Ëa),(Ÿb _ z),(wE ks k),(vs++dvs),(g.n X G),(.yj o u),(.tbl ps),(kR β),(gx β),Y.take,y.length,y.extBut,s.drawn,p.toList,oneType',j.trans,j.natAbs,h.extBut,h.DictOf,g.isList,d.extBut,b.typeIs,b.toList,ZipApart,Y.length,Reps.one,OwnMs.jD,B.extBut,(qv 2),(Ϧe ?_),(zp Y i),(zM Ŵb),(vX ϣa),(uR K F),(qf a.1),(kP Âe),(jn Õ),(gl L w),(Zy a.2),(X.ZS E),(.own a),(.int 3),X.drop,"again",x.trans,qP.with,m.trans,getItem,cut_len,add_str,Un.kept,Sb.refl,E.ext.h,[p0,p1],(âa e),(čd.2),(ûk d),(ńb i),(ŵb n),(ŵb i),(ĵ e),(zN ws),(xr z6),(xP z6),(tK z6),(c d a),(Pf z6),"step","bool",u.keep,sIx_le,preSum,o.dict,layNew,knd.is,ds.map,W.isFn,T.keep,I.base,B.kind,(zN Y),(zB Y),(yA 6),(wj f),(uf t),(ua x),(tC v),(o::v),(i==j),(a==b),(a++b),(ZE F),(X++M),(Wf X),(TQ x),(0<=i),(qv 4),R.map,"str","run",vM.Lp,start,error,atKey,WC.nd,T.obj,QB.nd,Q9.nd,Q8.nd,Q7.nd,[a,b],(m%8),(i-1),(g _),(U i),(P i),(e2 zJ (e1 (wK [Ŀ] "words") ą) (e2 zJ ć ń)),["table","end","first_words","first_held"],(zd (zd (zd yV))),(.inl ((xr z6 a:Â):Æ)),PyProof.Rows.wpS_get,(.Call (.Attribute (.Name c p) m apos) Ę [] pos),(.tup [.str (Űa w),.int (d:Â),.int (s:Â)]),[.int g0,.int g1,.int g2,.int g3],(zX ŝ zV Ĺ zI),(yz T e fw fh s d j),(Ėb o name Û (eval o Û)=eval o Û),(.Call (.Attribute o m apos) Ę [] pos),(VW X.K 2 (gU (ur i) (gU (ur j) VV))),(Ő (Õ).length 0++[2047]),PyProof.Rows.subscriptTail_builtinR,Builtin.SmallTypes.ownedTupleIsFree,PySem.wpAny_askSetting,(c*48271+104729*k+7919*(ť:Æ)+1),(mirror x lo (lo+m) ((lo+m-lo)/2)),(T.set m (rl (U m) (P m) T (W m))),0,PySem.F.slot_tuple_iterator_next,[g0,g1*256,g2*65536,g3*16777216],(eC (.dic [] [])),Builtin.Str.occurrences,[wm T e fw fh (vU s) due done],[.Subscript ž k pos'],(Ě (1*2 ^ ((w:Æ)).toNat)),(λc=>∃r,c.1=À r/\uy t r),(x.extract (d+ϥ) (d+ϥ+e)),[st Ŕ a b c ĳ Ŧ,.fz r],PyProof.Rows.callWith_type1,(if k'=k then À v else _),(.type "method_descriptor"),[.Subscript o k pos'],((u p).mpr Ť),(λp=>(J p).map (qF J pl)),(zX (zU (zQ a)) zV Ġ zI),Builtin.Slice.slicePlaces,[.int p,.str (wv n zG p)],(λw e=>To g f r c w ōa),(x.extract (d+k) (d+ϥ)),PySem.mem_of_lookup,PySem.tupleKind_room_in1,Builtin.Tuple.tupleExact,(seqObj Ī d.toArray 0),(wA uO ĭa),"set_iterator.__next__","set_iterator.__iter__",0,strSliceIndices,PySem.F.plainAttrs_list,Builtin.Range.rangeSize,(Ι (zW ue ud Îa zI)),(λp r h=>(Xy P h).2.2),(e1 (wK [à] ža) ą),((ſ).getD i Å),((Ėa).getD i .zO),Array.getElem?_eq_none,"_law_names_here",[1,26,676,17576,3,5,7],PySem.wpAny_execs_nil,PySem.F.slot_zip_next,List.length_singleton,(λ_=>Š ā Sem β),(by rw[E.l1];show hi),(.UnaryOp .Not a pos),(.Subscript ž k sp),(.Return (À e) pos),decide_eq_decide.mpr,Nat.sub_succ_lt_self,Nat.eq_of_testBit_eq,List.range_eq_range',(σ.set i (À Ŷ)),(ys.any λy=>xh y x),(if b then 1 else 0),(Nat.lt_of_not_le c),(.Attribute e f pos),letOwnedTupleGo,beq_eq_false_iff_ne,PySem.wpAny_newList,0,PySem.wpAny_attempt,List.map_congr_left,(zX ŝ zV ğ Ġ),(by simpa using h1),(eC (.str Ða)),(e2 xU ć ń),z.cps.toList,decide_eq_true_iff,Nat.lt_of_le_of_ne,(Υ (zM ϔd) Ġa),(b∈X.ex\/Þc<=b),(by simpa using a),s2.heap.objs.size,decide_eq_true_eq,W.instObj,Nat.lt_trichotomy,List.getElem_drop,List.Pairwise.nil,[ş,ĥ,Ûb,ģb],[(a:Æ),(b:Æ)],(Ç×Tok×Value),(zW wS wR Ŭ zI),(by rw[Mq];omega),((p,w)::P.zip vs),"_law_many",s.heap.FunFrames,PySem.wpAny_call,PySem.typeIs_str,Nat.testBit_zero,Nat.min_eq_right,Nat.le_of_not_lt,List.map_fst_zip,List.filter_cons,Int.max_eq_right,(λi=>K x (b+i)),(w/16777216%256),(o++őb i (i+k)),(OG n x (c x a)),(.tup [x,y,z,w]),(.lst [a,b,c,d]),p.toNat.testBit,List.range_succ,List.Perm.of_eq,Int.ediv_nonneg,Bool.or_eq_true,(σ++Ő k Å),(λc=>f c.symm),(yR a0 p0 f0 u),(vX λi j=>i+j),(e2 zJ ą ć),(e2 xU ĺ ń),(I.ok.bs b o e),(zD ğ Ŏc),(zD g7 zP),h.toArray.size,Bool.false_and,"width",I.base.keep,(X2 a b o i j),(X1 a b o i j),(.type "type"),(.int (k:Æ)),(ks.map kV),rows.getD,es.toList.map,beq_iff_eq.mp,a.toArray.any,List.sum_cons,Bool.true_and,Bool.or_false,[Ŗa,"count"],[ĸa,âb,úa],[.str "stop"],(ĩ ž Û),(Οc (b::yB)),(zz.near x z),(wv Č zG q),(putF f v fs),(lo+k-(lo+l)),(.str (wd r)),pickOrder.go,own.contains,decide_false,P2.objs.size,Nat.lt_trans,Nat.le_total,K.ext.h.free,Int.ne_of_gt,(.str ía),[ş,"most"],[(D,ut a k)],(ķa .NotIn),(λ_ _=>rfl),(ze H p æk),(xs.set i x),(xi ö X.w),(kf β i π),(e2 F fa fb),(F.ok j q z),(DE r ta tb),"numbers","do_storew",p.length_eq,W.hasDictIn,Option.bind,Nat.le_succ,(Ó ?_),(zM ϔd),(.int k),(Δ (i+j)),(Ćf C Ý),(Õb _ Ò),(Ďb _ Ò),(Ĭa _ żg),(y b o e a),(x-x/p%r*p),(wv n zG p),(vp ps a b),(vd ğ gO),(ns.take k),(l+(r-l)/2),(kW Ă zG),(.type ś),(.bool Ã),((n:Æ)=0),(wI s.ws),(zA 7),"do_store","do_loadw",ws.toArray,tz.some_of,setsByText,Value.bool,Pt.testBit,PlainAttrs,ns.getD,[.lst Ŕ],(ħ<=ŕ),(λ_ q=>q),(zm 1 Ôf),(yY X Ϗ),(pG kvs k),(n b ob e),(W7 k=Ã),(T.map pc),(E.r8 k d),(.tup ϧg),(.str öb),(.str ŝa),(.str Ŕa),(.own Þd),(.lst Õ),(.int p.1),(.int i t),(.int due),(Ąa hd),(xs++ys),"do_load","do_high","do_copy",zo.append,z6.filter,xs.toList,ts.length,pc.isList,l.swap.hd,h'.DictOf,drawOrder,dl.length,cl.lookup,as.length,__do_lift,W.makesIn,PySem.Str,Paired.Fg,E.ext.new,[ąa,Ńc],[zp z6 i],[g,f,j,h],(Äc æb),0,(ϣg _ _),(Οc Ěk),(įa _ _),(Ι ϑa),(ϣ Į),(Α ř),(ò+Ùb),(Á Æ),(σ++[v]),(β++[m]),(h p Éf),(d z x y),(.ref i2),(.ref Wr),(.ref Ut),(.ref Us),(.ref Ur),(.ref Uq),(.ref Up),(.ref Uo),(.ref Um),(.ref Uk),(.bool b),"places","do_set","append",q.extBut,p.isList,0,mergeAt',m.length,l.countP,f.typeIs,entryFor,d.typeIs,bindArgs,X.take,W.lookIn,Reps.set,K.length,F.length,(Čk nd),(åb WJ),(σ++ρ),(zN Ņa),(zN Ťc),(zB áa),(xy K F),(vX Ĳa),(vO 1 2),(tF g _),(qq [r]),(qg Č),(ku õb),(jz P h),(gl L p),(eC ōc),(eC Úd),(by rfl),(Z3 ţb),0,(Yd h H),(DA r t),(2 ^ 64),(.str a),(.ref t),(.ref e),(.ref A),(.nx σ),(.lst b),(.int w),(.int e),(.inr x),(.inr k),"slice",z6.take,unaryOp,u.there,tI.swap,tI.move,setNext,l.trans,h.trans,ds.drop,b.drop,ZX.cons,W8.putO,I.write,I.ok.ZR,F.trans,A.depth,(ĭe e),(Ϥg q),(şc c),(øc d),(Ŏ-1),(ϐ q),(Üb i),(ŵb k),(ŵb _),(Ϟ c),(Œ _),(Ĥ q),(Ħ z),(Ħ h),(đ f),(ĵ f),(É V),(À b),(zM jT),(xs=ys),(q::qs),(p8 xs),(n::ns),(m%4<2),(i∈R),(hi-lo),(h _ z),(f j x),(b β1),(X7 zG),(Uf z6),(x++y),vs.map,v.size,u.slot,u.free,typeOf,s.gens,p.size,o.mono,not_or,newExc,ks.zip,kindOf,d.getD,bs.map,argsOk,a.toks,Params,Or.inr,O.mono,J.stop,InLong,B.mono,V.str,(z7 2),(yA 5),(wI W),(vD r),(v2 k),(qv 1),(qg n),(q/64),(pl u),(k σ),(jp X),(jO d),(g==k),(Xq x),(Ly z),"low",there,table,o.loc,l.fin,j.get,h.Ns1,W6.mp,On.nd,Om.nd,Ol.nd,Oj.nd,Oi.nd,Oh.nd,Og.nd,Of.nd,M.ind,F.len,D.ind,D.i2z,D.i1z,D.TOz,C.fin,A.one,[zR (zm 2 (zf Xf ĭa)) t9,zR (zm 2 (zf Xh ĭa)) t9,zR (zm 2 (zf XY ĭa)) t9,zR (zm 2 (zf Xe ĭa)) t9],[ąa,"_law_first","_law_most","_law_count","_law_names_here","_law_many","_law_rows_here","_law_k","_law_items"],(λr f=>match r with|.ok (.ret v)=>EP X k σ Q v f|.ok _=>False|.error e=>X.xe e f),List.length_filter_le,(Üa { cls:=.type "range",data:=.fields #[.int lo t,.int hi u,.int 1 v] }),((z6.toList.drop (sIx ņ 0 lo)).take (sIx ņ ņ hi-sIx ņ 0 lo)),[À (Ä,ws),Å,À (Ä,.int (w:Æ)),À (Ä,.int (i:Æ)),y],[À (yz T e fw fh s d0 j0),À (.fz (.int m)),À (.fz (.int k))],(List.mem_singleton.mpr rfl),(e2 zJ ć ń),(À (Ä,.int (rl (Uf z6 m) (Pf z6 m) T (Wf z6 m):Â))),(swapsWith e (À (.Name x pos')) pos.line Û=pure Ä),[À (Ä,Ě n),À (Ä,.str a),À (Ä,.int left)],(if plainKind x=Ã then h else { h with plain:=Ä }),(List.zipWith (λk' x=>if k'=k then v else x) ks vs),(A.under (.builtin "type.__call__" {.ref C::us,a})),(.tup [.str k,.int (d:Æ),.int n]),(if i<0 then(i+(n:Æ)).toNat else min i.toNat n),[rows.getD k .zO,.int ((k:Æ)+1),zG.getD k .zO],[wm T e fw fh (gT Ŕ a b c ĳ Ŧ) due done],(f.2 b (Ϟ (ŭ (Ĥ e) (I.ok.Uc x c C l)))),(Yx (s:={ s with ç:=u }) n ô λx K m=>?_),(if k=f then(k,v)::r else(k,x)::putF f v r),(.tup [.str Ïa,.int (d:Æ),.int (s:Æ)]),(tE (e2 wp (z7 7) (e2 zJ (qX 4) (z7 6)))),(À (.builtin "type.__getattribute__")),(by rw[PySem.isSubtype_type];kernel_rfl),(.tup [.str "high",.int (d:Æ),.int n]),(pickOrder (w.params.setOrder a ep) es),(qW L P w K G g N c a f d A ċ s H E),(f.2 b (Ϟ (ŭ (Ĥ e) I.ok.above))),(À (.builtin "object.__setattr__")),(ze H l (Β ((isort ns).map V.int))),(.tup [.str ś,.int (d:Æ),.int n]),(wf Ĕ (wf ĺ vN)),PyProof.Rows.F.plain_set_update_loop,(.Call (.Name "zip" p) [a,b] [] pos),Nat.min_le_right,Int.ofNat_le.mpr,List.mem_reverse.mp,Heap.SameBut.update,[.int (i:Æ),x],(ϊ λp=>if p.1=a then(a,b)else p),(if s.1∈a then s.2 else s.2++[d]),Array.mem_toList_iff.mpr,(yG Xx b rfl (zD z_ zP)),(À (.obj à ϣe [a,b,c,d])::yB),(y.toList.drop lo),Nat.eq_zero_of_not_pos,Heap.get?_update_other,PySem.Calls.call_function_entry,Array.mem_of_getElem?,(ϐ q++(çb m (j-1)).reverse),(yZ X.K H p ys\/xR X.K H p ys),(if Ùd Řc=Ã then _ else _),(by rw[e];show λz=>nomatch z),0,(X.fn y=Ã\/Ðd y=À .local),((c==("__debug__" : Ç))=Ä),List.eq_nil_of_length_eq_zero,Array.perm_iff_toList_perm.mp,(.builtin "object.__class__"),Nat.not_succ_le_self,PySem.wpAny_pyNext_list_item,PySem.Calls.callWith_builtin,(Ő (Õ).length 0),[.str k,.int x,.int y,.bl a],(vj X Ń cl own C s H l pn),(by exact _<=16777216;omega),PySem.wpAny_pyNext_list_end,Nat.lt_succ_iff_lt_or_eq.mp,(e2 vC ř (eC (.int 256))),PySem.wpAny_updateSeq_pair,List.length_eq_zero_iff.mp,[ĥ,"told","ways","puts"],["kind","one","other",Âa],(į (e t) (x := Ða) Ò),(į (e t) (x := Ía) Ò),(.tup [.str Ða,.str Ía]),(.For tg iter body [] pos),List.pairwise_reverse.mpr,List.mem_or_eq_of_mem_set,Classical.byContradiction,Builtin.Slice.sliceAdjust,[yz T e fw fh s due done],0,[o0,c,a,o3,À ϫe,o5,o6],[o0,c,a,o3,o4,À ϫe,o6],(ġb (ïb x ŗ Ý f c)),(rI JB λi j=>.int (i*j)),(f (.int i t) (.int j u)),(((1:Æ)*2 ^ w-1)*2 ^ l),PySem.wpAny_pyIter_tuple,PySem.Calls.spliced_cons,List.mem_iff_getElem?.mp,(Ti z6 R T (Õ).length),(.tup [.str ļa,.str r]),(zm 2 (zf F ĭa)),(zW ue ud ϑa zI),Nat.testBit_mul_two_pow,Nat.add_sub_cancel_left,List.filter_eq_self.mpr,Bool.or_eq_false_iff.mp,[.int a,.int (g_ ps a)],(k K c λv n m x r=>?_),(L.set w (gl L w++[i])),(Int.natCast_pos.mpr c),(.ins C dx (fs.zip vs)),((Õ).map λr=>xC Ŧc),PySem.wpAny_isInstance,List.zipWith_cons_cons,List.pairwise_cons.mpr,List.getElem?_set_self,List.Perm.append_right,(λi=>z6.getD i .none),(z6.filter λd=>!zl d),(o++(őb k i).reverse),0,(.BoolOp .And [a] pos),h.symm.trans,PySem.wpAny_updateSeq,PySem.wpAny_ite_split,PySem.SeqAt.EqAt.same,PySem.F.slot_dict_get,List.set_append_right,List.pairwise_map.mpr,List.nodup_append.mpr,List.eq_nil_or_concat,List.concat_eq_append,List.Perm.append_left,[.int x,.int y,.bl p],(λz=>a (by simp[z])),(λa w=>a ||| gt T w),(vB (own:=[āa]) rfl),(vB (own:=[ϔb]) rfl),(by simp only[Ø,o]),(by dsimp only;omega),(.Slice lo hi Å p2),(eC (.str Ía)),(e2 zJ ą ń),PySem.wpAny_setField,PySem.wpAny_newTuple,PySem.gives_joinTail,Nat.pow_le_pow_right,List.mem_of_mem_drop,List.getElem?_set_ne,Array.toArray_toList,[D.bl a,.bl b,.bl c],(xh x y&&dEqs xs ys),(tU Ĺ (tU Ŭ jM)),(.Subscript o i pos),((m/512+(j:Æ))%26),PySem.wpAny_standAt,Nat.add_left_cancel,List.reverse_append,List.mem_map_of_mem,List.filterMap_cons,(vG Xw WA rfl),(by size_fits),(T.set m need),(.int (m:Â)),(ϡ (min ë ů)),(zX ŝ zV Ġ Îa),(wO Ùb fs fg ft f),(relayAll t2 c ϝd),(gT ws a b c hk hv),(f x y&&pT f xs ys),(by simpa using hv),(by rw[e];show Źa),((j.2 b k).trans J),((i:Æ)+(m:Æ)*1),(wA gJ ĭa),"idle_of_one_kind","copied_to_itself","__getattribute__",Nat.lt_or_eq_of_le,List.set_cons_zero,List.set_cons_succ,List.mem_singleton,List.map_replicate,[mX X fw fh s i j],["kind","one",ãe],(ςa (Ób [] Û)),(À (Ä,.int m)),(λb u q=>ě _ q),(λ_ _ q=>ě _ q),(λC s H c b=>Ġ),(zX ŝ zV Ĺ zI),(xh x y=Ã↔x=y),(seqObj Ī out c),(by simpa using k),(by simpa using f),(by simpa using b),(by rw[şc e];rfl),(by rw[Úa];omega),(by rw[ĭ];omega),(args_list_sort _),(Yo (we (eC Ķ))),(2*(Õ).length+2),(.tup [row,nx,tg]),["_law_item"],"to_the_next_row","names_of_places","moves_by_nought","_law_program_by",z.cps.toList.drop,bne_self_eq_false,SetTable.probe.go,Option.isSome_map,Nat.sub_pos_of_lt,List.take_add_one,List.reverse_perm,List.getElem_take,List.getElem?_inj,List.foldl_append,List.Pairwise.map,Array.size_append,[.str ļa,.str t],(Õe lo hi Å n),(ïb b a Ý f d),(Øf lo hi 1 Ņ),(Ő n 0++[2047]),(τ++Ő Ùb Å),(yG Vg b rfl ěb),(R.filter (Yi t)),(QW o Ê Ê ?_),(Nat.log2_lt Ê),(.tup (k.map kV)),a.symm.trans,"_law_registers",s.heap.IsSliceOf,env.cells.lookup,c.heap.objs.size,X.s₀.heap.get?,X.env.scope.kind,Nat.max_eq_right,List.zipIdx_cons,List.nodup_range,Int.toNat_eq_max,Int.min_eq_right,(zD ğ Ŋb),[.fz (.lst Ϲ)],(ÿc λd=>!zl d),(Ç->É Value),(zC (eC û) zE),(xv (zC ı zE)),(wL as ds ks es),(wL [] [] ks es),(qG kvs p.1 p.2),(q/64%(ŕ:Æ)),(ks.foldl qC []),(d b _ q λz=>z),(args_sorted1 _),(CM K t1 t2 a b),(.cons rfl .nil),"table_of_rows","list_iterator",f.resolve_right,a.setIfInBounds,W.methodCall_KW,Nat.and_le_left,List.take_left',List.of_mem_zip,List.mem_append,List.forIn_cons,List.drop_left',[Ŗa,"low",İf],[s,.int (46+i)],(ąd b o e n a),(Η (.bl Ã)),(Ó (ϲe ûa)),(σ++Ő n Å),(ys.getD j .zO),(xs.getD j .zO),(m/512+(b:Æ)),(m/512+(a:Æ)),(eC (.str ś)),(e2 zJ ĺ ń),(e2 zJ Ĕ ř),(e2 zJ Ĕ ń),(e2 zJ ć ř),(by rw[q];simp),(by rw[hl];rfl),(Y0 Ă zG Č),(.dK (l.zip m)),(zU (zQ d)),(zD Ŵb zP),(xY (yh a)),"label_places","_law_cell_at",sortedHeap_old,list_sort_tree,d.names.lookup,Nat.testBit_or,Nat.le_min.mpr,List.take_take,List.drop_drop,Builtin.bitXor,0,[kV kv.1,kv.2],[.int w,.bl u],(Įd (vY a) s),(τ.set i éc),(zC (z7 2) zE),(vG Tc Q2 rfl),(call ϻd Ϯ),(by rw[ì,L]),(TP X z8 σ Q),(P0 R c.1 c.2),(.obj x fs ms),(.int (n:Â)),(.int (m:Æ)),(.inl (p:Æ)),(.builtin řc),((ϭg).take m),sysModules,"set.__new__","not_reached","moved_right","_law_varied","_law_row_by","_law_memory","__setattr__",swapsWithSole,swappedStores,sortedHeap_at,s.heap.IsList,0,p.toList.take,p.toList.drop,X.env.globals,W.plainGet_of,Paired.length,Nat.reduceSub,Nat.reduceAdd,L2.isort_perm,Bool.not_true,(μ/3%256),(.str ţa),(.str Ŝa),[āa,ėa,Ćd],[.type ś,a],(Υ ϡb ύa),(λr=>xC Ŧc),(zw.near x z),(ze H5 D Ĝa),(yR a p fl g),(w/65536%256),(VP xs lo hi),(T.set m ëk),(D.bl (i==j)),(.str {#[c]}),(.mk e1 e2 d),(.Expr e pos),((left-1)%26),"words_from","targets_of","not_needed","moved_left",0,"is_address","bytes_from","address_of","address_in","_law_words","_law_names","IDLE_KINDS",setAddHashed,seqIndex_neg,s2.heap.get?,plain_sorted,ns'.Pairwise,l.symm.trans,l.row.toRowW,its'.toArray,h.IsListIter,entry_sorted,e.gh.free,concat_meets,WData.weight,SeqAt.RcNeAt,PySem.Within,PySem.W.Frag,Nat.zero_max,Nat.succ_pos,Nat.succ_mul,List.map_set,List.any_map,K.env.ext.gh,E.ext.h.free,Code.isFrame,Bool.or_true,[.int i,v i],(ķa .NotEq),(Ób es Û),(Ι (zA 4)),(λz=>c įb),(ze H a Ϩa),(ze G a Ϩa),(x.rebase y),(wT Ŏc äc),(qG kvs k v),(pairsOf vs),(gallopOf s),(ds.set n y),(atKey xs k),(OB (vo g7)),(I.jB x c e),(.int 65536),[ϖb,Ćd],["State"],(.dK àb),"with_part","ways_from","needed_at","last_name","is_number","four_from","comers_of","_law_told","_law_rows","_law_mark",xs.dropLast,wpAny_of_eq,seqIndex_of,kind_sorted,c.heap.get?,a.names.all,W.specialIn,W.plainOver,W.kitx_list,W.emptyDict,Value.float,Sum.inr.inj,Reps.length,Nat.div_pos,Nat.add_mul,K.env.ext.g,Int.pow_pos,D.TOi2.symm,(ĩ o Û),(ϭa .Mult),(λx=>!x.1),(zC ń zE),(wA V0 Ôb),(w/256%256),(pl a::ϛ),(i∈X7 zG),(.type èd),(.str w::_),(.rt m β2),(.list ŉc),(.Name c p),((i:Æ)+1),relayAll,ns.foldl,"put_word","put_byte","pairs_of","mark_bit","leads_on","labelled","is_label","bytes_of","__name__",z.cps.size,wpAny_load,wpAny_Name,typeIs_int,scope.kind,o.ExactSet,d.zi.fresh,cond_false,checkCount,builtinsNs,b.Pairwise,X.Pairwise,SeqAt.RcAt,OwnMs.snoc,OwnMs.join,List.foldl,I.ok.above,D.i1z.symm,D.TOz.symm,(eC ĉd),[.lst Ϲ],(ĉe N vs),(Ϣ this),(Ő m []),(Á M×M),(λ_=>Ā),(ze H x o),(wE K ϥe),(uR X.K F),(qK 2 Ϲe),(jn Õ p),(acc++its),(.yj ob v),(.val ī),(.lst Ęa),(.int ů),(.bl (!k)),((k,x)::r),"word_of","word_at","without","ways_of","rows_of","reached","name_of","look_at","is_pair","is_jump","byte_at",zo.of_get,t.dummies,reduceIte,qs.length,ps.take,o.reverse,names.map,n.testBit,inplaceOp,g.toArray,cond_true,collect,cellsFrom,c.toArray,c.heap.Ns,c.gh.free,a.size_eq,a.g.trans,WData.int,W.takerIn,W.readsIn,W.findCls,W.OpenLaw,U.testBit,Str.empty,PySem.Fin,0,IsTup.new,[Źc,İf],[ĩb,Ϭb],[Ģa,Ĺa],[Ŗa,ėa],[ža,Ŗa],[ĥ,ĩb],(ťd Į),(Ų r c),(Ğd Íd),(ĺk _ _),(ζb ţf),(Α õb),(ε þc),(ϡ ďd),(ŏ _ z),(ó Ţf),(ó ûa),(À Ŗ),(À Ã),(λc=>?_),(xs[i]+1),(xs++[x]),(x-y-q<0),(x b u e),(x ^^^ y),(x &&& y),(st::sts),0,(qF J pl),(o.n X G),(n*65536),(n*2 ^ l),(gt T i1),(gY z6 T),(d i q z),(QR P hi),(.tup ds),(.ref Wq),(.nx σ2),(.nx σ'),(.lst z6),(.lst ws),(.fz Ťf),(ó h),(vq g),"summed","led_on","joined","do_row","comers",xq.focus,ws.foldl,raiseNew,qs.Nodup,pick_run,p.length,o.toList,ns'.Perm,n.natAbs,0,its.size,i.h.free,g.toList,f.isList,d.isList,c.h.free,b.h.free,a.toList,W.length,Reps.rep,OwnMs.ba,I.ok.mod,B.length,[.ref l],[.lst a],["four"],(Ųk%26),(ÿc zl),(Ϧg ..),(åb QF),(ϡ 32),(σ++τ),(zN ëe),(zN Ýa),(zM Ŷf),(zM êe),(zM Ϫe),(zM Îa),(yr Ġ),(yb ć),(we Ĕ),(we ı),(vo Ĺ),(vm Ôf),(vZ X t),(vO 3 4),(vO 2 3),(uQ Ìd),(rk b i),(qD ĭh),(qD ą),(pf Ďa),(pN n p),(p7 q c),(lo+y-1),(kv.1=k),(ju ša),(gt T m),(eC Ýb),(eC Ķ),(TR r.1),(DI h H),(CL K a),(CK K a),(CI K a),(2 ^ 62),(.str b),(.ref D),(.own d),(.lst X),(.lst N),(.lst I),(.int m),(.int b),(.int a),(.inr a),(.inl i),(.inl e),(.inl d),(.bl d'),"need","taken","short","plain","needs","leads","label","count","added",xs.getD,vA.snoc,vA.mono,u.toNat,setItem,propext,p.trans,n.trans,l.Nodup,h1.get?,getAttr,a.names,Reps.bn,PySem.W,N.least,L3.getA,ElemsOf,E.ext.g,(z7 6),(ßg k),(Úm i),(Ŏe k),(Íc f),(Öa x),(Öa i),(ϗc/2),(ŧk _),(ĕc f),(ùh z),(ϕa r),(Āc f),(ÿd h),(ϥg d),(Ša _),(Ϛb b),(ģa b),(Œc c),(όb j),(ňb i),(ĸ _),(Ϸ m),(Ϸ e),(þ+1),(Ĥ f),(Ñ g),(ĵ w),(É M),(À r),(À p),(À 7),(x-y-q),(vo zI),(s q z),(n+þ),(n+i+1),(m∈F),(j-i-1),(j+1+m),(h d a),(g b a),(f Ĭe),(f īe),(f v u),(eC Td),(c σ1),(b Ēd),(b r.2),(Zp z6),(Tn ps),(OC Be),(I _ z),(A q w),(.fz k),"used","part","item",z6.map,tI.fin,t'.led,r.drop,o.bind,ns.sum,l.most,j.mono,items',h.push,g.get?,frames,ds.set,d.laid,d.get?,c.size,bubble,b.symm,b.Perm,Y.drop,O.heap,N.last,L.keep,J.get?,I.step,0,I.look,H.keep,E.back,D.l2TO,B.cell,(zN l),(zA 9),(z7 i),(z7 9),(yA 4),(vU m),(vQ t),(tK a),(r β),(pl b),(pl _),(p_ 4),(p_ 2),(p_ 1),(mA f),(lo+y),(lo+j),(kV k),(k'=k),(i::a),(d hi),(Z8 4),(Z8 2),0,(Z8 1),(Uf X),(Tv r),(Pf X),(Ox K),(Ls i),(L7 X),(xH (Γa (zQ b) (zA 3) (wx (zD z_ (zD z_ zP)) (yP (zd (zd yV)) Ò))) (zb (yr (wx (zD (zA 3) (zD (zA 4) (zD (zX ŝ zV (yO (wT (zD (Ι (zA 6)) (zD (Ι (zA 6)) zP)) ϓd)) (Ι (zW ue ud ğ zI))) zP))) (yP Ϥe Ò)))) xm),[.tup [.int (Θ (x+0)),.int (w%256)],.tup [.int (Θ (x+1)),.int (w/256%256)],.tup [.int (Θ (x+2)),.int (w/65536%256)],.tup [.int (Θ (x+3)),.int (w/16777216%256)]],(u7 (Κ (yq (i:=6) (show(wD ["_law_mark_here","_law_many","_law_letters","_law_size","_law_word","_law_spot"] ["_law_k"]).Nodup by decide +kernel) rfl á)) rfl),(ZA (tE (e2 wp (wO 1 (vm (z7 6)) (yA 9) DV AC) (xv zE))) (tE (e2 zh (e2 xE (e2 vC (zf vh (zC ą (Α (e2 xU ć Ϡa)))) Ϡa) (eC (.int 5))) (z7 7)))),(e2 (vX ϣa) (zf t7 (Α (e2 zJ ć (z7 6)))) (e2 (vX Ĳa) (MY V7 (zC (qX 4) (Α (e2 zJ (z7 2) (z7 6))))) (e1 TY (zf qq (Α (e2 zJ ć (z7 6))))))),(Yo (jh (Zc (zf uN (qB à "stands" (z7 5) zE)) (e2 zh (zf kD (zC (z7 5) (Α (z7 6)))) (zf kD (zC ř (Α (e2 vC (z7 6) (eC (.int 4)))))))))),[À (Ä,.int m),À (Ä,.int many),À (Ä,.str Ľb),À (Ä,.int (m%8)),À (Ä,.str W),À (Ä,.int c),À (Ä,.int (i:Æ))],(.ins C dx (putF f w (fs.zip vs))),[À (Ä,.lst rows),À (Ä,.lst Ęa),À (Ä,.dic K V),À (Ã,.lst (wq rows zG i)),À (Ä,.int (i:Æ)),À (Ä,r)],((p.setIfInBounds i (d,ϥ+Y.length,I)).eraseIdxIfInBounds í),(zD z_ (zD z_ (zD z_ (zD z_ (zD z_ (zD z_ (zD z_ zP))))))),(λd=>match d with|.int j=>D.str (L2.cutS W Å (À c)++lt ((m/512+j)%26)++L2.cutS W (À c) Å)|d=>d),(rl (Uf z6 m) (Pf z6 m) T (Wf z6 m)),(wL (wE as (.inl (a:Æ))) (wG as ds (.inl (a:Æ)) (v a)) (qs.map λi:Â=>Į (i:Æ)) (qs.map v)),(.tup [.str (Űa w),.int d,.int s]),[À (Ä,.lst rows),À (Ä,.lst Ęa),À (Ä,.dic K V),À (Ã,.lst (wq rows zG Č)),o,w],(qb (ji à "run" 5 [] qp (wf (e2 VU (eC (.int 9)) (e2 xU (eL vk (Α (wA V2 Ôb))) ń)) vN))),(xJ Ϧ=Ä/\yY z6 Ϧ=Å/\jR (Õ).length ſ ((Ėa).getD i .zO) ((ſ).getD i Å)=zp z6 i),(λk:zY=>match k with|.inl i=>i|.inr _=>(0:Æ)),[.tup [.int g0,.int 0],.tup [.int g1,.int 8],.tup [.int g2,.int 16],.tup [.int g3,.int 24]],[À (Ä,.int m),À (Ä,.int many),À (Ä,.str Ľb),À (Ä,.int (m%8)),Å,Å,Å],[À (Ä,.lst z6),À (Ä,.lst (zN T)),À (Ä,.lst (vI z6)),À (Ä,.lst (zN a))],(PySem.wpAny_newList (ó {PySem.Code.quiet_builtin _ ϸ,ßc (entry_list_iadd') ?_})),(λr s'=>r=.ok (.ret (.bool Ã))/\OldK c.heap s'.heap/\s'.os=c.os/\AllBare s'.gens),0,[À (Ä,.lst Ă),À (Ä,.lst Ęa),À (Ä,.dic K V),À (Ã,.lst []),Å,Å],(λq z w=>by rcases z with⟨z,_⟩|z;show z;show j q (t q z ((u q).mpr (.inr w)))),(((sIx ņ 0 lo:Â):Æ)==0&&(1:Æ)==1&&(sIx ņ ņ hi-sIx ņ 0 lo)==ņ),pendingOf,(λc=>c.1=Å/\∃y q g,st=yR y q Å g/\uI 0 q.toList y.toList/\y.Perm x),[À (Ä,.lst a),Å,f,À (Ä,.int (i:Æ)),À (Ä,.lst (zN (W i)))],[.tup [.str Âa,.bl Ä],.tup [.str èa,.bl Ä],.tup [.str ía,.bl Ä]],[À (Ä,.lst z6),À (Ä,.lst (zN T)),À (Ä,.lst (vI z6)),Å,Å],[.int (x%256),.int (x/256%256),.int (x/65536%256),.int (x/16777216%256)],(by let:=Int.add_le_add_right (øa h) (n:Æ);rwa [Int.zero_add]at this),(λq z=>h q (Δa (s q z))),(yG Yb b rfl (zD ğ Ŋb)),(newList [] >>= λl=>again (.builtin "list.__iadd__" {[l,.ref a],[]})),[À (Ä,.lst Ϲ),À (Ä,.int 38),À (Ä,.dic ĳ Ŧ),j,c,Å],[.fz T,.fz (.int e),.fz ěa,.fz ϑb],[À (Ä,.lst Ϲ),À (Ä,.int 38),À (Ã,.dic [] []),Å,Å],[À (Ä,.lst z6),À (Ä,.lst Ă),À (Ã,.dic [] []),Å,Å],(À (Ä,.int (i:Æ))),(.Attribute o name apos),["not_reached","to_the_next_row","copied_to_itself","not_needed"],List.nodup_cons.mp,(λr=>pure (.done (À r,e.2.1,e.2.2.1,e.2.2.2.1,e.2.2.2.2.1))),(l.map λp=>{PyData.keyHash w.params p.1,.str p.1 p.2.1,p.2.2}),(ó ⟨_,rfl,ó h⟩),[À (Ä,.lst z6),À (Ä,.lst (zN a)),Å,Å,Å,Å,Å],(λxs H Q=>∃a kvs,xs=[V.ref a]/\Rd H a ũ/\Q (.int ŋ) H),(wL [] [] (a.map λi:Â=>Į (i:Æ)) (a.map λ_=>D.bl Ã)),(vn Č zG i++[jR Č zG (rows.getD i .zO) (zG.getD i Å)]),(setNext a (q:Æ).toNat (i:Æ).toNat (ep:Æ).toNat >>= _),[.int g0,.int (g1*256),.int (g2*65536),.int (g3*16777216)],(X6 (tE (e2 ļc ř (eL vk Ôb))) (tE (e2 Xv ř (qX 2)))),(Üc (ó {_,rfl, Ŏb,_,{_,Ÿ _ rfl,rfl},Ou.lookup,?_})),(e2 zJ (e1 (wK [à] śa) ą) (e1 (wK [à] "due") ą)),(by rw[typeLookup_type,builtinLookup_eq_fast];kernel_rfl),(a::b::yB),(.tup [.str k,d,s,n]),(.done (À (X1 a b (ϐ q) i (j+1)),ϐ q,i,j+1,g,k,u)),(PySem.wpAny_runValue (ßc (entry_proto_collect') ?_)),(.tup [.str (Űa w),.int (d:Â),.int (s:Â),.int n]),[À (yz T c fw fh a d b),À ûd,À (.fz (.int k))],(λr=>pure (.done (À r,d.2.1,d.2.2.1,d.2.2.2.1,g))),(if t then V5 [.int x,.int n]else V6 [.int x,.int n]),[À (Ä,.lst Ęa),À (Ä,.lst (zN Ýa)),Å,Å],(zm 3 (e2 zJ (zf JT zE) (e2 xE ą (eC (.int 28))))),(.yield (Å,e.2.1,e.2.2.1,e.2.2.2.1,e.2.2.2.2.1+1)),(wq Ă zG i++vn Č zG i++[.tup (hd++[.str Ąd])]),(.tup [.str k,d,s]),(if v<0 then max (v+(n:Æ)) 0 else min v (n:Æ)),(.tup [.str ţa,.int (d:Æ),.int (s:Æ),.int n]),(.tup [.str ŝa,.int (d:Æ),.int (s:Æ),.int n]),(.tup [.str Ŝa,.int (d:Æ),.int (s:Æ),.int n]),(.tup [.str Ŕa,.int (d:Æ),.int (s:Æ),.int n]),['r','o','t','a','r','e','t','i','_','t','e','s'],(zC (e1 (wK [Ŀ] "held") ą) (Α (zf XX Ãe))),(wL [] [] (a.map λi:Â=>Į (i:Æ)) (a.map v)),(qJ 8 tS (Ρ (eC ŀc) (Α (e2 zJ ř (z7 7))))),(if v<0 then(v+(n:Æ)).toNat else min v.toNat n),(.ListComp (.List [] p) [{tg,iter,[],0}] Ń pos),(wq Ă zG i++vn Č zG i),(W.fnOf x a (jj st) ßa ŗ .none kV d h g b ct),((ŝc a (èb λ_=>#[])).push (seqObj ώ Ža 0)),(.rt (.fz Ķ) [À (.fz S),v1,v2,v3,v4,v5,v6]),[Ïa,"add",Ēa,"sub",đa,"and","or","xor",ÿa],(Γ (zX ŝ zV Ġ (zW xZ xX ϑa (ε þc)))),(λi=>decide (0<=i)&&decide (i<1099511627776)),(by first|rfl|(simp only[firstArgMember];rfl)),List.take_sublist,[À (Ä,.dic ĳ Ŧ),À (Ä,.int x),Å],(wL as ds (ħa λi:Â=>Į (i:Æ)) (ħa v)),(kvs.map λkv=>if kv.1=k then(kv.1,y)else kv),(f (E.go d) c λv u s r j=>q v _ _ (Ϛb r) j),(by rw[I.ok.glob];show I.mod.glob.keeps I.bk),(Vh (t:=wv (Õ).length ſ p) (u := "") v A),(Α (e2 zJ (z7 2) ř)),(assign (.Name x f) Û),[D1,.tup [.str k,.int (d:Æ),.int (s:Æ)]],(ìd (Ó (čb hz rfl (x:=.ref TO) rfl ?_))),(À (Ä,wm T e fw fh (vU s) due done)::τ),(λq=>(o q/\¬ E q)\/((E q/\¬ L1 q)\/L2 q)),(uv 3 (we (wA Xc (zC ą (Η (.int 38)))))),(uv 2 (we (wA Xd (zC ą (Η (.int 30)))))),(qW xT P w K mg Ì N c ŗ f g A ċ s H E),(qW xT P w K mg Ì N a ŗ f b A ċ s H E),(ds.map (λd=>À (Ä,d))++Ő (n-þ) Å),(W.fnOf x a (jj st) ßa ŗ i kV d h g b ct),(W.fnOf m q (jj st) ßa ŗ g kV h d c a ct),(zX (zU (zQ a)) zV (vd ğ VJ) (vd ğ YR)),(uc=Ä->k = "add" \/ k = "sub" \/ k = ÿa),(h.imp (λz=>by omega) λz=>{by omega,z.2}),(.tup [.str ÿa,.int (d:Æ),.int (s:Æ)]),(wv (Õ).length ſ p),(zm 1 (e2 (vX ϣa) ć (zf V4 (Η Űc)))),(qW xT P w K mg a N x ŗ f c A ċ s H E),(qW xT P w K mg a N q ŗ f c A ċ s H E),(if(i==0)=Ã then 0 else i.natAbs.log2+1),(if([]:Á Keyword).isEmpty then 0 else 1),(Y4 (g9 (tE (zf uN (qB à ĥb ř zE))))),(.tup [.str (Űa w),.int d,.int s,.int n]),(ωa (λi j=>vW i+vW j<=134217728) (i*j)),(Α (e2 zJ ć (e2 xE ðb (eL vk Ôb)))),(λ_=>ü {_,rfl,WM.go {h,d,f,by omega}}),(X4 (tJ (Oq .list rfl rfl Y7 k7 ML Ża))),(.tup [.str k,.int (d:Â),.int (s:Â)]),(.tup [.str (Űa w),.str (Űa k),.str t]),[.str w,.int d,.int s],(Υa (ζ (wD ["items","there"] [ϖb]))),(n[Åa]'(by rw[<-w.ln];show(ĵ hds).1)),(UM (by rcases b with rfl|rfl<;>decide)),(Builtin.«zip.__next__» {[.ref z],[]}),(.dic (kP (Zv ps x w)) (vP (Zv ps x w))),(.Call (.Subscript ϓb k p2) Ę [] pos),Array.Perm.refl,(Üa { cls:=.type Ña,Ċ:=.dict #[] }),(zy (w pos d s σ H _ I h) λn k b=>?_),(zy (h pos k s σ H _ I g) λl a c=>?_),(vj X Ń cl own C s2 H2 fp (X.pn++z8)),(uv 4 (VO à gI (wf (wA Xg Ôb) Ϡg))),(qb (ji à "run" 4 [] qp (wf ìb vN))),(jf 0 őc (TM (zf XX Ãe) (TM Ϣe vN))),(W.fnOf Ĵ c h i a dV kV F pm an d ct),(.Tuple [.Name x p1,.Name y p2] kk pos),(by let:=õc z;omega),(m/512+(i:Æ)),(λq a b=>dj q ((Ça).mpr (.inr a)) b),(λd=>match d with|.tup [_,x]=>x|d=>d),(ze (ze m i (.own y)) y (.ins C i [])),(qW O P w K J l N g d f I A ċ s H E),(pN (Õ).length λi=>!decide (i∈R)),(c.pin (b,o) (Ĭa _ (Ĭa _ (BE p e)))),(by first|show .inl ϸ|show .inr ϸ),(Z.pin (b,o) (Ĭa _ (Ĭa _ (BE d e)))),(PySem.F.args_tuple_iterator_next_1 _),(kY (qd ϩ jg) (BC ăk (BC Ûc jM))),(if x∈cs then getA fs a f else Å),(if k'=k then À v else ĉ ks vs k),(f (E.go d) c λr o n=>q _ _ (Ϛb n)),(.Tuple [.Name x f,.Name y p2] g pos),(.Tuple [.Name x c,.Name y p2] e pos),(λ_ _ z=>nomatch z),(.dic (kP d) (vP d)),Builtin.SmallTypes.ownedTupleHandOut,[.str Ïa,.int (m/4%8),.int (m/4%8)],(ϊ λp=>zR (zm 2 (zf p.1 ĭa)) t9),(backToKw cpos (keywordEach [] Û)),(żb (show tI _ _ _ _ _ from h).sx),(η (gj t a b y) (QH t a b (x+1))),(zy (m i s σ H _ I h) λv j e=>?_),(zy (k g s σ H _ I h) λc l d=>?_),(zy (d b s σ H Q I h) λc f e=>?_),(e2 zJ (e1 (wK [Ŀ] âb) ą) Žg),(.tup [.str (Űa w),.int d,.int n]),(.nx (pE s f m ct űa mn R ĉk L')),(Śc y=À .cell\/Śc y=À .free),(ωa (λ_ j=>0<j/\j<2 ^ 64) (i/j)),(čb hz rfl (x:=.bool Ä) rfl ?_),(ý (show k+1<=101 by omega) Ò),(zm 5 (e2 xE (e2 vC ą ìb) Ĕ)),(if(ę t==ϫa)=Ã then _ else _),PySem.F.entry_tuple_iterator_next,(λq z=>(Ça).mpr (.inr (s q z))),(λq z w=>B q Ðe λF=>w (j q F)),(uv 6 (we (ψa (Η (.int 37))))),((Ğ h).resolve_left λz=>c įb),(!w.params.followText Řc && ϛd),(zD z_ (zD z_ zP)),PySem.F.slot_dict_getitem.lookup,PySem.Calls.Name_function_global,(zM (yO ĺc)),(z6.take í),(čb hz rfl (x:=.ref TI) rfl ?_),(λm c f j s o=>i m c f j Ăk o),(λm c f b s o=>i m c f b Ăk o),(g0+g1*256+g2*65536+g3*16777216),(.ListComp g [{tg,b,f,0}] a pos),PyProof.Rows.slot_tuple_getitem,[.own Þd,.fz ŧc,.fz (.int w)],[.lst Ϲ,.int first,.int most],[.int w,.int 16,.int 16,.int n],(ωa (λ_ j=>0<=j) (i/2 ^ Åa)),(Β (L.map λl=>D.lst (zN l))),0,(čb hz rfl (x:=.none) rfl ûa),(Ób [a] Û=[(Ä,ĩ a Û)]),(η (gm t a b y) (QJ t a b x)),(λp=>if p.1=a then(a,b)else p),(zW Zs Zr (zW Z1 k_ zI Ĺ) zI),(wq Ă zG i++vn Č zG i++[r]),(uv 5 (VO à gI (wf ć Ϡg))),(rI Fn λi j=>.int (i*2 ^ Åa)),(kvs.any λkv=>decide (kv.1=k)),(k = Âa \/ k = èa \/ k = ía),(gg left (wj f) λi=>K x (b+i)),(by unfold II;simp only[Ø,d]),(PySem.F.args_dict_get_3 _ _ _),(Nat.le_of_sub_eq_zero (Ϯg c)),(.Call (.Name x xp2) Ę [] p2),((σ++Ő 2 Å).set i (À b)),(zW Z1 k_ zI ϔd),PySem.wpAny_comprehension_free,Array.perm_iff_toList_perm.mpr,(Ğd (F.map λi:Â=>(i:Æ))),(ġa<=14/\(ϊa:Æ)<=2*most+2),(ϟd (es:=es) (t:=t) c b i ?_),(λq z w=>t q z (Δa (i q w))),(λq z w=>B q (Δa (i q z)) w),(λb o f e=>(Q.2 b f).trans e),(by rw[size_push'];show Ņb f),(X.take k++r.toList++Y.drop e),(PySem.F.args_tuple_add_2 _ _),0,(Δ (9*((RR.length:Æ)+1))),(Ś Ņ Ņ hi-Ś Ņ 0 lo),(Ś ë ë hi-Ś ë 0 lo),(Ě (x/2 ^ ((l:Æ)).toNat)),(Ě (g*2 ^ ((n:Æ)).toNat)),(pN (Õ).length λi=>q_ Ϧ),(jR (Õ).length ſ ßf Þf),(.tup [.str w,.int d,.int n]),[.int (i:Æ),v],((Õ).length+1),[À (Ä,.lst ϩe),Å,Å],[À (Ä,.lst a),Å,f,q,o],[st Ŕ a b c hk hv,.fz ώg],[st Ŕ a b c hk hv,.fz Ċb],(Ŵc e Å İd Û=pure Ä),(λc f j e=>g a d k c f j e),(wD ["four"] ["byte","low"]),(st Ŕ Ä Ä Ä ĳ Ŧ),(setField ćc 2 .none >>= _),(pE s f m ct űa mn R ĉk L),(if g=f then À u else i g),((Ĉ).map λr=>xC (yY X r)),((p:Æ)<((Õ).length:Æ)),(!(Ϻe j i 0 Şa 1).isEmpty),Nat.min_le_left,List.idxOf_lt_length_of_mem,List.getElem?_concat_length,Builtin.List.listLengthHint,Builtin.List.listExtendWith,(Ėb e f Û ôe=ĩ e Û),(λd1 d2 v=>Md I n d1 d2 v),0,(zf uN (qB à ĥb ą zE)),(zX ŝ zV (vd ğ qz) Ŵb),(pN (Õ).length (gY z6 T)),(if zl d=Ã then 0 else 1),(e2 xE (e2 vC ðb ņb) ìb),(e2 pW (e2 uA ń Ĕ) ń),(List.pairwise_map.mp this),(χa (.int 64)),(p∈xL Č zG),"dict_reverseitemiterator",Int.fdiv_eq_ediv_of_nonneg,Builtin.Slice.sliceApplied,Array.toList_setIfInBounds,[wm T e fw fh sd due done],(Ι (zW ue ud (zA 4) zI)),(λb p=>b++sep.cps++p.cps),(zD (vd ğ jg) (Γ ăk)),(yK BN BL Ża (zM jT) Áa),(if p.1=a then(a,b)else p),(by rw[mirror_size];omega),(W.methodObj ī (.ref y)),(Pf X i &&& uH T (Wf X i)),((ħb).testBit k=Ã->x=y),"_law_machine",Option.map_eq_some_iff.mp,[śa,Ĳb,Źb,ïc,ža,þb],(ġb (ïb q ŗ Ý f c)),(ġb (ïb c ŗ Ý f g)),(ġb (ïb a ŗ Ý f b)),(Γ (zX ŝ zV Ġ ϑa)),(ε (zM (vG IZ OU rfl))),(τ.set i (À (Ã,d'))),(λf vs=>PySem.call f vs),(vB (own:=[ėa,Ćd]) rfl),(tE (e2 zh Ńb (eC Ěb))),(rule "list.sort.gallop"),(pN (Õ).length (Zp z6)),(iU ĝ (λb a=>Ãc.1) k),(i ∉ l/\J k (i::l) i s),(by simp at hn ⊢;omega),(X.N.map (hide own)++own),(Ts (qD ą) (vO 3 4) OE),(Nat.le_of_ble_eq_true z),(.nx (Ν (À (Ã,a)))),(.ins C dx (putF f y fs)),(.call (.ref Q) {Ϯ,[]}),(.Compare a [op] [b] pos),(o q/\¬ L1 q),(j.2 a l.symm),(L q/\¬ L1 q),slot_list_getitem.lookup,PySem.F.type_list_append,PySem.F.slot_tuple_index,PySem.F.slot_list_append,List.Pairwise.imp_of_mem,Builtin.List.listSameRef,(ωa (λ_ j=>0<j) (i%j)),(ϐ q++çb ϫ (j+1+m)),(Ĳa w (ňb 4294901760)),(xs.drop (Ś ë 0 lo)),(wD [ŭc,Ŕb] [ϖb,Ϭb]),(uh z6 L ġh dl ŭa Ϛd),(seqObj Ī f.toArray 0),(p<18446744073709551616),(if i∈a then 0 else 1),(by rw[e];simpa using l),(by exact 2<=å;decide),(Option.map (λx=>!x) y),(.lst ((Æb a).map Ě)),(.Attribute o "get" Èa),"itertools.zip_longest",PySem.F.entry_tuple_add,Nat.testBit_mod_two_pow,Nat.testBit_div_two_pow,Nat.not_lt.mp,List.length_pos_iff.mpr,List.getElem?_cons_zero,List.getElem?_cons_succ,F.entry_set_update_loop,Builtin.Dict.updateFrom,[À (Ä,.lst z6),Å],(Β ((Æb d).map ÿb)),(λx l r Q c U I O=>?_),(λd=>.tup [d,.bl Ã]),(λb o f e=>eb b o f e),(by rw[<-m];show Àh _),(.Return (À Òe) pos),(.Name Ÿa p),PySem.F.slot_tuple_add,PySem.F.entry_dict_get,PyProof.Rows.bitAnd_pp,Nat.testBit_lt_two_pow,List.pairwise_lt_range,(À (Ä,.dic ks ds)),(λq z=>(Ça).mpr Řb),(λc=>D3 x (z+1) c st),(λb o g e=>S b o g e),(zm 4 (e2 xE ą Ĕ)),(zm 0 (χa (.int 28))),(yz T e fw fh s d0 j0),(yO (vH Yc b rfl ěb)),(yO (vH Il b rfl ěb)),(yO (vH Ik b rfl Ŋb)),(v pos l s σ H _ I h),(uh z6 L T dl ŭa Ϛd),(uH T Ĥb &&& Pf z6 m),(tJ (yG Vc b rfl ϰa)),(rI C λi j=>.int ϸa),(i.trans (Ńa i.gh f)),(gT Ŕ a b c ĳ Ŧ),(by rw[z];show ÿ ..),(by rw[uw Ê];show w),(by rw[d];show{_,f,q}),(Pf z6 i &&& uH T ëe),(B_ a b (ϐ q) i Íb),(.inl {b,k,e,rfl,rfl}),(.While c body [] pos),(.Subscript ž k ϓ),(.Call Ċk Ę [] Ϭ),"RowMachine.__init__","PUT_NOUGHT_AND_SIGN",X.s₀.heap.FunFrames,Std.Legacy.Range.size,PyProof.Rows.wpS_lift,Nat.add_lt_of_lt_sub',List.mem_filterMap.mp,List.getElem?_zipWith,List.dropLast_eq_take,List.Pairwise.sublist,Int.mul_ediv_add_emod,[śa,Ĳb,Źb,ïc,ža],[ąa,Ńc,áe,ϔb,ŀb],[ąa,Ńc,"_law_most"],[wm T e fw fh sd d j],[.int x,.int (n:Æ)],[.dic ĳ Ŧ,.int x],(Θ ((x+n)%65536+3)),(Θ ((x+n)%65536+2)),(Θ ((x+n)%65536+1)),(Θ ((x+n)%65536+0)),(zB (Įd (vY f) s).2),(yz g e2 fw fh r o m),(x.above y c (Ðf h)),(uh z6 L T Ϟb x6 x7),(uh z6 L T dl ŭa x7),(pU (tE Ĕ) ń ı),(p7 (u.t5 b c v q) d),(fq I j l hf e g f d),(es.getD p (0,.none)),(by simpa using this),(by rw[Ē c];decide),(by rw[<-Ōa];show a),(F.args_zip_next_1 _),(D4 D.l2i2 J.toArray),(D4 D.l1i1 G.toArray),(.Call Ċk [] [] Ϭ),(.Call ϓb [] [] pos),(.Call ž Ę [] p2),(.BoolOp .Or [a] pos),(.Attribute o f tpos),((Öa x).set îb.1 r),(.ret .none),"str_ascii_iterator","itertools.pairwise",wpAny_loadName_local,codeAny_call_builtin,Nat.add_le_of_le_sub,Nat.add_le_add_right,List.length_eraseIdx,List.length_dropLast,Calls.evalArgs_plain,Array.toList_reverse,[yz T c fw fh a d b],[.Attribute o f ϓ],["one",ãe,"borrow"],(ω (Xu .list ą)),(Ħd 0&&p.testBit 0),(θb (wK [Ŀ] ĸa)),(Γ (vG IX OS rfl)),(Γ (vG IV OQ rfl)),0,(λz=>e (a.trans z)),(λq z=>i q (j q z)),(λq z=>h q (s q z)),(zb (Z6 (qv 4) ťa)),(wD [õe] [ϖb,āa]),(w a/2147483648%2=1),(w = Ða \/ w = Ía),(tE (e2 Ze ą Ϸa)),(if a then 1 else 0),(by rw[ĭ]<;>omega),(by rw[yH z];show c),(by rw[g,l];show hz),(by rw[a,hl];decide),(by rw[N.len];omega),(by let:=P.ln;omega),(X2 a b ĺd (i-1) j),(Tk I o u hv ?_ q a),(Nat.le_add_left ..),(.tup (c++[.str t])),(.rt Ä (.str Ĵ)),(.inr (i q (j q z))),(.Subscript o k ϓ),(.Subscript a b pos),(.Call c Ę [] pos),(.BoolOp op [a] pos),(.Attribute o f ϓ),((d q).mpr (.inl c)),"dict_itemiterator",0,"Machine.registers",z.cps.toList.length,ws.take,wpAny_setEntries_of,wpAny_loadName_cell,wpAny_letGo,Nat.sub_le_sub_left,List.replicate_zero,List.range',List.filter_sublist,Builtin.Range.small,[Ŗa,"low",İf,ėa],(ιc (.Name Ţa p)),(ιc (.Name ϕb p)),(ηb (.Name Ña p)),(Ψc (ν (x=.zO))),(Ψc (ι (x=.zO))),(Ο (zA 4) (zA 7)),(ϊ λp=>.int p.1),(Θ (âe%65536+3)),(Θ (âe%65536+2)),(Θ (âe%65536+1)),(Θ (âe%65536+0)),(Ŏa (Ϸ (qI hi))),(ě _ (ě _ Ũc)),(À (Ã,.lst xs)),(λx l r Q c q=>?_),(λp=>(J p).map pl),(zX ŝ zV Ŭ Îa),(zX ŝ zV ğ ťa),(vp ps Ĉd (v%256)),0,(vE I s N L ϭd x6),(vB (own:=ĸd) rfl),(vB (own:=Ŋh) rfl),(vB (own:=ϭb) rfl),(uQ (vG VX U0 rfl)),(storeName Û x u),(pq λi j=>.bl ϸa),(p7 (u.ql b e q) d),(intBits_le_64 b a),(by simpa using hz),(by simpa using hi),(by simpa using h2),(by simpa using e2),(by simpa using e1),(by simp only[Ø]),(by rw[ļ];show b),(by rw[ã];show c),(by rw[z0q];decide),(by rw[w.l];show g),(by rw[H.l];show d),(Zx (tJ Ĺ) zI zI),(Obj.putSet es2 t2),(.tup (p.1.map kV)),(.ret (.int j ĕ)),(.Tuple elts kk tp),(.Assign Èf v pos),(.Assign Àf v pos),(zf VA ĭa),"internal:collect","dict.update.loop","Machine.__init__",s.heap.IsTupleIter,getattributeRaised,SetTable.orStandIn,SeqAt.EqAt.str_int,SeqAt.EqAt.of_refs,SeqAt.EqAt.int_str,Obj.data_mapFields,List.zip_nil_right,List.getElem_idxOf,List.getElem?_take,List.Nodup.sublist,Int.lt_of_le_of_lt,(Ϙc (Ńa b.gh f)),(Φ (zD Ŭ ĭf)),(ϋa (Ńa c.gh e)),(ςa (Ób es env)),(À (Ã,.lst L)),(λv _=>v=.bl Ã),(λb u e=>ě _ e),(λb B H q=>I b q),(λ_ h=>Þ h ô),(λ_ h=>nomatch h),(λC s H c b=>Ĺ),(zd (zd (zd Ϥe))),(zX ŝ zV Ŷf zI),(zW wS wR ğ Ġ),(zW nF n9 ğ Ġ),(zW Z0 qc Ġ ϫg),(zD Îa (Γ ťa)),(zC Ĕ (Α Ϣd)),(xj (Œa (Ĥ g))),(wpAny_handled ?_),(wL [] [] p.1 p.2),(wI (putO o W Ws)),(seqObj Ī #[] c),(p b s σ H _ I h),(i f s σ H _ I h),(call Þb (v::us)),(by simpa using t),(by simpa using Y),(by simpa using F),(by rw[Ź,A];rfl),(by rw[Ć];omega),(by rw[ì];omega),(by rw[hp];decide),(by rw[UJ];show h),(Zb (β.take ħ)),(W/2147483648%2=1),(DY t1 t2 h l1 l2),(DX t1 t2 h l1 l2),(Bu a b ĺd í j),(.obj à ϣe Ćk),(.inl (W6.mp d).2),(.Tuple es x1 pos),(.IfExp c a b pos),((ę t==ϫa)=Ã),((a:Æ)==(b:Æ)),wpAny_storeSet_of,wpAny_setEpoch_of,wpAny_pyIter_slot,wpAny_pyIter_enum,wpAny_assign_Name,s.heap.IsListIter,d.params.defaults,Value.isInt_shape,Nat.or_lt_two_pow,Nat.le_of_succ_le,Nat.add_sub_of_le,List.pairwise_map,List.nodup_append,List.drop_sublist,List.any_eq_false,Int.emod_eq_of_lt,Heap.get?_push_ne,Calls.spliced_nil,Builtin.Str.glued,Bool.not_eq_true',[ţa,Ŝa,ŝa,Ŕa],[.lst Ϲ,.int k],(ŉa i q (p q z)),(ŉa i q (I q z)),(ıf b o e n F t),(ϯg _ _ (ŧb r)),(ïb g d Ý f I),(łc {nofun,Ųa}),(Β (ps.map pD)),(λz=>by cases z),(λx=>x.1.isSome),(zm iy (zf F fs)),(zl d=Ã->f d=d),(ze a p (.lst c)),(zW xZ xX ğ zI),(zW Zs Zr Ĺ zI),(yG qZ b rfl Ųh),(yG qZ a rfl Ĭf),(y.toList.map wj),(x.toList.map wj),(wt (Õ).length),(wB g xc e σ ds),(tF (s.free t) _),(not_not_intro z),(i<1099511627776),(f.trans (ĳe n)),(eL vk (Η ϝb)),(by rw[z];show a),(by rw[i];show W),(by rw[i];show J),(by rw[c];decide),(by rw[b];show c),(by rw[<-OF];rfl),(b=Ä->q_ r=Ä),(List.cons.inj a),(.tbl (ps++more)),(.Tuple es k pos),(.Pass {0,0,0,0}),(.Dict [] [] pos),"odict_iterator","_law_mark_here","State.__init__","REGISTER_COUNT","Machine.stands","Machine.memory",z.cps.toList.map,wpAny_pyIter_zip,wpAny_getItem_of,wpAny_execs_cons,noFill_tuple_add,e.heap.objs.size,b.heap.objs.size,W.cellsFrom_some,Option.getD_none,Nat.succ_lt_succ,List.range'_succ,List.isEmpty_nil,List.countP_cons,List.any_eq_true,List.all_eq_true,Int.ediv_le_self,Heap.size_update,F.entry_zip_next,["name",ĩb,Ŕb],["_law_address"],(À (yx K ϥe)),(λz=>h (õc z)),(λx y=>ό Ïc),(λq=>nomatch q),(yR x èk Å g),(wt (m%8).toNat),(wt (m%4).toNat),0,(wL [] [] ks us),(wG K V ϥe Ķ),(wB g c e σ ds),(tE (zf Xa Őb)),(s i q/\¬ L1 q),(qe z6 F Ϟb x4),(putO o (w g) t),(hd++[.str Œk]),(e2 ļc ć Ϙb),(by simp[ęd,a]),(Zb (β.take b)),(.obj à [] []),(.fresh 0 0 Ϙd),(.done (Å,())),(.builtin "sum"),(.builtin "all"),((Ϫd).length=n),"type.__call__","Machine.marks","Machine.again","LOOK_AT_CARRY",wpAny_loadPart',u.toNat.testBit,sc.names.lookup,es'.toList.Perm,codeAny_of_tree,Option.map_some,Nat.div_add_mod,0,List.zipIdx_nil,L2.isort_sorted,Heap.DictOf.new,F.slot_set_iter,F.slot_int_rmul,F.plain_set_new,[.at [Ŀ] âb],[.at [Ŀ] ĸa],[.at [à] ïc],[.at [à] Źb],(Βa (Γ ϩd)),(δa (À Ļd)),(Δ (i+b2i k)),(Δ (g_ ps a)),(ϐa W ďa Å),(ϐa W Å ďa),(Œb (ßd Őd)),(Β (xs++[y])),(Β (Tn s.ps)),(Ób [e,f] Û),(õa (įa x z)),(σ++Ő 1 Å),(λz=>.inl Řb),(λ_=>.inl rfl),(β++[À Ļd]),(zR ãh t9 Ϟd),(ug ks ms k m2),(q _ _ _ d rfl),(iq λi j=>i+j),(h.swap.pa e c),(f x (Å,l,r)),0,(eC (.int 256)),(e2 zJ ĺ ðb),(e2 zJ ĺ ř),(e2 zJ ĺ ı),(e2 zJ ą õb),(e2 zJ ą Ϡa),(e2 xU ą ć),(e2 xE ðb ņb),(e2 xE ř ęb),(e2 vC ř ņb),(e2 pW Ĕ ń),(e2 Ta ą ć),(e.2.2.2.2.1+1),(a++[.str Ēd]),(Z5 rfl uV Ŭ),(UB rfl j5 ğ),(Rd.tw t όk q),(O6 I m o ?_ a),(K.set îb.1 r),(K.ext.trans x),(I.ok.Ug b o e),(DB sp [] E0 t),(A C s H fp pn),(11*ál-Z9 ϯe),(.nx (Ν éc)),(.bl (yx ks k)),((Ĩl).trans y),((Ça).mpr Ĩb),((Ýa).idxOf p),((u p).mpr rfl),"str_iterator","Machine.step","ADDRESS_BITS",sliceRange_one,slicePart_none,recursionLimit,isSubtype_stop,firstArgMember,env.scope.kind,entryFor_alias,c.toArray.size,c.resolve_left,Value.type.inj,PyData.keyHash,Nat.add_le_add,List.forIn_nil,List.Perm.swap,J.toArray.size,G.toArray.size,Bool.and_false,[À Ϝd,x1,a],[z,TI,TO,i1,B],[s,.int (f+2)],[b,x1,a,x3,x4],[.int (n:Æ)],[.dic ĳ Ŧ],(Ĵb [:n] c f),(Ŧh (z▸hu)),(ôf tg æb u),(Åe (Å,())),(Β (zN Ãh)),(Β (DH s b)),(ę ľa::Ĺd),(Á V×Á D),(λz:Ç=>þf),(λi=>ſf i 0),(λ_ _ _ e=>e),(β'++[À m]),(yR x p Å g),(xw x&&ϡc xw),(x-y-pZ Ä<0),(wG ks ds x y),(wD [õe] ĩi),(vG Mj Bb rfl),(vG IY OT rfl),(vG IW OR rfl),(uT d&&ĳb ds),(tF (ĉi i) _),(pre_splitW c),(m.2 a l.symm),(l.lst hl Øb),(jP fs vs f w),(jP fs ms f e),(h [] İe ϛc),(glued sep ts),(eC (.str "")),(d2 q (C▸f)),(cutS z lo hi),(by rw[ú c]),(a.getD i Ä),(Z5 rfl uV zI),(P4 _ _ _ _ _),(G _ _ Ê ?_),(.int ϸa ĕ),(.int (w:Æ)),(.int (n:Æ)),(.int (j:Æ)),(.int (b:Æ)),(.ins C dx []),(.inl (i:Æ)),(.fz (.int u)),(.fresh 0 0 b),(.List es pos),"list.append","__getitem__","Machine.run",x.toList.drop,subscriptTail,seq_tuple_add,s.heap.IsCell,listUpdate_at,i.natAbs.log2,h.IsTupleIter,evalPart_none,call_list_seq,WData.layable,W.callWith_K0,Value.isStrOf,SetTable.laid,Reps.dropLast,NameKind.free,NameKind.cell,Int.reduceSub,Bool.false_or,Bool.and_true,A.in1.handled,[Ťd,ãe,Âa],[öc,ąa,Ńc],[śa,Ĳb,Źb],[ŀb,áf,Đf],(δa (À a)),(ĕe _ _ n x),(Δ (2 ^ w)),(ýe Ę Û),(Ϫg (ϱg d)),(ϐa z lo hi),(ĩ öa Û),(ķ _ (r t)),(À Ϝd::yB),(σ++[À b]),(λo j=>o++j),(λi h z=>?_),(ze H' D Ĝa),(zb (v_ ĺc)),(yb (eC û)),(xx.size-1+1),(wI (Îb ps)),(wI (W++[v])),(vp ps x őd),(vp ps v ái),(ug A a k m'),(rl u p T ws),(qJ 4 tS õb),(putO o x Ws),(ps++[(a,b)]),(kf r.2 i π),(j.gh.free r),(i.gh.free f),(i p (j p w)),(hd++[Òa t]),(g_ ps a≠0),(b.gh.free f),(a/2 &&& p/2),(Zv ps Ĉd v),(Yp kvs more),(Y0 Ă zG n),(Xs xs lo hi),(St->Hp->È),(G _ _ lo ?_),(0<(ŕ:Æ)),(.str s t::r),(.str (i++j)),(.Name Ī p),((n:Æ)+1-1),((left-1)/26),(eC ßb),"ALL_NEEDED",setNextDrawn,r.mem_iff.mp,p.mem_iff.mp,0,n.mem_iff.mp,h'.objs.size,e2.length_eq,call_range_1,call_meetsIn,c.toList.any,c.symm.trans,b.cps.toList,a.cps.toList,W.kitx_tuple,SetTable.has,OwnMs.length,Nat.mul_comm,Nat.lt_asymm,Nat.add_zero,Int.max_comm,Array.toList,[.str ļa,t],["_law_row"],(ŗi gQ acc),(Ŗi t es n),(ġc e.gh i),(Β (x::r)),(Üc ?_ Ġh),(Ő ϳ xs),(λz=>e űk),(λx v h=>h),(λi v h=>h),0,(λd=>!Ye d),(λc=>p ţd),(λb v h=>h),(ze H l ċe),(ze H l Ĝa),(zd (zd yV)),(zb (yr g7)),(zD Ĺ Ϫh),(zD Ĺ ĭf),(zD Ĺ Ĩd),(zC Ĕ čc),(zC ć Łk),(yR y p f g),(xw o&&xw m),(xj (Ϟ i)),(xj (Ϟ f)),(xh ϧ Ĝa),(wK Īi ĸa),(vm (eC Te)),(tC (.ty T)),(qG kvs k y),(p6 ı ĺ),(okb.J4 b d),(newList []),(n+M.length),(loop _ rfl),(ks.map ϙa),(k.append o),(jQ m π m2),(jQ P π m2),(is.map Ě),0,(i+1+1==Ŏ),(fs[k]' Ê),(dl++gl L m),(c.h _ _ e1),(by cases h),(b (gx r.2)),(VW X.K n t),(NK Ê Ò),(I.Wj x c e),(DW t1 h l1),(CJ a o kvs),(C.bs b o e),(46+(i:Æ)),(.type T.nm),(.tup [v,u]),(.tup [u,v]),(.tab ks ms),(.int 65535),(.inr {f,d}),(.inl {z,w}),(.inl {f,d}),(.inl {c,w}),(.dic ks ds),(.bl (q_ r)),((i:Æ)<ct),"_law_word","WORD_BITS","PUT_CARRY","LOOK_AT_S","LOOK_AT_D","BYTE_LOWS","BYTE_BITS",wpAny_throw,wpAny_in_of,unsupported,t.heap.get?,subscripted,seqEpoch_at,r.length_eq,o.ExactDict,mirror_perm,interactive,i.objs.size,ds.dropLast,c.objs.size,binarySort',acc.toArray,W.kitx_dict,Value.isInt,Value.bytes,Shared.heap,Reps.append,Paired.snoc,OwnMs.split,Option.none,Nat.sub_sub,Nat.one_mul,List.filter,IsRangeIter,IsRange.new,Int.mul_one,I.ok.ja.mem,I.ok.frames,Heap.ExtBut,E.ext.trans,D.TOi1.symm,Code.guards,Code.frames,C.objs.size,Builtin.Str,[a,.fz Ġd],[a,.fz Ħk],[a,.fz ěk],[a,.fz Ýc],[S,.int 38],[S,.int 37],[S,.int 30],[S,.fz Ħk],[S,.fz ěk],(àm k þ),(ŉa n q z),(ŉa n q c),(łd j Å),(Δ (a%3)),(ķf j .zO),(ķf i .zO),(θc (Ŋc)),(ĩ e env),(ĩ a Û),(Εa (i-j)),(ι (i=j)),(ñk∘Į),(çb m Íb),(Üc ďk a),(Ĭa _ ÿ),(ŭ ěc f),(ý l Ò),(ý a Ò),(ý C Ò),(Ő k its),(ŏ _ ϱ),(À (_,d)),(zf vh Ãe),(zf U_ Őb),(ze H' D o),(ze H x o'),(ze H a u'),(zD ϔd zP),(zD z_ Ϧk),(zD z_ ék),(zD zI Ŏc),(zC ĺ zE),(y j q p z),(wg I q ?_),(wE ks Ğe),(wA V1 ĭa),(vn n zG p),(uq (vq p)),(uq (vq e)),(j.cut l h),(ixN þ j),(gc (yh d)),(fs.zip vs),(eL vk Ôb),(by show N),(by show A),(as.zip vs),(SP X z8 D),(S.len▸e),(NU (zQ d)),(Ko f y fs),(B.trans a),(11*Ĝ-s'),(.yj o īi),(.yj o ϧ),(.type ńa),(.rt Ã d),(.rt Ä d),(.refl _ _),(.ok .next),(.Name x f),((n:Æ)+1),"__iter__","MARK_LOW",us.toArray,tz.none_of,typeLookup,size_push',pushGuards,places.map,nds.length,m.zi.fresh,l.swap.fin,isTrue_and,g.zi.fresh,f.zi.fresh,dl'.length,closureFor,boot_range,bind_assoc,acc.length,a.Pairwise,Walks.list,WShape.has,W.handedIn,Subscript_,R.Pairwise,OwnMs.putF,Nat.mod_lt,D.i2z.symm,D.i12.symm,[p0,p1,p2],[.tup Ëd],(Ìc V.bl),(ģc .inr),(Ćf C dx),(ŕa<1000),(Œa this),(ë==ů),(Ő k xs),0,(Ã==Ã),(Ý==Ëi),(À (-1)),(λv h=>h),(zm 6 ÿl),(zm 2 ēm),(zm 2 ı),(zm 1 ı),(ze H q o),(ze H a c),(ze H T o),(ze H D o),(ze G p u),(ze G p o),(xh d1 d2),(xN b=Ã),(w/2 ^ 31),(vp d u v),(vY a s d),(v.da Øb),(ut its k),(um þf i),(uB a Ϫk),(truthy v),(s.2++[d]),(qK 4 Ũb),(qK 1 Ϲe),(qG f k v),0,(j+1==ϗ),(eL FL fs),(by rw[h]),(by rw[e]),(by rw[c]),(arrOf st),(a.d4 X G),(W7 b=Ã),(PF r d a),(P.zip vs),(NZ e=Ã),(I_ ĝ n),(H b ob e),(2 ^ 63-1),(.tup àl),(.tup Ķf),(.tup Šk),(.str Ía),(.str x t),(.ref Šc),(.ref Ϥa),(.own ύk),(.lst Õd),(.lst űa),(.int ϸa),(.int Ņ),(.int ë),(.inr ía),(.inr èa),(.inr Âa),(.inl ōb),0,(.inl p.1),"dropped","Machine","LETTERS",zs.length,z.sameBut,ws.length,updateSeq,t.advance,strValues,spos.line,sortRuns',slicePick,sh.extBut,sg.extBut,s.ws.getD,s.heap.Ns,putSet_of,pu.isList,ok.frames,newFields,l.swap.sa,l'.length,kvs.foldl,isTrue_or,i.g.trans,h.toArray,h.swap.ca,h.IsTuple,h.DictOfH,getMethod,g.isEmpty,g.gh.free,es.length,d.sublist,countRun',c.g.trans,b.testBit,Y.isEmpty,Reps.take,Reps.getK,Reps.getA,Reps.drop,Int.toNat,I.zi.kept,Classical,Arguments,[šd,Ŕb],[ďl,ŀb],[õe,ĩb],[āa,ľj],[ĩb,ŭc],[śa,Ĳb],[ś,öb],[Ða,Ía],[ŀb,Đf],[ĥ,Ŝf],[x,y,z,u],[w,x,y,z],[v,ov,iv],[a,.fz r],[3,2,1,0],[2,0,3,1],[1,3,0,2],[0,1,2,3],[.p 0 []],["thing"],(Ád a l),(Ϗe Ϯd),(ďg í),(ϧi Ŗ),(Ϡi í),(ťd ϙa),(Ým ûa),(Úm í),(Ţd æb),(łl hlt),(Ìc Į),(ſf i 0),(Ϣc ę),(ðl _ _),(ġc s t),(Θb ĩl),(Θb ħl),(υb Ϟf),(Ų d o),(Ų d j),(Âc s h),(Ĕc Ōg),(θc Ϫk),(ηb ŏl),(Χc čh),(Ϲa.1+1),(Εa ϸa),(Ă[p]?),(ϑ Šc),(υa ŋc),(Β ĵg),(Β ŵf),(Β Ĳk),(ķa .Eq),(őa ώa),(Γ ğh),(Γ Îa),(į rfl),(Η Őf),(Η ġd),(Η ϙb),(Η ϳa),(Η Ěb),(Üa äd),(Ι äh),(Ϟ ěc),(Α ýf),(ε ϡb),(Ĭa _ z),(ϡ äb),(ϡ Åa),(ŏ _ s),(ŏ _ e),(ŏ _ d),(ě _ g),(ó çj),(ó ďk),(À łk),(À Ŷ),(zC f fs),(z0v _ _),(z0b P a),(z08 m s),(xy K qp),(xy K jc),(xy K gI),(xy K XW),(xy K Uw),(xy K Uv),(xr z6 a),(x/2 ^ l),(x a o e),(wE ks x),(ut [] 0),(uR K uN),(uR K Wy),(uR K Wx),(uR K Ww),(q _ _ d),(o=À k),(o++x++y),(o e1 e2),(k K a z),(jz P hi),(hv s hs),(h r g f),(gf E.Wi),(gR F fa),(fg d τ),(f _ _ e),(ds++[y]),(d+k+x.2),(cut H L),(a[ϳ]?),(a::b::r),(a++[yv]),(Yp [] b),(U y c e),(Sd te t),(Pf z6 i),(Lx lo n),(IJ ns k),(Hp->È),(F b o e),(C.n X G),(C q Řb),(C q ſa),(BY P hi),(2 ^ w-1),(.v d::a),(.ref Ul),(.ok ϣl),(.nx r.2),0,(.lst vs),(.lst ds),(.int g0),(.int 24),(.fz Ģh),(.fz Ϯb),(x==("__debug__" : Str)),(zX ŝ zV ğ zI),(yP (Jx (n:=4) Ò) Ò),(qd ϩ wc),(by cases y<;>show c),(qd ϩ qz),(Ąa (show n<32 by omega)),(uq (vq j)),(e2 xE (z7 6) ęb),(eC (.int 26)),(by exact _<16777216;omega),(by unfold uh;generalize zB z6=RR at b a ⊢;generalize vI z6=WW at b a ⊢;generalize Íc Áe=LL at b a ⊢;generalize zN T=TT at b a ⊢;generalize zN dl=DD at b a ⊢),(by omega;rintro _ g (⟨f⟩|⟨l⟩);show ü {g,rfl,_,rfl,f}),(by decide +kernel),(by rw[Va];unfold YS;show U5 Ϗc ?_),(by show Ōj {?_,?_};rintro(⟨z,w⟩|⟨z,w⟩|z);show .inl {z,λF=>w (j q F)};show .inl {i q z,w};show .inr z;rintro(⟨z,w⟩|z)),(by let{c,B,rfl,d,l,E}:=r2;cases(show u=ę a from rx);cases(show v=ę c from ry);by_cases hac:a=c;subst hac;rw[Md I Ĝ _ _ _ q o m]),(by rw[show ĺf Ãb=Žd Ãb by simp,Jz r c];show q),(by intro n s σ H x y v u Q I f d h;let{o,m,k,e,g,i,q}:=h;by_cases hf:åo=Ã;let c:=hf;rw[Đ]at c;let{a,b}:=sI i c.1 c.2 e g),(by show this),(by unfold Xr;generalize zB z6=RR at d f ⊢;simp only[Ø,d,f];rfl),(by subst e;let{o,e,c,d}:=st;show{o,e,λv z=>by rw[d]at z;cases z}),0,(by intro i s σ H Q I h),(by simpa using this),(by exact(ϸb).bind _=_;rw[e1]),(by dsimp only),(by show ϰg Ĺi Ăi Ĉi žh ?_;unfold Builtin.«sorted»),(by show{_,rfl,?_}),(by rw[Ñ c]at b;cases b),(by rw[Ï c]at b;cases b),(by let{a,q,rfl,f,b,C}:=n;let{c,z,rfl,d,l,E}:=o;cases(show u=ę a from p);cases(show v=ę c from m)),(by intro X N G C Q i O s σ H E I q st p;subst N G C;let{_,f,g,L}:=Gy ĝ p.1 d;let m:ϱb=ŋ:=O0 g),(by by_cases c:k'=k;rw[Ï c]at e;cases e),(by kernel_rfl),(by rw[<-(ĵd).Ue,<-l];show h _ Çc;subst i;cases(show u=ę b from m);let{z,d,t,c,j}:=TX ĝ e),(by exact _<=16777216;omega),(by split at a),(by intro e s σ H x y v u Q I d b h;let{i,j,rfl,rfl,q}:=h;let{t,rfl}:=d;let{c,rfl}:=b),(by intro d s σ H x y v u Q I b a h;let{i,j,rfl,rfl,q}:=h;let{t,rfl}:=b;let{c,rfl}:=a),(by intro X hP hw hK d i z8 s σ H E I Y st hg;subst hP hw hK;let{f,j,{u,v,m},p,n}:=st),(by intro X hP Y Q b i z8 s σ H E I y st S;subst hP Y Q;obtain⟨⟨old,g⟩,j⟩:=st),(by let{u,rfl,p}:=qL r;cases(show u=ę a from p)),(by split at h),(by let{t,p,k}:=h.h),(by rw[ő,ő,ôd];by_cases c:m=i;rw[Ï c,Ï ţd,Ï (c▸h)];rfl;rw[Ñ c,Ñ Ĝi]),(by let{d,b,a}:=zK a;cases a),(by intro X y r m x i A s σ H E I d st p;subst y r m;let{l,q,G,j,g,u}:=d it ô),(by intro X T O L R i N s σ H E I q st C;subst T O L;let{B,F,Z,y,p,G}:=q it ô),(by rw[Ï c]at h;cases h;show{_,_,rfl,rfl,c,rfl};rw[Ñ c]at h;cases h;cases h),(by simp only[c,ϛb,ϋ];show ü (u c);simp only[c,Ŋf,Ňb,ċa];show ü (z c)),(by rw[Ûq];show Ó Ϛh;exact Ù _ _ ϴg _ _ _),(by rw[Ûq];rw[Ñ Ê];refine î Ŕn;cases e2:B Űf;show ü (O e2);show ü (I e2)),(by show{c.typeIs,λb q=>?_,g};cases q;let{ob,_,_,h,f,_}:=c;show{ob,h,f.2.1}),0,(by show Ó (m:=ϱe Àc) ?_;unfold ϱe;show Ó Ϸk;simp only[ϋ];show Ó ńk),(by let{j,f,d,r,z,q}:=c;refine{by rw[<-ϯ];show z,?_};let i:f Ϥa=Å:=ŧi Ď),(by let:=BH èg;rw[show(èg).isEmpty=Ä by rw[OF];cases zN dl'<;>rfl]at this),(by show{λh=>by rw[h],λh=>by injection h}),(by rename_i lo y q g L R;let G:=Ϭi;have ll:Ũd=lo+ġa:=by rw[<-ļ,i,ì,t]),(by let e2:=U7 _ e ϝk;generalize zB z6=RR at e2 ⊢;simp only[Ø,e2];rfl),(by intro b l;exact b<(Üa _).objs.size;rw[Ϧa];simp only[ęa,ϝ,Ļa]at l),(by by_cases hj:j=i;subst hj;rw[hi]at e1;cases e1;rw[òh O]at e2;cases e2),(by rw[ēh (ŧb hj)]at e2;let{u',W,q}:=hl j y v' e1 e2 e3;show{u',W,?_}),(by omega;rw[ì];show Ĭ _),(by cases a;show{_,_,b,c,q _ _ _ þa rfl}),(by rw[Ðq];by_cases c:E q;show .inr čo;show .inl {z,c};show .inr ſa),(by intro j s σ H x y v u Q I g f h;let{a,b,k,rfl,rfl,e,q}:=h;cases f),(by unfold vY;rw[hl];exact(s.1+1,if s.1∈f then s.2 else s.2++[d])=_),(by show Čb _;show Ņb c;rw[<-w];show z0f B;intro G x t' k;rw[<-w,e]),(by cases e;rw[ų]at c;subst c;show{_,gf Ŵ,?_};simp only[Ùc,ċa,ϋ]),(by rw[ìq];rename_i e;cases e),(by rw[Úq];exact(Şd).bind _=_;rw[e2];exact(Źm).bind _=_;rw[c];rfl),(by obtain⟨⟨m,β1⟩,hy,a⟩:=zK a;let{y,ey,a}:=zK a;cases M9 ey),(by let{C,e1,F}:=f w k;let{E,e2,G}:=f m n;show P j C E _ _ e1 e2 F G),(by intro l s σ H x y v u Q I g i h;let{p,k,rfl,b,f,c,q}:=h;cases i),(by cases f;rename_i g h;let{a,m,rfl,B,k,_}:=w;let{b,A,rfl,C,o,_}:=r),(by let z:decide (k<m)=Ã:=ú hk;unfold YT;simp only[ŉ,WN,z,f7,h]),(by rename_i p i;let{a,f,rfl,g,j,_}:=k;cases h;let{w,m,e}:=N_ j b),(by change (match xw x&&ϡc xw with|Ã=>À ðf|Ä=>Å)=À k at b),(by unfold ϧi;show Ó ĝk;exact Ù _ _ Ąk _ _ s;refine Ó õk),(by rw[Ć,show n+űj=n+1+þ by omega]),(by intro d s σ H Q I h),(by split at d),(by rw[Ŵ];show ŭ ϻa.1 Ĉb),(by let{k,c,a}:=zK a;cases a),(by by_cases hb:b=a;subst hb),(by unfold t9;generalize zN Y=YY at b a ⊢;simp only[Ø,b,a]),(by rw[show n+1+i+1=n+í+1 by omega]),(by rintro i m σ H ⟨rfl,hle,τ,G,K,a⟩;by_cases hlt:i<ëa),(by let{d,rfl}:=ŋa d0;let{s,rfl}:=ŋa s0;let b:d<8:=by omega),(by let{Z,E,e1,o1,i,T}:=Ăe r b;let{v1,L1,Y,X,j,S}:=îj o1 ee),(by cases e;rw[d]at a;cases a;rw[l]at b;cases b;show ϥc r c),(by rw[íq];show{{t,p,λE a q=>?_}}),(by rw[ì,ã,Įa];omega),(by rw[Éa];show ų),(by rintro g f v ⟨b,c,e,q,r,l⟩;show{b,c,e,?_,òb f r,l}),(by omega;rintro⟨q,c⟩ g ⟨r,e,f⟩;cases e;show ü Ϛp),(by let{v,r,rfl,b,a}:=h),(by rw[show(òa).N.length=ò+Ùb from e9 X own]at q;show q),(by let{a,z}:=u.jC b g q;show{a,by rw[yH (p7 z d)];show z}),(by let w:ϰ=Ϗb:=by let:=Īb;rw[ã]at this;rw[ĭ];rw[Ôq]),(by intro c s σ H x y v u Q I a b h;let{rfl,q}:=h;cases b),(by show Ó (m:=İc Àc 2) Ϝk;show Ó (m:=İc Àc 3) ϫk),(by let{x,g,f,k,d}:=e;let{c,rfl,d}:=d;cases k;show Ϧd ?_),(by let:(όa).testBit 0=ϲl:=ñc ..;simp only[Ĕf]at this),(by intro a ϛ o R m K V x y g;let d:=v m;let f:=lV P ϊp),(by let q:=(ĵd).Ue;rw[Œh]at q;rw[<-q,<-l];show h _ Çc),(by cases(show _=[]from r)),(by cases(show _=[]from h)),(by cases f;let n:(g++h).length<=å:=by rw[Ů,ì];show c),(by show{{o,e,d.1},λa e2=>?_};cases e2;show{o,e,d.2.1}),(by show .inr z),(by let{a,i,rfl,d,b,_}:=r1;let{l,m,e,c,f,_}:=r2;cases e),(by exact Ù _ _ ϟk _ _ s;rw[Ñ (show ¬ Ŏm from Ħ)]),(by by_cases c:k'=k;rw[Ï c,Ï c]),(by let{t,h,q}:=c b A ċ s H vs Q E n d;show{t,h.qk,q}),(by by_cases z:n=0;let a:decide Ŵf=Ã:=ú Ê;rw[Ï z]),(by simpa using e),(by rw[ė,ė];by_cases c:i<(Õ).length;rw[qI c,æc c]),(by rw[show n+í=n+1+i by omega]),(by let{a,b,c}:=ŉa i q z),(by intro X J F y O i N s σ H E I l st A;subst J F y),(by intro X J F A O i N s σ H E I m st B;subst J F A),(by cases(Ϣ ţj);exact Ù _ _ Ĕk _ _ s;rw[ģ,ģ,ģ]),(by cases a;show q _ _ _ ϥb rfl),(by exact(match pp 1 (w:Æ)with|Ã=>À Áf|Ä=>Å)=_),(by exact À îi=_;rw[show że=decide (i=j)from rfl]),(by simp only[Ø,a,b]),(by let p:=Ąa hd;let m:=Ąa hs),(by dsimp only at e),(by constructor),(by show q _ _ _ þa rfl),(by let{_,_,_,_,o,_,_,e,d,_}:=ĝ p _ b;show{o,e,d}),(by let B:(Öp).length<=å:=by let:=N1 f k v;omega),(by let{i,l,g,m,f}:=b;show j d k σ l i n Q g m f),(by let:Ðd x=À .free:=a;rw[k]at this;cases this),(by let:b=Ý:=by simpa using z),(by cases(show v=_ from r);rfl),(by let{u,rfl,v}:=qL r;cases(show u=ę a from v)),(by let{u,rfl,n}:=qL r;cases(show u=ę a from n)),(by let:=z11 h b;unfold Zq at this;rw[Đ]at this),(by let e:x[b+i]?=À x[b+i]:=getElem?_pos _ _ Ê),(by intro e s σ H x y v u Q I d a h;let{c,q}:=h),(by by_cases z:q<i;rw[Ï z,Ï Ê];rw[Ñ z,Ñ Ê]),(by let f:=Ĥ ϐf;rw[Ϯh ço Ôl];show ě _ ϐf),(by let e:vW i=ŧn+1:=by exact Ŗk=_;rw[Ñ ſb]),(by exact(ϲc).bind _=_),(by cases Ľ h;omega),(by by_cases c:i=m;rw[Ï c,c]),(by rintro x _ J ⟨l,o,rfl,t,p,u,C⟩;rw[Ûq]),(by let y:i<(Ĉ).length:=by cases a;assumption),(by by_cases c:L q),(by rw[ã,j];exact _<=å;rw[Ů];omega;rw[Ĕh]),(by rw[Ï c,ăa Őn];rfl;rw[Ñ c,óa Ϙl];rfl),(by rw[uw Ê]at this;rw[Ôq]),(by let{a,t,rfl,f,b,C}:=r1;rw[Ñq];show üh _),(by let{G,ru,pu}:=I.Uj hx;let{J,t,Z}:=I.Uj hy),(by split at z),(by split at f;rw[Ĕq]),(by show{_,rfl,?_,rfl}),(by rw[Ėq];show{_,rfl,λq=>{x,y,k,b,e,c,q}}),(by show .inl z;show .inr ċo;show .inr ſa),(by split at b),(by simpa using h),(by show Ó ?_;simp only[Ůh,Øn,ϔh,ĥn]),(by rw[Úa]at this;rw[Ôq]),(by rintro _ ⟨l,_,_,z⟩),(by let{tv,R,kv}:=Ãd;let{to,po,ko}:=ho.h),(by let{t,rfl}:=d),(by cases a;show{_,λ_=>rfl,λq=>{_,r,q}}),(by by_cases z:b=a;subst z),(by by_cases c:i=0;subst c),(by rw[ìq];rename_i c;show{c,h};cases h),(by rintro _ _ ⟨rfl,y,q,g,rfl,d,a,u⟩),(by rintro _ _ ⟨rfl,l,o,rfl,t,p,u,C⟩),(by refine{by omega,λ⟨q,h,i,j⟩=>?_}),(by let{B,E}:=hv d hd;let{K,y1}:=hv s hs),(by let:x≠n:=by rintro rfl;show h v ÿ),(by exact Ù _ _ êl _ _ _;refine Ó ád),(by unfold zN),(by unfold uf;rw[h,a];show{?_,by rw[b]}),(by show .inl {(Ça).mpr ſa,w};rw[ıq]),(by rw[Ėq];show{_,rfl,λq=>iX b e c q}),(by let j:d<ĉa:=ĥg.1;rw[iR];unfold MI),(by by_cases e:p.1=k;let a:q.1=k:=Áo e),(by simp only[Ø,e1]),(by rw[Ûq];rw[Ï c];show ü q;rw[õq]),(by let{j,o,e}:=Ϻ h;let:j=i:=by omega),(by let h:uO ŧ=À (Ã,.lst Õ):=Yv Ų),(by unfold vn;by_cases c:i∈xL Č zG),(by show{rfl,{λh=>(ģg).elim,nofun}}),(by rw[ã]at b;rw[óc,<-j,œb];show b),(by rw[t.ne b hb];show h),(by let{z,n,c}:=zK c;let{k,m,c}:=zK c),(by let:c=b:=by simpa using ķ Ëo d1),(by let e:=ϯ;simp only[ļ]at e;omega),(by intro l s σ H Q I h;show Üd ĉn),(by intro j s σ H Q I h),(by by_cases e2:i=j;rw[e2];show Ϭa _),(by by_cases c:m<(Õ).length/\m ∉ F),(by obtain⟨⟨j,m'⟩,k,c⟩:=zK c),(by let{us,J,pu,_}:=ϙ A;let pl:=Ċp),(by let e:kL Ϙf 0 őc=.p 0 őc:=rfl),(by by_cases hx:x∈cs;rw[Ï hx]at b),(by by_cases h:p.1=a;rw[Ï Úp,Ï h]),(by subst i;let{z,d,r,c,j}:=kN ĝ e),(by split at e),(by simp at h1 h2;subst h1;subst h2),(by show Ó ûa),(by show .inl z;rintro(z|z);rw[ıq]),(by rw[Ź,Đ]at a),(by rw[Éa];show Ŵ),(by rw[this]at g;show Þ (Ĥ g) Đa),(by rw[e]at h;let a:y=n:=by rw[ķq]),(by rintro(⟨z,w⟩|z)),(by obtain⟨⟨o,d⟩,f,a⟩:=zK a),(by let{y,B,d,r,q}:=b;show{d.wX,?_}),(by let{w,e,p}:=o.h;let{t,l,f}:=i.h),(by let{s,e,m}:=l.h;let{p,i,f}:=g.h),(by exact(Ĭc).bind _=_)],[(zC ἀ zE),(.lst ἀ),(zD ἀ zP),(.int ἀ),(zb (v_ ἀ)),(zb (yr ἀ)),(Α (eC ἀ)),(ἀ%65536),(zW xZ xX ἀ zI),(λC s H c b=>ἀ),(λC s H d c=>ἀ),(į ἀ a),(σ.set i ἀ),(.nx (À ἀ::yB)),(zX ŝ zV ἀ ἁ),0,(wP (zC ἀ ἁ)),0,0,(zC ć ἀ),(yK ċb xW ἀ ἁ Áa),(wx ἀ ϓd),(zc (Z7 ϟa rfl ἀ ἁ ἂ) (zb ἃ)),(ze H p ἀ),(À ἀ::yB),0,0,0,0,0,0,0,0,0,(Yz ἀ rfl),(qH ἀ Yu),(uP t8 tD rfl wH uo (vy ἀ uC)),(yq (i:=2) (show (ἀ).Nodup by decide +kernel) rfl á),(λr st=>∃g,st=yR a0 p0 f0 g/\g8 ἀ ἁ r),(PyProof.Rows.wpS_modify ἀ),(.bl (decide ἀ)),0,0,0,(.bl (!decide ἀ)),(vR (X_ Äq Ŵb ἀ)),(xH (Υ ἀ ἁ) (Ζ ἂ) xm),0,0,(u7 (Λ ἀ) rfl),0,0,(xt ἀ λc=>?_),0,(ó (Ó ἀ)),(zb (yr ἀ)),(g9 (tE ἀ)),(zb (Z6 ἀ ἁ)),(zD Ġ ἀ),(yK (pf ἀ) pY (zM ἁ) (zM ἂ) (by with_unfolding_all rfl)),((u q).mpr (.inr ἀ)),(pq λi j=>.int ἀ),(Γ (yO (uD rfl ἀ ἁ ἂ Òd ἃ))),(zc (xH ἀ ἁ xm) (zb ἂ)),(tE (e2 xV Ńb ἀ)),(zc (xH ἀ ἁ xm) (zc ἂ ἃ)),(al (al ἀ p) m),(Υa (Ξa ἀ)),(zM (yO ἀ)),(X4 (tJ ἀ)),(yq (i:=1) (show (ἀ).Nodup by decide +kernel) rfl á),(PyProof.Rows.wpS_lift (PySem.wpAny_rule {rfl,î ἀ})),0,(Yt (n:=2) rfl (qH ἀ ἁ)),0,0,(if ἀ=Ã then _ else _),(u7 (Κ ἀ) rfl),(Ó (PySem.wpAny_onRaise ἀ)),(À (Ã,.lst ἀ)),(Tp (Vs ἀ) (vR ἁ) Tr),(Γa Ďa Âq ἀ),0,0,0,0,0,0,0,0,0,(xv (λ_=>À ἀ)),(β.set i ἀ),(Θe Žg ἀ),(Κ (Zz ἀ)),(Λ (Zz ἀ)),(vo (yO ἀ)),(vR (gX ἀ)),0,0,0,(Y4 (tE ἀ)),(ϙd ἀ ?_),(zC ą ἀ),0,0,(backTo pos ἀ),0,0,(yG qZ b rfl (zD ğ (Γ ἀ))),0,(e2 vC ą (eC ἀ)),(zf vh (zC ą ἀ)),(rI ἀ λi j=>.int ἁ),(Vp 0 [.at [Ŀ] âb] (eC ἀ) (we ἁ)),(λc=>ü {g,rfl,gm.fin ἀ}),(pq λi j=>.bl (decide ἀ)),(λc=>ü (h _ _ ἀ)),(yP (zd (zd ἀ)) Ò),(Br rfl rfl Y6 IE ἀ),(D.lst ((ἀ).map Ě)),(λq=>ἀ\/L2 q),(tE (e2 zh ą ἀ)),(tE (e2 xV ĺ ἀ)),(QU ἀ ἁ {l} ?_ ?_ ?_),(zc (xH ἀ ἁ xm) (Ζ ἂ)),(OA Ďa Æq z_ ἀ),(yO (wT ἀ Ãq)),(zb (L4 ŀe zI ἀ)),0,(Ψ (Β ἀ)),0,0,(ψa (Α ἀ)),(Ζ (Φ ἀ)),(Z5 rfl uV ἀ),(zb (xH ἀ ἁ xm)),(εa (jh ἀ)),(xH ἀ L0 xm),0,0,0,0,0,0,0,0,0,(yq (i:=3) (show (ἀ).Nodup by decide +kernel) rfl á),(yb (wP (zC ĺ ἀ))),(swapsWith v (À ἀ) pos.line Û=pure Ä),(tV ċb xW ἀ Ġa Ħa),(.Call ἀ [e] [] pos),(e2 zJ (e1 ἀ ą) Ϣd),(gX (Vq Vf b rfl (kY ϩ ἀ))),0,0,0,(.Call ἀ [e] [] cpos),(NO G H ἀ y u v d Q s f e Åq q),(λc=>ü {g,rfl,gj.fin ἀ}),0,0,(xj (by rw[B];show Ϟ ἀ)),0,0,(.nx (Ν (Χa ἀ))),0,(setField ćc 0 ἀ >>= _),(qb (gR V3 (jf 0 [] ἀ))),(IC (Κ (Ρa ἀ ἁ)) rfl rfl),(Φ (zD z_ (Γ ἀ))),(λC s H fp pn=>GC ἀ),(yK Ād gZ ἀ ϩk Áa),(δb (zC ř ἀ)),(λC s H fp pn=>(ἀ).h),(pV λi j=>decide ἀ),(rU λi=>.int ἀ),(Κe èj Èq ἀ),(eL YX (Α ἀ)),(ἀ%4294967296),(ς (ζ ἀ)),(Ϧe (î ἀ)),(w_lt rfl ἀ ἁ ?_),(.BoolOp .And ἀ pos),(.BoolOp .Or ἀ pos),0,(zb (yT (i:=1) Oo.nd rfl á (zW Z0 qc Ġ ἀ))),0,0,(λxs H Q=>(∃p ys,xs=[.ref p]/\ἀ/\Q ἁ H)\/∃z,xs=[.str z]/\Ņ<=å/\Q (.int Ņ) H),(Bf I Ê ἀ b l h λd1 d2 x y u v j e k i g=>Mc I n A.in1 d1 d2 x y u v ἁ j e k i g),(tV ċb xW (zM (yG jK b rfl ἀ)) ύa Áa),(zm 1 (e2 (vX ϣa) ć (e2 uA ń ἀ))),(λx y H Q=>y=.zO/\Q ἀ H),(ς (yq (i:=9) (show (ἀ).Nodup by decide +kernel) rfl á)),0,0,0,0,0,0,0,0,0,(ς (yq (i:=5) (show (ἀ).Nodup by decide +kernel) rfl á)),(ς (yq (i:=4) (show (ἀ).Nodup by decide +kernel) rfl á)),(λx y H Q=>∃i j,x=.str i/\y=.str j/\Q (.bl ἀ) H),(pU (tE (e2 zh ć ı)) Ϸa (e2 zh (zf vL ἀ) ń)),(Ϣa (łb slot_list_sort {_,k,rfl} entry_list_sort ἀ ἁ)),((ἀ).filter λd=>!zl d),(.Call ἀ [a] [] pos),0,0,0,(Α (Ιe (e2 xE ἀ ἁ) (zC ἂ zE))),(.done (À ἀ,i,m,ϐ q++(ἁ).reverse,g,k,j-1-m)),(λd=>match d with|.int j=>.int ἀ|d=>d),0,0,(ο Ża Ġa (yG Mn b rfl (zD Ġ ἀ))),0,0,(jN (i:=1) WC.nd rfl á Ò (vo ἀ)),0,(sU rfl rfl XA rfl LB (Γ (yO ἀ))),(υ (λc=>ü {_,rfl,WM.fin ἀ})),(υ (λc=>ü {_,rfl,WK.fin ἀ})),(.done (À ἀ,i,j-1,ϐ q,g,k,u)),(yG jK b rfl (zD Ĺ (zD zI ἀ))),(.done (À ἀ,o++őb i ἁ,i+k,j,g,k,u)),(zX ϩh zV Ĺ (zW xZ xX ἀ zI)),(Q w H->rU (λi=>.int ἀ) u H Q),(λc=>ü (both λp j q f=>Çb ἀ ἁ)),(zC (eC âi) (zC (eC ãi) (zC ἀ ἁ))),(tE (e2 zh (e2 zJ ἀ ı) Đe)),(λxs H Q=>∃p ys,xs=ķd/\ἀ),(Zx (Υ þc ύa) jT (Φc ἀ)),(.nx [À ἀ,À Če,À Ñe,À ἁ,À ἂ]),(Ëc β i π (.obj x Ċe ἀ)),(ψ (sJ eM nA rfl UO GF ἀ)),(λq z=>yH λc=>z ((ἀ).mpr c)),(if (ἀ).length<yX then À ἁ else Å),0,(λc=>ü {_,rfl,gj.fin ἀ}),0,0,(by rw[Ţ,<-Ţ ἀ,ϡa,ex]),((ἀ).filter λp=>decide Āl),(xH (Ωa ἀ) (Ρc Ël) xm),((ἀ).all λw=>(ἁ).all λd=>(ἂ).all λs=>Zq ík),((ἀ).all λw=>(ἁ).all λd=>(ἂ).all λs=>f ík),(Ëc r.2 i π (.own ἀ)),0,0,0,0,0,0,0,0,0,(λq z=>.inl ((ἀ).mpr z)),(tV ϫh xW (zM ἀ) (zM ἁ) Ħa),(ms.map À++Ő ἀ Å),(R O h' es' c t' J g ἀ f b ἁ),(e2 zJ Ĕ (e2 xE ἀ Êq)),(IC (Λ (Ρa ἀ ἁ)) rfl rfl),(zW wS wR ğ (yO ἀ)),0,0,0,(yK Ād gZ ἀ ύa Ħa),(qJ 3 tS (Ρ Đe ἀ)),(Δc (νc řj ἀ Éq)),0,0,(î (uU e (î ἀ))),0,0,(zM (yG Mp a rfl ἀ)),0,(yb (eL IT (Α ἀ))),(λv:Æ=>decide ἀ),(zy ἀ λr s4 a=>?_),(zD Ŵb (zD Ûc ἀ)),(zC Ŵi (zC ϱn ἀ)),(zC Ęb (zC Ϣe ἀ)),(al (al ἀ ϝf) Çq),(.nx ((ἀ).set j éc)),(.Expr (νb ἀ) pos),(zC üf (zC Čh ἀ)),(Zm 0 [.at [Ŀ] "words"] ἀ ἁ),(e2 zJ (xv (zC ἀ ἁ)) (e2 xE (χa ϙb) Ϡa)),((uq (vq e)).trans ((uq ἀ).trans ((ἁ).trans ἂ)))],[(by first|(with_reducible first|exact Nat.le_of_not_lt ‹_›|exact Nat.lt_of_lt_of_le ‹_› (Nat.min_le_right _ _)|exact Nat.lt_of_lt_of_le ‹_› (Nat.min_le_left _ _)|exact Nat.le_trans (Nat.sub_le _ _) ‹_›|exact Nat.add_sub_cancel' ‹_›|exact (Int.toNat_lt ‹_›).mpr ‹_›|exact Nat.lt_of_sub_pos ‹_›|exact Nat.le_of_sub_eq_zero ‹_›)|((with_reducible refine Int.emod_nonneg _ ?_)<;>decide)|((with_reducible refine Int.emod_lt_of_pos _ ?_)<;>decide)|((with_reducible refine Int.lt_of_lt_of_le (Int.emod_lt_of_pos _ ?_) ?_)<;>decide)|lia|omega+splitNatSub),(by first|subst ἀ|(injection ἀ;done)|(injection ἀ with q k l m;cases q<;>cases k<;>cases l<;>cases m)|(injection ἀ with q k l;cases q<;>cases k<;>cases l)|(injection ἀ with q k;cases q<;>cases k)|(injection ἀ with q;cases q)|cases ((ἀ))),(by first|(have q:=ἀ;first|subst q|(injection q;done)|(injection q with q k l m;cases q<;>cases k<;>cases l<;>cases m)|(injection q with q k l;cases q<;>cases k<;>cases l)|(injection q with q k;cases q<;>cases k)|(injection q with q;cases q))|cases ((ἀ))),(by first|subst ἀ|(injection ἀ;done)|(injection ἀ with q k l m;(first|subst q|cases ((q)))<;>(first|subst k|cases ((k)))<;>(first|subst l|cases ((l)))<;>(first|subst m|cases ((m))))|(injection ἀ with q k l;(first|subst q|cases ((q)))<;>(first|subst k|cases ((k)))<;>(first|subst l|cases ((l))))|(injection ἀ with q k;(first|subst q|cases ((q)))<;>(first|subst k|cases ((k))))|(injection ἀ with q;(first|subst q|cases ((q))))|cases ((ἀ)))])
def q0 (h0:0=0:=by first|show .inl rfl|show .inr rfl|assumption)(h1:0=0:=by decide)(h2:0=0:=by intro _;rfl)(h3:0=0:=by rfl)(h4:0=0:=by first|show Or.inl rfl|show Ňg á|show Ňg ća)(h5:0=0:=by first|show Źa|show⟨rfl,Źa⟩|show⟨rfl,rfl,Źa⟩|show⟨rfl,rfl,rfl,Źa⟩|show⟨rfl,rfl,rfl,rfl,Źa⟩)(h6:0=0:=by intros;show λ_ _ _ _ _ _=>rfl):Ųb:=⟨⟩
def q7:=q0._auto_1
def q10:=q0._auto_2
def q11:=q0._auto_3
def q12:=q0._auto_4
def q13:=q0._auto_5
def q14:=q0._auto_6
def q15:=q0._auto_7
noncomputable section
namespace L2
open Ł Ş Ŋ
abbrev zY:=Sum Æ Ç
nonrec def qE:zY->Value->Ð
 |.inl k,v=>Ĩo k v|.inr x,v=>ŭn x v
nonrec def y11(w:æ):zY->Æ
 |.inl k=>hashInt k|.inr x=>hashStr w x
def jw:∀{k:zY}{v:Value},qE k v=Ã->(∃i t,k=Į i/\v=ϣb i t)\/(∃x t,k=Æc x/\v=şb x t)
 |.inl i,v,h=>by let{t,e}:=ŗm (k:=i) (v:=v) h;show .inl {i,t,rfl,e}
 |.inr x,v,h=>by let{t,e}:=Value.isStrOf_shape (x:=x) (v:=v) h;show .inr {x,t,rfl,e}
def y12(i:Æ)(t:Tok):qE ĺj ϛf=Ã:=by simp[qE,Ĩo]
theorem y13(x:Ç)(t:Tok):qE ăg êp=Ã:=by simp[qE,ŭn]
theorem y14(a b:Æ):decide ((Į a:zY)=Į b)=Že:=by
 by_cases e:a=b;subst e;simp;let h:¬ (Į a:zY)=Į b:=λq=>e (õc q)
 rw[Ē h];show(Òb e).symm
def y19(a b:Ç):decide ((Æc a:zY)=Æc b)=decide (a=b):=by
 by_cases e:a=b;subst e;simp;let h:¬ (Æc a:zY)=Æc b:=λq=>e (Łi q)
 rw[Ē h,Ē e]
theorem y15(a:Æ)(b:Ç):decide ((Į a:zY)=Æc b)=Ä:=Ē ϲm
def y18(a:Ç)(b:Æ):decide ((Æc a:zY)=Į b)=Ä:=Ē ϲm
def xi(ă:ï)(w:æ):PySem.KeyKind ă w zY where
 is:=qE
 hash:=y11 w
 inj:=λv a b g d=>by
  rcases jw g with⟨i,t,rfl,rfl⟩|⟨x,t,rfl,rfl⟩;rcases jw d with⟨j,u,rfl,e⟩|⟨y,u,rfl,e⟩;injection e with e1 _;rw[e1];show nomatch e
  rcases jw d with⟨j,u,rfl,e⟩|⟨y,u,rfl,e⟩;show nomatch e
  injection e with e1 _;rw[e1]
 byValue:=λk v h=>by rcases jw h with⟨i,t,rfl,rfl⟩|⟨x,t,rfl,rfl⟩<;>rfl
 pyHash:=λc h=>by rcases jw c with⟨i,t,rfl,rfl⟩|⟨x,t,rfl,rfl⟩;show wpAny_pyHash_int h;show wpAny_pyHash_str h
 eqBool:=λf c h=>by rcases jw f with⟨i,t,rfl,rfl⟩|⟨x,t,rfl,rfl⟩;rcases jw c with⟨j,u,rfl,rfl⟩|⟨y,u,rfl,rfl⟩;rw[y14]at h;show wpAny_eqBool_int h;rw[y15]at h;show Ĝm i t y u _ _ _ _ h;rcases jw c with⟨j,u,rfl,rfl⟩|⟨y,u,rfl,rfl⟩;rw[y18]at h;show Ěm x t j u _ _ _ _ h;rw[y19]at h;show wpAny_eqBool_str h
 «strs»:=λk x t v h=>by
  rcases jw h with⟨i,u,rfl,e⟩|⟨y,u,rfl,e⟩;show nomatch e
  injection e with e1 _
  subst e1;cases v<;>rfl
def y33(ă:ï)(w:æ)(i:Æ)(t:Tok):(ùa).is ĺj ϛf=Ã:=y12 i t
def NA(ă:ï)(w:æ)(x:Ç)(t:Tok):(ùa).is ăg êp=Ã:=y13 x t
set_option genInjectivity true
inductive V where
 |zO|bl (b:Ð)|int (i:Æ)|str (x:Ç)|byt (b:Ú UInt8)|Wm (b:UInt64)|ref (a:Ë)|ty (n:îa)
 deriving řb
set_option genInjectivity false
def yC:V->Value->È
 |.zO,u=>u=ϫa|.bl b,u=>u=żf b|.int i,u=>∃t,u=ϣb i t|.str x,u=>∃t,u=şb x t|.byt b,u=>∃t,u=ĩo b t|.Wm b,u=>∃t,u=ŀi b t|.ref a,u=>u=ę a|.ty n,u=>u=ϟb n
abbrev zo:Á V->Á Value->È:=űd yC
theorem zo.length{xs:Á V}{us:Á Value}(r:zo xs us):ë=éa:=Üi r
theorem zo.get:∀{xs:Á V}{us:Á Value}{i:Â}{x:V},zo xs us->xs[i]?=À x->∃u,us[i]?=À u/\yC x u
 |_,_,_,_,.nil,e=>by simp at e|_,_,0,_,.cons r _,e=>by simp at e;subst e;show{_,rfl,r}|_,_,i+1,x,.cons _ t,e=>by let{u,b,a}:=zo.get (i:=i) (x:=x) t ōa;show{u,by simpa using b,a}
theorem zo.set{x:V}{u:Value}(r:yC x u):∀{xs:Á V}{us:Á Value}(i:Â),zo xs us->zo Ŗf (us.set i u)
 |_,_,_,.nil=>.nil|_,_,0,.cons _ t=>.cons r t|_,_,i+1,.cons q t=>.cons q (zo.set r i t)
theorem Ϣf:∀{xs ys:Á V}{us ws:Á Value},zo xs us->zo ys ws->zo Ϟf (us++ws)
 |_,_,_,_,.nil,s=>s|_,_,_,_,.cons r t,s=>.cons r (Ϣf t s)
theorem zo.take:∀{xs:Á V}{us:Á Value}(n:Â),zo xs us->zo (xs.take n) (us.take n)
 |_,_,0,_=>.nil|_,_,_+1,.nil=>.nil|_,_,n+1,.cons r t=>.cons r (zo.take n t)
theorem zo.drop:∀{xs:Á V}{us:Á Value}(n:Â),zo xs us->zo (xs.drop n) (us.drop n)
 |_,_,0,r=>r|_,_,_+1,.nil=>.nil|_,_,n+1,.cons _ t=>zo.drop n t
def tz:É V->É Value->È
 |À v,À u=>yC v u|Å,Å=>Ųb|_,_=>Ā
def KV{κ:Type}:Á Àb->Á ģd->È:=űd λ(p:κ×V) (q:κ×Value)=>p.1=q.1/\yC p.2 q.2
nonrec def kV:zY->V
 |.inl i=>.int i|.inr x=>.str x
inductive HO where
  |lst (xs:Á V)
  |tup (xs:Á V)
  |dK (kvs:Á Æa)|dT (kvs:Á Śb)
  |set (S:Æ->Ð) (n:Â)
  |ins (C dx:Ë) (fs:Á Ťb)
  |own (x:Ë)
  |xd (fs:Á Ťb)
  |met (f x:Ë)
  |rng (lo hi:Æ)
  |yj (o:Obj) (u:HO)
  |tbl (ps:Ú Value)
  |ext (φ:Heap->È)
abbrev Hp:=Ë->É HO
nonrec def ze(H:Hp)(a:Ë)(o:HO):Hp:=λb=>if b=a then À o else H b
def yt{H:Hp}{a:Ë}{o:HO}:ze H a o a=À o:=by unfold ze;rw[Ï rfl]
theorem yH{H:Hp}{a b:Ë}{o:HO}(h:b≠a):ze H a o b=H b:=by unfold ze;rw[Ñ h]
theorem y3m{H:Hp}{a b:Ë}{o u:HO}(h:H a=À o)(h':H b=À u)(d:o≠u):a≠b:=by intro e;subst e;rw[h]at h';show d (Ϣ h')
def p7{H:Hp}{a b:Ë}{o:HO}(h:H a=À o)(h':H b=Å):a≠b:=by intro e;subst e;rw[h]at h';cases h'
section
variable(P:ï)(w:æ)
def xo(H:Hp)(h:Heap)(a:Ë):HO->È
 |.lst xs=>ë<=å/\∃(its:Á Value) (n:Â),zo xs its/\Ģ a=À { cls:=.type Ī,Ċ:=.seq Ϥ n }|.tup xs=>ë<=å/\∃its:Á Value,zo xs its/\Ķb h a Ϥ|.dK kvs=>ŋ<=å/\ĵa=Ä/\∃vs,KV kvs vs/\Ķe êb a vs|.dT kvs=>ŋ<=å/\ĵa=Ä/\∃xs:Á Ņc,
   űd (λ(p:Á zY×V) (q:Á zY×Ë×Value)=>p.1=q.1/\H q.2.1=À Ďm/\yC p.2 q.2.2) kvs xs/\
   ∃o es ep,Ģ a=À o/\ğo/\ϵ=.dict es ep/\Ϣb=ģc (entryOfKey Ýe)/\(ģc (·.1)).Nodup
 |.set S n=>h.SetOf (intKind P w) a S n|.ins C dx fs=>H dx=À Ōe/\ŕa<=1000/\dx≠a/\Ģ a=À ϱo/\
   ∃mA,Ţg dx mA/\(∀f,tz ťj Îk)/\či mA (Ϣc (·.1))
 |.own _=>∃o,Ģ a=À o|.xd fs=>∃mA,Ţg a mA/\∀f,tz ťj Îk|.rng lo hi=>∃t u v,Ģ a=À { cls:=.type Ţa,Ċ:=.fields #[.int lo t,.int hi u,.int 1 v] }|.yj o u=>Ģ a=À o/\xo H h a u|.tbl ps=>Ģ a=À { cls:=.none,Ċ:=.fields ps }|.met f x=>Ģ a=À (W.methodObj ī ŉd)|.ext φ=>φ h/\(∃o,Ģ a=À o)/\∀h1 h2:Heap,φ h1->(∀o,Őj a=À o->h2.get? a=À o)->φ h2
def wY(H:Hp)(h:Heap):È:=∀a o,H a=À o->xo P w H h a o
#print a
section
variable{P:ï}{w:æ}{H H':Hp}{h h':Heap}{a:Ë}{o:HO}
theorem xo.lt(x:xo P w H h a o):a<äb:=by
 cases o with
 |lst xs=>let{_,_,_,_,e}:=x;show Ĥ e
 |tup xs=>let{_,_,_,p}:=x;show p.lt
 |dK kvs=>let{_,_,_,_,o,_,_,e,_}:=x;show Ĥ e
 |dT kvs=>let{_,_,_,_,o,_,_,e,_}:=x;show Ĥ e
 |set S n=>let{o,_,_,_,e,_}:=x;show Ĥ e
 |ins C dx fs=>let{_,_,_,e,_}:=x;show Ĥ e
 |own y=>let{_,e}:=x;show Ĥ e
 |xd fs=>let{_,{_,_,_,e,_},_}:=x;show Ĥ e
 |rng lo hi=>let{_,_,_,e}:=x;show Ĥ e
 |yj ob u=>let{e,_}:=x;show Ĥ e
 |tbl ps=>show Ĥ (show Ģ a=À _ from x)|met f y=>show Ĥ (show Ģ a=À _ from x)|ext φ=>let{_,{_,e},_}:=x;show Ĥ e
theorem ϰf{α β:Type}{F G:α->β->È}:∀{l₁:Á α}{l₂:Á β},űd F l₁ l₂->(∀a b,F a b->G a b)->űd G l₁ l₂
 |_,_,.nil,_=>.nil|_,_,.cons r t,f=>.cons (f _ _ r) (ϰf t f)
def xo.XR(x:xo P w H h a o)(k:∀b u,(b=a\/H b=À Ōe)->Ģ b=À u->č b=À u)(B:∀b,H b=À Ōe->H' b=À Ōe)(E:∀b xs,H b=À Śa->H' b=À Śa):xo P w H' h' a o:=by
 induction o with
 |lst xs=>let{z,l,n,r,e}:=x;show{z,l,n,r,k _ _ Ť e}
 |tup xs=>let{z,l,r,g,e,c}:=x;show{z,l,r,g,k _ _ Ť e,c}
 |dK kvs=>let{z,y,A,r,g,i,j,e,c}:=x;show{z,y,A,r,g,i,j,k _ _ Ť e,c}
 |dT kvs=>let{z,y,xs,r,g,i,j,e,c}:=x;show{z,y,xs,ϰf r λp q z=>{z.1,E _ _ z.2.1,z.2.2},g,i,j,k _ _ Ť e,c}
 |set S n=>let{g,i,j,t,e,c}:=x;show{g,i,j,t,k _ _ Ť e,c}
 |ins C dx fs=>let{d,z,F,e,m,{s,i,j,e2,c},r}:=x;show{B _ d,z,F,k _ _ Ť e,m,{s,i,j,k _ _ (.inr d) e2,c},r}
 |own y=>let{g,e}:=x;show{g,k _ _ Ť e}
 |xd fs=>let{m,{s,i,j,e,c},r}:=x;show{m,{s,i,j,k _ _ Ť e,c},r}
 |rng lo hi=>let{t,u,v,e}:=x;show{t,u,v,k _ _ Ť e}
 |yj g u ih=>let{e,q}:=x;show{k _ _ Ť e,ih q}
 |tbl ps=>have e:Ģ a=À { cls:=.none,Ċ:=.fields ps }:=x;exact č a=À { cls:=.none,Ċ:=.fields ps };show k a _ Ť e|met f y=>have e:Ģ a=À Čl:=x;exact č a=À Čl;show k a _ Ť e|ext φ=>let{p,{o,e},st}:=x;show{st _ _ p λo q=>k _ _ Ť q,{o,k _ _ Ť e},st}
theorem wY.lt(x:wY P w H h)(e:H a=À o):a<äb:=(όp).lt
def wY.fresh(x:wY P w H h)(e:äb<=a):H a=Å:=by
 cases q:H a with
 |Å=>rfl|À u=>show Þ (ŭ (x.lt q) e) Đa
def wY.kept(x:wY P w H h)(k:∀b u,Ģ b=À u->č b=À u):wY P w H h':=λa o e=>
 (όp).XR (λb u _ q=>k b u q) όf λ_ _ q=>q
def wY.laid(x:wY P w H h)(k:∀b u,Ģ b=À u->č b=À u)(g:äb<=a)(d:xo P w đe h' a o):wY P w đe h':=λb u e=>by let f:=x.fresh g;rw[ėq];rw[yt]at e;cases e;show d;rw[yH hb]at e;show(Ój).XR (λc v _ q=>k c v q) (λc q=>by rw[yH (p7 q f)];show q) λc i q=>by rw[yH (p7 q f)];show q
#print a
def Rd(H:Hp)(a:Ë)(u:HO):È:=H a=À u\/∃o,H a=À ĩe
def Rd.ok{P:ï}{w:æ}{H:Hp}{h:Heap}{a:Ë}{u:HO}(r:Rd H a u)(x:wY P w H h):xo P w H h a u:=by rcases r with r|⟨o,r⟩;show x a u r;let{_,q}:=x a _ r;show q
def Ji:É HO->È
 |À (.lst _)=>Ųb|À (.dK _)=>Ųb|À (.dT _)=>Ųb|À (.set _ _)=>Ųb|À (.ins _ _ _)=>Ųb|À (.ext _)=>Ųb|_=>Ā
section
variable{P:ï}{w:æ}{H:Hp}{h h':Heap}{x e:Ë}{o':HO}
def wY.write(ok:wY P w H h)(f:Ji (H x))(n:e=x\/H e=À ŋd)(k:∀b u,b≠e->Ģ b=À u->č b=À u)(j:∃u,č e=À u)(l:xo P w šo h' x o'):wY P w šo h':=λb u q=>by
 let a:∀c y,H c=À (.own y)->c≠x:=λc y r z=>by subst z;rw[r]at f;show f
 let d:∀c i,H c=À (.tup i)->c≠x:=λc i r z=>by subst z;rw[r]at f;show f
 by_cases hb:b=x;subst hb;rw[yt]at q;cases q;show l;rw[yH hb]at q;by_cases hbe:b=e;let m:H b=À ŋd:=by rcases n with z|z;show Þ (hbe.trans z) hb;rw[hbe];show z
 rw[q]at m;cases m;let{v,o}:=j;show{v,by rw[hbe];show o};show(ok b u q).XR (λc v g r=>k c v ?_ r) (λc r=>by rw[yH (a c b r)];show r) λc i r=>by rw[yH (d c i r)];show r
 rcases g with rfl|g;show hbe;rintro rfl;rcases n with z|z;show a c b g z;rw[g]at z;cases z;show hb rfl
#print a
structure Un(fs ex:Á Ë)(H H':Hp)(h h':Heap):È where
 Ũa:∀b o,Ģ b=À o->H b=Å->b ∉ fs->b ∉ ex->č b=À o
 slot:∀b o,Ģ b=À o->H b=Å->b∈fs->b ∉ ex->∃sl,č b=À { o with źd:=sl }
 free:∀b o,Ģ b=À o->H b=Å->b ∉ ex->H' b=Å
 ŝg:∀b o,Ģ b=À o->b ∉ ex->∃o',č b=À o'
 ql:∀b xs,H b=À Śa->H' b=À Śa
 t5:∀b o u,H b=À ĩe->H' b=À ĩe
 jC:∀b ps,H b=À Īe->∃more,H' b=À ϑm
section
variable{fs ex:Á Ë}{H H1:Hp}{h h1 h':Heap}{a x e:Ë}{o:HO}
def Un.any(u:Un fs ex H H1 h h1){b:Ë}{a:Obj}(q:Ģ b=À a)(n:H b=Å)(c:b ∉ ex):∃sl,Őj b=À { a with źd:=sl }:=by by_cases hb:b∈fs;show ĸg b a q n hb c;show{a.slots,ũe b a q n hb c}
def Ŗe(k:∀b u,Ģ b=À u->č b=À u):Un fs ex H H h h':=
 {λb a q _ _ _=>k b a q,λb a q _ _ _=>{a.slots,k b a q},λ_ _ _ n _=>n,λb a q _=>{a,k b a q},λ_ _ q=>q,λ_ _ _ q=>q,λ_ c q=>{#[],by rw[q];simp}}
def Un.refl:Un fs ex H H h h:=Ŗe λ_ _ q=>q
def Un.laid(k:∀b u,Ģ b=À u->č b=À u)(d:äb<=a)(c:H a=Å):Un fs ex H đe h h' where
 Ũa:=λb u q _ _ _=>k b u q
 slot:=λb u q _ _ _=>{u.slots,k b u q}
 free:=λb u q n _=>by rw[yH (Ϟ (ŭ ġg d))];show n
 ŝg:=λb u q _=>{u,k b u q}
 ql:=λb e q=>by rw[yH ģj];show q
 t5:=λb u e q=>by rw[yH ģj];show q
 jC:=λb f q=>{#[],by rw[yH ģj,q];simp}
def Un.write(a:Ji (H x))(i:e=x\/H e=À ŋd)(k:∀b u,b≠e->Ģ b=À u->č b=À u)(c:∃u,č e=À u):Un fs ex H Żi h h':=by
 let g:∀b,H b=Å->b≠x:=λb n z=>by subst z;rw[n]at a;show a
 let f:∀b,H b=Å->b≠e:=λb n z=>by subst z;rcases i with r|r;show g b n r;rw[n]at r;cases r
 let d:∀b u,H b=À u->¬ Ji (À u)->b≠x:=λb u q nm z=>by subst z;rw[q]at a;show nm a
 refine⟨λb u q n _ _=>k b u (f b n) q,λb u q n _ _=>{u.slots,k b u (f b n) q},λb u q n _=>by rw[yH (g b n)];show n,λb u q _=>?_,
  λb j q=>by rw[yH Žh];show q,λb u j q=>by rw[yH Žh];show q,λb l q=>{#[],by rw[yH Žh,q];simp}⟩
 by_cases hbe:b=e;subst hbe;show c;show{u,k b u hbe q}
#print a
nonrec def DI(h:Heap)(H:Hp):Á Ë:=(Ŭp).filter λa=>(H a).isSome
def Yd(h:Heap)(H:Hp):Heap:=W.hideAll h īj
def y00(h:Heap)(H:Hp):(øg).objs.size=äb:=W.hideAll_size _ _
def z9z{h:Heap}{H:Hp}{b:Ë}{o:Obj}(e:Ģ b=À o)(n:H b=Å):(øg).get? b=À o:=
 W.hideAll_get _ e λa=>by let q:(H b).isSome=Ã:=(Ŏa a).2;rw[n]at q;simp at q
def y56{h:Heap}{H:Hp}{b:Ë}{o:Obj}(e:(øg).get? b=À o):Ģ b=À o/\H b=Å:=by
 let a:Ģ b=À o:=W.of_hideAll īj e;show{a,?_};cases q:H b with
 |Å=>rfl|À x=>have c:b∈DI h H:=éd {Ąa (Ĥ a),by simp[q]};let z:(øg).get? b=Å:=W.hideAll_none īj c;rw[z]at e;cases e
nonrec def z3v(g h:Heap)(L:Ë):Á õ:=(Ŭp).filterMap λa=>if a=L\/(ϧj a).isSome=Ã then Å else(Ģ a).map λo=>(a,o)
def yB(g h:Heap)(L d:Ë):Á õ:=(z3v g h L).filter λp=>decide (p.1≠d)
structure Mod(K:Ô)(mg:Ç->É Value)(Ì:Heap):È where
 XQ:Ž Ì
 glob:Ŕd ġ mg
 blt:∃mb,Ŕd Ūi mb/\∀x:Ç,x ≠ Ši->mb x=ϔ x
 nolimit:base.NoLimit
structure Cx where
 ă:ï
 w:æ
 K:Ô
 mg:Ç->É Value
 Ì:Heap
 A:ù
 N:Á Ç
 s₀:Í
 H₀:Hp
 env:Env
 ċ:Á Env
 stack:Á Env
 ex:Á Ë
 fn:Ç->Ð
 calm:Ð
 pn:Á õ
 xe:Value->Í->È
nonrec def ju(l:Á Env):Á Ë:=l.filterMap (·.frame)
abbrev Cx.fs(X:Cx):Á Ë:=ju ŕd
def kJ(a:ða)(x:Ç):È:=ϐb x=À .local\/ϐb x=À .cell\/ϐb x=À .free
def qR(a:ða)(x:Ç):È:=ϐb x=À .local\/ϐb x=À .cell
def z3i(env:Env)(h:Heap)(m:Ç->É Value)(x:Ç)(u:Value):È:=
 (Ŷc x=À .local/\m x=À u)\/((Ŷc x=À .cell\/Ŷc x=À .free)/\∃c,ũh x=À c/\h.IsCell c (À u))
structure Cx.Ok(X:Cx):È where
 mod:Mod X.K ð ŀ
 kind:Ŭh=.function
 glob:Úi=ġ
 blt:X.env.builtins=Ūi
 above:Þc<=Àa
 inj:∀x y c,İa x=À c->İa y=À c->x=y
 has:∀x,(Śc x=À .cell\/Śc x=À .free)->∃c,İa x=À c
 Uc:∀x c,X.fn x=Ã->İa x=À c->Þc<=c
 hd:ŷ=Ã->X.A.handled=Å
 Ϩj:X.A.frames=À ša
 J9:ša=ŕd\/(ša=Û::ŕd/\X.env.frame=À Àa)
 J4:∀b∈X.ex,b≠Àa/\∀x c,İa x=À c->c≠b
 bs:∀b o,āe b=À o->ūh b=À o/\ûb b=Å
 ZR:X.base.objs.size<=Þc
 Ug:∀b o,āe b=À o->b ∉ X.ex
 Ud:∀b∈X.ex,b ∉ ũa
 ja:űl ŀ ŕd
 XO:∀b∈ũa,ûb b=Å
structure Inv(X:Cx)(z8:Á õ)(σ:Á Ħg)(H:Hp)(s:Í):È where
 ok:X.Ok
 os:s.os=X.s₀.os
 bare:ŗd Ļg
 Ì:Un ũa X.ex ûb H X.s₀.heap â
 loc:∃m,Ĉp Àa m/\∀(i:Â)(x:Ç)(v:V),X.N[i]?=À x->σ[i]?=À Äa->kJ ϻ x->∃u,yC v u/\z3i Û â m x u
 cell:∀x c,İa x=À c->∃v,ťn c v
 free:H Àa=Å
 jB:∀x c,İa x=À c->H c=Å
 pin:∀p∈Õc++z8,ø p.1=À p.2/\H p.1=Å/\p.1≠Àa/\p.1 ∉ ũa/\∀v,p.2.data≠.cell v
 zi:wY ö X.w H â
 len:σ.length=ò
section
variable{X:Cx}{z8:Á õ}{σ:Á Ħg}{H H':Hp}{s:Í}{h':Heap}
def Cx.Ok.z36(ok:X.Ok){b:Ë}{o:Obj}(e:āe b=À o):b ∉ ũa:=λa=>by let:=(ok.ja.mem a).1;rw[e]at this;cases this
theorem Inv.bs(I:Inv X z8 σ H s):∀b o,āe b=À o->ø b=À o/\H b=Å:=λb o e=>
 {ıf b o īf.1 īf.2 (I.ok.z36 e) Čn,ąd b o īf.1 īf.2 Čn}
def Inv.bk(I:Inv X z8 σ H s):∀b o,āe b=À o->ø b=À o:=λb o e=>(I.bs b o e).1
theorem Inv.mod(I:Inv X z8 σ H s):Mod X.K ð ŀ:=ăj
def Inv.wX(I:Inv X z8 σ H s):X.K.In â:=I.ok.mod.XQ.keeps I.bk
theorem Inv.lt(I:Inv X z8 σ H s):Àa<Ý:=let ⟨_,hn,_⟩:=Ĩa;hn.lt
def Inv.sz(I:Inv X z8 σ H s):Þc<=Ý:=ý űi (Ûa I.lt)
def Inv.bf(I:Inv X z8 σ H s){a:Ë}(h:Ý<=a):a ∉ ũa:=λc=>by let{_,o,b,_}:=ĵo c;show Þ (ŭ (Ĥ b) (ý I.sz h)) Đa
def Inv.Wj(I:Inv X z8 σ H s):∀x c,İa x=À c->c≠Àa:=λx c e z=>by let{v,o,f,d}:=ŀa x c e;let{m,{i,g,h,a,b,_},_}:=Ĩa;rw[z,a]at f;cases f;rw[b]at d;cases d
theorem Inv.ja(I:Inv X z8 σ H s):đf ŀ ŕd:=by
 let d:∀(l:Á Env),(∀b∈ju l,b∈ũa)->űl ŀ l->đf ŀ l:=by
  intro l
  induction l with
  |nil=>intro _ _;trivial|ñ env r ih=>
   intro g n;let{k,{L,o,c,j,i,h},m}:=n;let a:L∈ũa:=g L (by unfold ju;rw[Ğh,c];show ÿ);let{p,e}:=Ąe L o i (I.ok.XO L a) a λz=>I.ok.Ud L z a
   show{k,{L,_,c,j,e,h},ih (λb f=>g b (by unfold ju;rw[Ğh,c];show ŏ _ f)) m}
 show d ŕd (λ_ f=>f) I.ok.ja
theorem Inv.stack(I:Inv X z8 σ H s):đf ŀ ša:=by rcases I.ok.J9 with e|⟨e,hf⟩;rw[e];show I.ja;rw[e];let{m,a,_}:=Ĩa;refine .cons (by rw[Ħb];decide) hf a ?_ I.ja;show Heap.get?_none_of_le (ý ēg űi)
def Inv.JA(I:Inv X z8 σ H s):∀b∈ju ša,b∈Àa::ũa:=λb a=>by rcases I.ok.J9 with e|⟨e,hf⟩;rw[e]at a;show ŏ _ a;rw[e]at a;unfold ju at a;rw[Ğh,hf]at a;show a
def Inv.bj(I:Inv X z8 σ H s):∀b∈ju ša,H b=Å:=λb a=>by rcases Ğ (I.JA b a)with e|a;rw[e];show ϗa;let{_,o,c,_}:=ĵo a;show ąd b o c (I.ok.XO b a) λz=>I.ok.Ud b z a
def Inv.step{g':Ú GenState}{t':Â}{d':Drawn}{ch:Á Ë}(I:Inv X z8 σ H s)(h:∀b∈ch,Ăf/\b≠Àa/\(∀x c,İa x=À c->c≠b)/\∀p∈Õc++z8,p.1≠b)(t:∀b o,b≠Àa->b ∉ ũa->b ∉ ch->ø b=À o->H b=Å->č b=À o)(A:∀b o,b≠Àa->b∈ũa->b ∉ ch->ø b=À o->H b=Å->∃sl,č b=À { o with źd:=sl })(f:∀b o,b ∉ ch->ø b=À o->H b=Å->H' b=Å)(B:∀b o,b ∉ ch->ø b=À o->∃o',č b=À o')(W:∀b xs,H b=À Śa->H' b=À Śa)(O:∀b o u,H b=À ĩe->H' b=À ĩe)(P:∀b ps,H b=À Īe->∃more,H' b=À ϑm)(ns:∀m,Ĉp Àa m->h'.Ns Àa m)(U:wY ö X.w H' h')(Q:ŗd g') :Inv X z8 σ H' { s with ç:=h',gens:=g',Îc:=d',Ė:=t' }:=by
 let F:∀b o,ūh b=À o->b≠Àa:=λb o e=>Ϟ (ŭ ěc űi)
 let y:∀b o,ūh b=À o->b ∉ X.ex->b ∉ ch:=λb o e a C=>by rcases(h b C).1 with z|z;show a z;show Þ (ŭ ěc z) Đa
 let j:∀x c,İa x=À c->∀v,ťn c v->h'.IsCell c v:=λx c e v ⟨o,E,J⟩=>by
  let g:c ∉ ch:=λz=>(h c z).2.2.1 x c e rfl
  by_cases hc:c∈ũa;let{sl,q}:=A c o Āo hc g E ħi;show{_,q,J};show{o,t c o Āo hc g E ħi,J}
 show{Éd,Øc,Q,{λb o e n C a=>?_,λb o e n C a=>?_,λb o e n a=>?_,λb o e a=>?_,λb xs e=>W b xs (ěe b xs e),λb o xs e=>O b o xs (Ěe b o xs e),λb ps e=>?_},?_,λx c e=>?_,?_,λx c e=>?_,λp L=>?_,U,ăb};show t b o Ϭp C Ūf (ıf b o e n C a) Ϙh;let{sl,e1}:=Ąe b o e n C a;let{G,e2}:=A b _ Ϭp C Ūf e1 Ϙh;show{G,e2};let{o',e1}:=ûe b o e a;show f b o' Ūf e1 Ϙh;let{o',e1}:=ûe b o e a;show B b o' Ūf e1;let{Y,e1}:=Ĝe b ps e;let{T,e2}:=P b _ e1;show{Y++T,by rw[e2,Array.append_assoc]};let{m,R,Z}:=Ĩa;show{m,ns m R,λi x v e1 e2 S=>?_};let{u,r,l}:=Z i x v e1 e2 S;show{u,r,?_};rcases l with l|⟨k,c,e,z⟩;show .inl l;show .inr {k,c,e,j x c e _ z};let{v,z}:=ŀa x c e;show{v,j x c e v z};let{m,{o,_,_,E,_},_}:=Ĩa;show f _ o (λz=>İg.2.1 rfl) E ϗa;let{v,o,E,J}:=ŀa x c e;show f c o (λz=>(h c z).2.2.1 x c e rfl) E ħi;let{e,n,N,K,d}:=ňa p L;let g:p.1 ∉ ch:=λz=>(h p.1 z).2.2.2 p L rfl
 show{t p.1 p.2 N K g e n,f p.1 p.2 g e n,N,K,d}
def Inv.un{t':Â}(I:Inv X z8 σ H s)(u:Un ũa [] H H' â h')(j:wY ö X.w H' h'):Inv X z8 σ H' { s with ç:=h',Ė:=t' }:=by
 let{m,{o,p,t,g,r},_}:=id Ĩa;let{l,h}:=u.any g ϗa ô
 show ϵj (g':=Ļg) (d':=İe) (ch:=[]) äa (λb o _ f _ e n=>ũe b o e n f ô) (λb o _ f _ e n=>ĸg b o e n f ô) (λb o _ e n=>Ĺg b o e n ô) (λb o _ e=>Ĉg b o e ô) u.ql u.t5 u.jC (λq k=>by let{v,c,d,a,i}:=k;rw[g]at a;cases a;show{_,c,d,h,i}) j Ϙa
def Inv.call{g':Ú GenState}{t':Â}{d':Drawn}{ch:Á Ë}(I:Inv X z8 σ H s)(u:Un Ħj ch H H' â h')(l:wY ö X.w H' h')(t:ŗd g')(f:∀b∈ch,Ăf/\b≠Àa/\(∀x c,İa x=À c->c≠b)/\∀p∈Õc++z8,p.1≠b) :Inv X z8 σ H' { s with ç:=h',gens:=g',Îc:=d',Ė:=t' }:=by
 let{m,{o,A,C,j,r},_}:=id Ĩa;let{y,g}:=u.any j ϗa λz=>(f _ z).2.1 rfl
 show ϵj (ch:=ch) f (λb o g q a e n=>ũe b o e n (λz=>(Ğ (I.JA b z)).elim g q) a) (λb o _ _ a e n=>u.any e n a) (λb o a e n=>Ĺg b o e n a) (λb o a e=>Ĉg b o e a) u.ql u.t5 u.jC (λB v=>by let{E,h,i,d,k}:=v;rw[j]at d;cases d;show{_,h,i,g,k}) l t
def Inv.turned{t':Â}{it:Ë}(I:Inv X z8 σ H s)(k:∀b o,b≠it->ø b=À o->č b=À o)(t:H it=Å)(f:it≠Àa)(g:it∈X.ex\/Þc<=it)(i:∀x c,İa x=À c->c≠it)(y:∀p∈Õc++z8,p.1≠it):Inv X z8 σ H { s with ç:=h',Ė:=t' }:=by
 let d:∀b u,H b=À u->b≠it:=λb u e z=>by rw[z,t]at e;cases e
 show ϵj (g':=Ļg) (d':=İe) (ch:=[it]) (λb l=>?_) (λb o _ _ a e _=>k b o ąh e) (λb o _ _ a e _=>{o.slots,k b o ąh e}) (λ_ _ _ _ n=>n)
  (λb o a e=>{o,k b o ąh e}) (λ_ _ e=>e) ĺn (λb B e=>{#[],by rw[e];simp}) (λm w=>?_) (λb u e=>?_) Ϙa
 let e:b=it:=by simpa using l
 subst e;show{g,f,i,y};let{o,h,A,j,r}:=w;show{o,h,A,k _ o (ŧb f) j,r};show(ĝ b u e).XR (λc v a q=>k c v ?_ q) όf λ_ _ q=>q
 rcases a with z|z;rw[z];show d b u e;show d c _ z
def Inv.tok(I:Inv X z8 σ H s)(t:Â):Inv X z8 σ H { s with Ė:=t }:=I.un (h':=â) (t':=t) Un.refl ĝ
theorem Inv.kept{t':Â}(I:Inv X z8 σ H s)(k:∀b u,ø b=À u->č b=À u):Inv X z8 σ H { s with ç:=h',Ė:=t' }:=I.un (Ŗe k) (Ĥp k)
theorem Inv.laid{a:Ë}{o:HO}{t':Â}(I:Inv X z8 σ H s)(k:∀b u,ø b=À u->č b=À u)(c:Ý<=a)(d:xo ö X.w đe h' a o) :Inv X z8 σ đe { s with ç:=h',Ė:=t' }:=I.un (Un.laid k c (ğb c)) (I.zi.laid k c d)
theorem Inv.write{x e:Ë}{o:HO}{t':Â}(I:Inv X z8 σ H s)(f:Ji (H x))(d:e=x\/H e=À ŋd)(k:∀b u,b≠e->ø b=À u->č b=À u)(a:∃u,č e=À u)(c:xo ö X.w Żi h' x o):Inv X z8 σ Żi { s with ç:=h',Ė:=t' }:=I.un (Un.write f d k a) (I.zi.write f d k a c)
def Inv.weak{σ':Á Ħg}(I:Inv X z8 σ H s)(b:σ'.length=σ.length)(w:∀(i:Â) v,σ'[i]?=À Äa->σ[i]?=À Äa):Inv X z8 σ' H s:=
 {Éd,Øc,Ϙa,Ųe,let ⟨m,hn,hl'⟩:=Ĩa;{m,hn,λi x v e1 e2 a=>hl' i x v e1 (w i v e2) a},ŀa,ϗa,ļb,ňa,ĝ,Ϙc ăb}
def Inv.J8{a:Á õ}(I:Inv X z8 σ H s)(h:∀p∈a,ø p.1=À p.2/\H p.1=Å/\p.1≠Àa/\p.1 ∉ ũa/\∀v,p.2.data≠.cell v):Inv X a σ H s:=
 {Éd,Øc,Ϙa,Ųe,Ĩa,ŀa,ϗa,ļb,λp b=>(ύ b).elim (λz=>ňa p ĥe) (h p),ĝ,ăb}
def mV{N:Á Ç}(c:ğc){i j:Â}{x:Ç}(a:N[i]?=À x)(b:N[j]?=À x):i=j:=by let{e,e1}:=ĵ a;let{d,e2}:=ĵ b;show(List.getElem_inj c).mp (e1.trans e2.symm)
def z0a{M:ſd}{A:ù}{E:Value->Í->È}{i:Â}{x:Ç}{v:V}{u:Value}{Q:ña->Í->È}(I:Inv X z8 σ H s)(hN:êa)(hi:X.N[i]?=À x)(t:qR ϻ x)(r:yC v u)(h:∀s',Inv X z8 ďc H s'->(∃a,ŷa a â Ϝc/\(a=Àa\/İa x=À a))->Q () s')(hf:Î Ŭa q7):Ù M A ým Q E s:=by
 let{m,hn,hl}:=id Ĩa;let J:(Ŭh == .class||(Ŭh == .module&&Àa != Úi))=Ä:=by rw[Ħb];rfl
 let O:i<σ.length:=by rw[ăb];show îb.1
 let U:=I.Wj
 let g:∀{a:Ë}{h':Heap},(∃o,ø a=À o/\H a=Å)->ŷa a â h'->wY ö X.w H h':=λ{a h'} ha f b ob e=>by
  let{_,_,B}:=ha;show(ĝ b ob e).XR (λc P l q=>(f.2 c ?_).trans q) όf λ_ _ q=>q
  rintro rfl;rcases l with rfl|l;rw[B]at e;cases e;rw[B]at l;cases l
 rcases t with hk|hk;show wpAny_storeName_local hk hn (λh' T f=>?_) J;let{oL,_,_,hoL,_}:=id hn;show h _ {Éd,Øc,Ϙa,{λb o e n F t=>?_,λb o e n F t=>?_,ąd,λb o e t=>?_,ěe,Ěe,Ĝe},{_,T,λj y v' e1 e2 e3=>?_},λy c e=>?_,ϗa,ļb,λp Z=>?_,g {oL,hoL,ϗa} f,by simpa using ăb} {_,f,.inl rfl};show(Ϝg).trans Ũm;let{sl,e1}:=Ąe b o e n F t;show{sl,(Ϝg).trans e1};let{o',e1}:=ûe b o e t;show{o',(Ϝg).trans e1};rw[ÿq];show{u,r,.inl {hk,by simp}};rw[Āq];rcases q with⟨k,e⟩|⟨k,c,e,z⟩;show .inl {k,?_};let:y≠x:=λe=>hj (mV hN e1 (e▸hi))
 simp[this,e];show .inr {k,c,e,ýp f Ϧp};let{P,z}:=ŀa y c e;show{P,ýp f Ϧp};let{e,n,R,Y,d}:=ňa p Z;show{(f.2 p.1 R).trans e,n,R,Y,d};let C:X.fn x=Ã:=by rcases hf with z|z;show z;rw[z]at hk;cases hk
 let{c,l}:=I.ok.has x (.inl hk);let{P,z}:=ŀa x c l;show wpAny_storeName_cell Ħb hk l z (λh' G f=>?_);let{oc,L,K}:=id z;show h { s with ç:=h' } {Éd,Øc,Ϙa,{λb o e n F t=>?_,λb o e n F t=>?_,ąd,λb o e t=>?_,ěe,Ěe,Ĝe},{m,hn.sameBut f (ŧb (U x c l)),λj y v' e1 e2 e3=>?_},λy S e=>?_,ϗa,ļb,λp Z=>?_,g {oc,L,ļb x c l} f,by simpa using ăb} {c,f,.inr l};show(ϒg).trans Ũm;let{sl,e1}:=Ąe b o e n F t;show{sl,(ϒg).trans e1};let{o',e1}:=ûe b o e t;show{o',(ϒg).trans e1};rw[ÿq];show{u,r,.inr {.inl hk,c,l,G}};rw[Āq];rcases q with q|⟨k,S,e,z'⟩;show .inl q;show .inr {k,S,e,z'.sameBut f ?_};rintro rfl;show hj (mV hN e1 (I.ok.inj _ _ _ e l▸hi));by_cases hcc:S=c;subst hcc;show{_,G};let{w2,z2}:=ŀa y S e;show{w2,z2.sameBut f hcc};let{e,n,R,Y,d}:=ňa p Z;show{(f.2 p.1 ?_).trans e,n,R,Y,d};intro q;rw[q,L]at e;let q':oc=p.2:=Ϣ e;show d P (by rw[<-q'];show K)
def Sa{M:ſd}{A:ù}{E:Value->Í->È}{i:Â}{x:Ç}{v:V}{u:Value}{Q:ña->Í->È}(I:Inv X z8 σ H s)(a:êa)(hi:X.N[i]?=À x)(c:qR ϻ x)(r:yC v u)(h:∀s',Inv X z8 ďc H s'->Q () s')(d:Î Ŭa q7):Ù M A ým Q E s:=
 z0a I a hi c r (λs' b _=>h s' b) d
def Inv.Fb{s':Í}{ch:Á Ë}(I:Inv X z8 σ H s)(d:s'.os=s.os)(u:Un Ħj ch H H' â Ϝc)(f:wY ö X.w H' Ϝc)(g:ŗd s'.gens)(a:∀b∈ch,Ăf/\b≠Àa/\(∀x c,İa x=À c->c≠b)/\∀p∈Õc++z8,p.1≠b):Inv X z8 σ H' s':=by let{h',g',d',t',h}:=s';let e:h=s.os:=d;subst e;show I.call (g':=g') (t':=t') (d':=d') u f g a
#print a
abbrev XK:=Value->É Ë->Hp->È
abbrev St:=Á Ħg
abbrev VK:=V->Hp->È
abbrev TE:=St->Hp->VK->È
abbrev TT:=St->Hp->(Ð->Hp->È)->È
abbrev TA:=St->Hp->(Á V->Hp->È)->È
structure t6 where
 nx:St->Hp->È
 rt:VK
 bk:St->Hp->È:=λ_ _=>Ā
 ct:St->Hp->È:=λ_ _=>Ā
abbrev TS:=t6->St->Hp->È
def EP(X:Cx)(a:Á õ)(σ:St)(Q:VK)(u:Value)(s':Í):È:=∃v H',Inv X a σ H' s'/\yC v u/\Q v H'
def TP(X:Cx)(a:Á õ)(σ:St)(Q:Ð->Hp->È)(b:Ð)(s':Í):È:=∃H',Inv X a σ H' s'/\Q b H'
def AP(X:Cx)(a:Á õ)(σ:St)(Q:Á V->Hp->È)(us:Á Value)(s':Í):È:=∃vs H',Inv X a σ H' s'/\zo vs us/\Q vs H'
def SP(X:Cx)(a:Á õ)(D:t6)(f:Flow)(s':Í):È:=
 match f with
 |.next=>∃σ' H',Inv X a σ' H' s'/\Ðb σ' H'|.brk=>∃σ' H',Inv X a σ' H' s'/\D.bk σ' H'|.cont=>∃σ' H',Inv X a σ' H' s'/\D.ct σ' H'|.ret u=>∃v σ' H',Inv X a σ' H' s'/\yC v u/\D.rt v H'
def PE(X:Cx)(e:Ö)(t:TE):È:=
 ∀(z8:Á õ) (s:Í) (σ:St) (H:Hp) (Q:VK),Inv X z8 σ H s->t σ H Q->Ù Ą X.A ôe ŏb İ s
def PT(X:Cx)(e:Ö)(t:TT):È:=
 ∀(z8:Á õ) (s:Í) (σ:St) (H:Hp) (Q:Ð->Hp->È),Inv X z8 σ H s->t σ H Q->Ù Ą X.A (ŭd e Û ôe) Ãi İ s
def PW(X:Cx)(e:Ö)(t:TT):È:=
 ∀(Įc:Sem Value)(z8:Á õ) (s:Í) (σ:St) (H:Hp) (Q:Ð->Hp->È),Inv X z8 σ H s->t σ H Q->Ù Ą X.A (ŭd e Û Įc) Ãi İ s
def PW.pt{X:Cx}{e:Ö}{t:TT}(h:PW X e t):PT X e t:=h _
def PA(X:Cx)(es:Á Ö)(t:TA):È:=
 ∀(pos:Pos)(z8:Á õ) (s:Í) (σ:St) (H:Hp) (Q:Á V->Hp->È),Inv X z8 σ H s->t σ H Q->Ù Ą X.A (spliced ñd) (AP X z8 σ Q) İ s
def PS(X:Cx)(st:Ü)(t:TS):È:=
 ∀(z8:Á õ) (s:Í) (σ:St) (H:Hp) (D:t6),Inv X z8 σ H s->t D σ H->Ù Ą X.A (exec st Û) ŷo İ s
def ul(X:Cx)(st:Á Ü)(t:TS):È:=
 ∀(z8:Á õ) (s:Í) (σ:St) (H:Hp) (D:t6),Inv X z8 σ H s->t D σ H->Ù Ą X.A (execs st Û) ŷo İ s
def zy{α:Type}{t:Sem α}{Q b:α->Í->È}{M:ſd}{A:ù}{E:Value->Í->È}{s:Í}(h:Ù M A t Q E s)(c:∀a s,Q a s->b a s):Ù M A t b E s:=ĳa h c λ_ _ x=>x
section
variable{X:Cx}
nonrec def gr(i:Â):TE:=λσ H Q=>∃v,σ[i]?=À Äa/\Q v H
nonrec def tC(v:V):TE:=λ_ H Q=>Q v H
def Vz{i:Â}{x:Ç}{pos:Pos}(p:X.N[i]?=À x)(hv:kJ ϻ x)(f:Î ō q10)(g:Î ŷb q10):PE X öa ýb:=by intro k s σ H Q I h;let{v,e,h}:=h;let{m,n,q}:=Ĩa;let{u,r,l}:=q i x v p e hv;let b:EP X k σ Q u s:={v,H,I,r,h};rcases l with⟨d,o⟩|⟨d,c,j,a⟩;show ţi (Ϧl Ħb d n o b) f;rcases d with d|d;show ţi (Üm Ħb d j a b) f;show ţi (wpAny_loadName_free Ħb d j a b g) f
def nR{i j pos}:PE X (.Constant Ϩ j pos) (tC Ϩ):=λ_ _ _ H _ I h=>wpAny_Constant_int {.int i,H,Óa _,{_,rfl},h}
def y8n{b j pos}:PE X (.Constant Ñg j pos) (tC ıb):=λ_ _ _ H _ I h=>Constant_bool {.bl b,H,I,rfl,h}
def y96{j pos}:PE X (.Constant .none j pos) (tC .zO):=λ_ _ _ H _ I h=>Constant_none {.zO,H,I,rfl,h}
def y9c{x j pos}:PE X (.Constant Ϻb j pos) (tC Ϻb):=λ_ _ _ H _ I h=>Calls.Constant_str {.str x,H,Óa _,{_,rfl},h}
def Gl(X:Cx)(x:Ç):È:=Śc x=À .globalImplicit
def O6{E:Value->Í->È}{c:Á õ}{s:Í}{σ:St}{H:Hp}{x:Ç}{u:Value}{pos:Pos}{Q:Value->Í->È}(I:Inv X c σ H s)(d:Gl X x)(a:ð x=À u)(h:Q u s)(b:Î ō q10):Ù Ą X.A ϊn Q E s:=
 Ϩk Ħb d (Calls.loadGlobal_global Ŀk a h) b
def Tk{E:Value->Í->È}{c:Á õ}{s:Í}{σ:St}{H:Hp}{x:Ç}{u:Value}{pos:Pos}{Q:Value->Í->È}(I:Inv X c σ H s)(d:Gl X x)(g:ð x=Å)(hv:ϔ x=À u)(h:Q u s)(f:Î Ĕb q10)(b:Î ō q10):Ù Ą X.A ϊn Q E s:=by let{i,e,a}:=I.mod.blt;show Ϩk Ħb d (Calls.loadGlobal_builtin Ŀk g (by rw[I.ok.blt];show e.keeps I.bk) ((a x f).trans hv) h) b
def y92{x:Ç}{v:V}{u:Value}{pos:Pos}(c:Gl X x)(a:ð x=À u)(r:yC v u)(b:Î ō q10):PE X öa źe:=
 λ_ _ _ H _ I h=>O6 I c a {v,H,I,r,h} b
def y8o{x:Ç}{v:V}{u:Value}{pos:Pos}(b:Gl X x)(d:ð x=Å)(hv:ϔ x=À u)(r:yC v u)(c:Î Ĕb q10)(a:Î ō q10):PE X öa źe:=
 λ_ _ _ H _ I h=>Tk I b d hv {v,H,I,r,h} c a
variable{a b:Ö}{ta tb:TE}{pos:Pos}
nonrec def tB(t:TE):TT:=λσ H Q=>t σ H λx a=>∃c,x=.bl c/\Q c a
def oI{e:Ö}{t:TE}(h:PE X e t)(j:Î (∀Įc,ŭd e Û Įc=(do let v <-Įc;standAt e.pos;holding [v] Òp)) q11):PT X e (tB t):=by intro i s σ H Q I k;show isTrue_plain (zy (h i s σ H _ I k) λv l a=>?_) (j _);let{x,f,c,g,b}:=a;let{d,rfl,q}:=b;cases g;show Ϧd {f,c,q}
variable{tA tB':TT}{yB:Á Ö}
nonrec def x5o(t u:TT):TT:=λσ H Q=>t σ H λc a=>if c=Ã then u σ a Q else Q Ä a
nonrec def x65(t u:TT):TT:=λσ H Q=>t σ H λc a=>if c=Ã then Q Ã a else u σ a Q
nonrec def x63(t:TT):TT:=λσ H Q=>t σ H λc a=>Q (!c) a
def oY(d:PT X a tA):PW X øh tA:=by
 intro g b s σ H Q I h;show ϛo ϖk;cases c with
 |Ã=>show isTrue_and_nil e|Ä=>show e
def x0k(d:PT X a tA):PW X Ϡl tA:=by
 intro g b s σ H Q I h;show Đp ϖk;cases c with
 |Ä=>show isTrue_or_nil e|Ã=>show e
def oX(k:PT X a tA)(j:PW X ïe tB'):PW X ġe (x5o tA tB'):=by
 intro m g s σ H Q I h;show ϛo ϕk;let{f,i,e}:=d;cases c with
 |Ã=>show j m g l σ f Q i e|Ä=>show{f,i,e}
def x0j(k:PT X a tA)(j:PW X łf tB'):PW X ϸf (x65 tA tB'):=by
 intro m g s σ H Q I h;show Đp ϕk;let{f,i,e}:=d;cases c with
 |Ã=>show{f,i,e}|Ä=>show j m g l σ f Q i e
def x08(e:PT X a tA):PT X èf (x63 tA):=by rw[ēq];show isTrue_not (e d s σ H (λc b=>Q (!c) b) I h)
nonrec def x5p(ta tb:TE):TE:=λσ H Q=>ta σ H λx a=>∃c,x=.bl c/\if c=Ã then tb σ a Q else Q û a
nonrec def x66(ta tb:TE):TE:=λσ H Q=>ta σ H λx a=>∃c,x=.bl c/\if c=Ã then Q Ķ a else tb σ a Q
nonrec def x64(ta:TE):TE:=λσ H Q=>ta σ H λx a=>∃c,x=.bl c/\Q (.bl (!c)) a
def y98{op}{t:TE}(h:PE X a t):PE X Óm t:=λb s σ H Q I c=>BoolOp_one (h b s σ H Q I c)
def y8m(m:PE X a ta)(l:PE X ïe tb):PE X ġe (x5p ta tb):=by
 rw[Øq];show BoolOp_and ϔk;rw[ĩq];cases c with
 |Ã=>show l i j σ g Q f d|Ä=>show{.bl Ä,g,f,rfl,d}
def y99(m:PE X a ta)(l:PE X łf tb):PE X ϸf (x66 ta tb):=by
 rw[Øq];show BoolOp_or ϔk;rw[ĩq];cases c with
 |Ä=>show l i j σ g Q f d|Ã=>show{.bl Ã,g,f,rfl,d}
def y97(j:PE X a ta):PE X èf (x64 ta):=by rw[Øq];show UnaryOp_ (zy (j i s σ H _ I h) λv k d=>?_);let{x,f,e,g,b}:=d;let{c,rfl,b}:=b;cases g;show not_of (Ϧd {.bl (!c),f,e,rfl,b})
nonrec def x5w(t:TT)(ta tb:TE):TE:=λσ H Q=>t σ H λc a=>if c=Ã then ta σ a Q else tb σ a Q
def y93{c:Ö}(m:PT X c tA)(n:PE X a ta)(l:PE X b tb):PE X ōm (x5w tA ta tb):=by
 intro e s σ H Q I h;show wpAny_IfExp (zy (m e s σ H _ I h) λd k f=>?_);let{i,j,g}:=f;cases d with
 |Ã=>show n e k σ i Q j g|Ä=>show l e k σ i Q j g
#print a
def yZ(K:Ô)(H:Hp)(a:Ë)(xs:Á V):È:=
 Rd H a ϧ \/
  ∃(o:Obj) (its:Ú Value) (n:Â),Ãa a=À o/\Êb=.type Ī/\Ŭe=Å/\ϵ=.seq its n/\øj<=å/\zo xs Ďe
def xR(K:Ô)(H:Hp)(a:Ë)(xs:Á V):È:=
 Rd H a Śa \/
  ∃(o:Obj) (its:Ú Value) (n:Â),Ãa a=À o/\Êb=.type ώ/\ϵ=.seq its n/\øj<=å/\zo xs Ďe
nonrec def z3n:Value->É V
 |.none=>À .zO|.bool b=>À ıb|.int i _=>À Ϩ|.str x _=>À Ϻb|.bytes b _=>À (.byt b)|.float b _=>À (.Wm b)|.ref a=>À Ŗ|.type n=>À (.ty n)|_=>Å
def yC.abs{x:V}{u:Value}(r:yC x u):z3n u=À x:=by
 cases x with
 |zO=>cases r;rfl|bl _=>cases r;rfl|int _=>let{t,rfl}:=r;rfl
 |str _=>let{t,rfl}:=r;rfl
 |byt _=>let{t,rfl}:=r;rfl
 |Wm _=>let{t,rfl}:=r;rfl
 |ref _=>cases r;rfl|ty _=>cases r;rfl
def yC.inj{x y:V}{u:Value}(r:yC x u)(q:yC y u):x=y:=Ϣ (r.abs.symm.trans q.abs)
theorem zo.inj{xs ys:Á V}{us:Á Value}(h:zo xs us)(g:zo ys us):xs=ys:=by
 induction h generalizing ys with
 |nil=>cases g;rfl|ñ r _ ih=>cases g with|ñ r' t'=>rw[r.inj r',ih t']
section
variable{X:Cx}{z8:Á õ}{σ:St}{H:Hp}{s:Í}{a:Ë}{xs ys:Á V}
def ŧa{K:Ô}(h:H a=À ϧ):yZ K H a xs:=.inl Ác
def ϴc{K:Ô}(h:H a=À Śa):xR K H a xs:=.inl Ác
def Inv.list(I:Inv X z8 σ H s)(h:yZ X.K H a xs):∃its:Á Value,zo xs its/\PlainL â a Ϥ/\ë<=å:=by rcases h with h|⟨o,its,n,hk,hc,hd,hs,hz,r⟩;let{z,its,n,r,e}:=h.ok ĝ;show{its,r,{_,n,e,rfl,rfl,rfl},z};refine{Ďe,r,{o,n,Ϝ a o hk,hc,hd,by simpa using hs},?_};rw[Ϗq]
def Inv.tuple(I:Inv X z8 σ H s)(h:xR X.K H a xs):∃its:Á Value,zo xs its/\Ķb â a Ϥ/\ë<=å:=by rcases h with h|⟨o,its,n,hk,hc,hs,hz,r⟩;let{z,its,r,p}:=h.ok ĝ;show{its,r,p,z};refine{Ďe,r,{o,Ϝ a o hk,hc,n,by simpa using hs},?_};rw[Ϗq]
def Inv.Ln(I:Inv X z8 σ H s)(h:yZ X.K H a xs)(h':yZ X.K H a ys):xs=ys:=by
 let{c,r,{o,n,e,_,_,d},_}:=ϙ h;let{b,i,{k,j,g,_,_,f},_}:=ϙ h';rw[e]at g;cases g;rw[d]at f;injection f with d1 _
 rw[ώq]
 subst this;show r.inj i
def Inv.Fk(I:Inv X z8 σ H s)(h:xR X.K H a xs)(h':xR X.K H a ys):xs=ys:=by
 let{c,r,{o,e,_,n,d},_}:=àa h;let{b,i,{k,g,_,j,f},_}:=àa h';rw[e]at g;cases g;rw[d]at f;injection f with d1 _
 rw[ώq]
 subst this;show r.inj i
#print a
abbrev Cx.ZS(X:Cx)(E:Value->Í->È):Cx:={ X with xe:=E }
abbrev Cx.qk(X:Cx):Cx:=X.ZS λ_ _=>Ā
theorem Cx.Ok.ZS{X:Cx}(ok:X.Ok)(E:Value->Í->È):(ŋe).Ok:=
 {ok.mod,ok.kind,ok.glob,ok.blt,ok.above,ok.inj,ok.has,ok.Uc,ok.hd,ċp,ok.J9,ok.J4,ok.bs,ok.ZR,ok.Ug,ok.Ud,ok.ja,ok.XO}
def Cx.Ok.XS{X:Cx}{E:Value->Í->È}(ok:(ŋe).Ok):X.Ok:=
 {ok.mod,ok.kind,ok.glob,ok.blt,ok.above,ok.inj,ok.has,ok.Uc,ok.hd,ċp,ok.J9,ok.J4,ok.bs,ok.ZR,ok.Ug,ok.Ud,ok.ja,ok.XO}
section
variable{X:Cx}{z8:Á õ}{σ:St}{H:Hp}{s:Í}{E:Value->Í->È}
theorem Inv.ZS(I:Inv X z8 σ H s)(E:Value->Í->È):Inv ŋe z8 σ H s:={I.ok.ZS E,Øc,Ϙa,Ųe,Ĩa,ŀa,ϗa,ļb,ňa,ĝ,ăb}
theorem Inv.XS(I:Inv ŋe z8 σ H s):Inv X z8 σ H s:={I.ok.XS,Øc,Ϙa,Ųe,Ĩa,ŀa,ϗa,ļb,ňa,ĝ,ăb}
theorem SP.XS{D:t6}{f:Flow}{s':Í}(h:SP ŋe z8 D f s'):SP X z8 D f s':=by
 cases f with
 |next=>let{σ',a,I,q}:=h;show{σ',a,I.XS,q}
 |brk=>let{σ',a,I,q}:=h;show{σ',a,I.XS,q}
 |Ôc=>let{σ',a,I,q}:=h;show{σ',a,I.XS,q}
 |ret u=>let{v,σ',a,I,r,q}:=h;show{v,σ',a,I.XS,r,q}
theorem ul.qk{st:Á Ü}{t:TS}(h:ul X.qk st t):ul X st t:=λz8 s σ H D I a=>
 ĳa (h z8 s σ H D (I.ZS _) a) (λ_ _ q=>q.XS) λ_ _ z=>ĝa z
#print a
section
variable{X:Cx}{st:Ü}{yB:Á Ü}{t u:TS}{e:Ö}{te:TE}{pos:Pos}
nonrec def x61:TS:=λD σ H=>Ðb σ H
nonrec def x6a(t u:TS):TS:=λD σ H=>t { D with nx:=u D } σ H
def oG:ul X [] x61:=λ_ _ σ H _ I h=>ãf {σ,H,I,h}
def OO(d:PS X st t)(b:ul X yB u):ul X (st::yB) (x6a t u):=by
 intro a s σ H D I h;show Ϟm (zy (d a s σ H { D with nx:=u D } I h) λf g q=>?_);cases f with
 |next=>let{σ',e,c,q}:=q;show b a g σ' e D c q
 |ret v=>show q|brk=>show q|Ôc=>show q
def Nh(b:PS X st t):ul X [st] t:=by
 intro a s σ H D I h;show Ϟm (zy (b a s σ H D I h) λf c q=>?_);cases f with
 |next=>show ãf q|ret v=>show q|brk=>show q|Ôc=>show q
def Inv.quiet{a:Á õ}{σ:St}{H:Hp}{s:Í}(I:Inv X a σ H s):ġo Û=Ä:=by simp[ġo,Ħb]
nonrec def z0n(te:TE):TS:=λD σ H=>te σ H λ_ a=>Ðb σ a
def o9(i:PE X e te)(c:Î æl q12):PS X ñi (z0n te):=by intro f s σ H D I h;show wpAny_Expr_any (zy Ļm λv k a=>?_) I.quiet c;let{x,d,g,j,b}:=a;show{σ,d,g,b}
nonrec def x68(te:TE):TS:=λD σ H=>te σ H D.rt
def ON(i:PE X e te):PS X êf (x68 te):=by intro f s σ H D I h;show wpAny_Return_some (zy Ļm λv j a=>?_);let{x,c,g,d,b}:=a;show{x,σ,c,g,d,b}
nonrec def x5x(c:TT)(t u:TS):TS:=λD σ H=>c σ H λb a=>if b=Ã then t D σ a else u D σ a
def oA{c:Ö}{a b:Á Ü}{i:TT}(n:PT X c i)(o:ul X a t)(m:ul X b u):PS X (.If c a b pos) (x5x i t u):=by
 intro e s σ H D I h;show wpAny_If (zy (n e s σ H _ I h) λd l f=>?_);let{j,k,g}:=f;cases d with
 |Ã=>show o e l σ j D k g|Ä=>show m e l σ j D k g
nonrec def x60:TS:=λ_ _ _=>Ā
def x07{a:Á Ü}:ul X a x60:=λ_ _ _ _ _ _ h=>Ϩc
#print a
abbrev TG:=V->St->Hp->ϩn->È
abbrev Za:=Á V->St->Hp->ϩn->È
def PG(X:Cx)(a:Ö)(t:TG):È:=
 ∀(z8:Á õ) (s:Í) (σ:St) (H:Hp) (v:V) (u:Value) (Q:St->Hp->È),Inv X z8 σ H s->yC v u->t v σ H Q->
  Ù Ą X.A (Èc a Û u) (λ_ b=>∃σ' H',Inv X z8 σ' H' b/\Q σ' H') İ s
def Jl(X:Cx)(ts:Á Ö)(t:Za):È:=
 ∀(z8:Á õ) (s:Í) (σ:St) (H:Hp) (vs:Á V) (us:Á Value) (Q:St->Hp->È),Inv X z8 σ H s->zo vs us->t vs σ H Q->
  Ù Ą X.A (assignInOrder ((ýe ts Û).map (·.2)) us) (λ_ a=>∃σ' H',Inv X z8 σ' H' a/\Q σ' H') İ s
abbrev M4:=V->V->V->Hp->ϫp->È
def CQ(X:Cx)(t:M4):È:=
 ∀(z8:Á õ) (s:Í) (σ:St) (H:Hp) (o i v:V) (ov iv u:Value) (Q:Hp->È),Inv X z8 σ H s->yC o ov->yC i iv->yC v u->t o i v H Q->
  Ù Ą X.A (ŋj ov iv u) (λ_ a=>∃H',Inv X z8 σ H' a/\Q H') İ s
abbrev Jp:=V->V->Hp->VK->È
def M1(X:Cx)(a:Łd)(t:Jp):È:=
 ∀(z8:Á õ) (s:Í) (σ:St) (H:Hp) (x y:V) (v u:Value) (Q:VK),Inv X z8 σ H s->yC x v->yC y u->t x y H Q->
  Ù Ą X.A (Ϥi a v u) ŏb İ s
section
variable{X:Cx}{pos:Pos}
nonrec def ur(i:Â):TG:=λv σ H Q=>Q ďc H
def y9f{i:Â}{x:Ç}(c:êa)(hi:X.N[i]?=À x)(d:qR ϻ x)(b:Î Ŭa q7):PG X öa ŭb:=by intro f s σ H v u Q I r h;show Ŕm (Sa I c hi d r (λe a=>{_,H,a,h}) b)
nonrec def VV:Za:=λa σ H Q=>a=[]/\Q σ H
nonrec def gU(t:TG)(u:Za):Za:=λa σ H Q=>∃v r,a=v::r/\t v σ H λσ' b=>u r σ' b Q
def y9j:Jl X [] VV:=by intro b s σ H c a Q I r h;let{e,h}:=h;subst e;cases r;show assignInOrder_nil {σ,H,I,h}
def y9i{e:Ö}{es:Á Ö}{t:TG}{u:Za}(f:PG X e t)(i:Jl X es u)(j:Î ((Žn).map (·.2)=Èc e Û::(Ϫd).map (·.2)) q12):Jl X Ę (gU t u):=by
 intro b s σ H l n Q I r h;let{v,m,e1,h}:=h;subst e1;cases r with
 |ñ r rr=>rw[j];show assignInOrder_cons (zy (f b s σ H _ _ _ I r h) λ_ g a=>?_);let{σ1,k,d,c}:=a;show i b g σ1 k _ _ Q d rr c
nonrec def VW(K:Ô)(n:Â)(t:Za):TG:=λv σ H Q=>∃a xs,v=.ref a/\xR K H a xs/\ë=n/\t xs σ H Q
def y9h{es:Á Ö}{k:Â}{t:Za}{n:Â}(l:ŷ=Ã)(h:Jl X es t)(w:Î Ën q12)(c:Î ((Ϫd).findIdx? (·.1)=Å) q12):PG X ϒm þo:=by
 intro f s σ H v u Q I r d;let{a,m,e1,j,z,d}:=d;subst e1;cases r;let{y,g,q,A}:=àa j;refine assign_Tuple_tuple (ģa l) q (by simp[w,<-z,Ča]) c λx p=>?_
 let i:Inv X f σ H { s with ç:=x }:=Ųd (t':=ĕ) λb o e=>p b o Ũp e
 show h f _ σ H m _ Q i (by simpa using g) d
nonrec def iB(b d:TE)(t:M4):TG:=λv σ H Q=>b σ H λo a=>d σ a λi c=>t o i v c λe=>Q σ e
def y9g{o i:Ö}{c d:TE}{t:M4}(w:PE X o c)(hi:PE X i d)(l:CQ X t)(B:∀v,Èc Ęh Û v=(do
   let ov <-holding [v] ňi
   let iv <-holding [v,ov] (ĩ i Û)
   standAt pos
   holding ĳp (ŋj ov iv v)
   release ĳp []):=by intro _;rfl):PG X Ęh (iB c d t):=by
 intro b s σ H v u Q I r h;rw[B];show Ó (Ϣa (zy (w b s σ H _ I h) λov j a=>?_));let{x,m,f,n,e}:=a;show Ó (Ϣa (zy (hi b j σ m _ f e) λiv g a=>?_));let{y,A,p,z,E}:=a;show Ó (Ěh (Ó (Ϣa (zy (l b g σ A x y v ov iv u _ p n z r E) λ_ F a=>?_))));let{C,q,k}:=a;show wpAny_release {σ,C,q,k}
nonrec def D9(a:TE)(g:TG):TS:=λD σ H=>a σ H λx b=>g x σ b Ðb
def nv{tg e:Ö}{b:TE}{g:TG}(o:PE X e b)(n:PG X tg g)(k:Î (Ói [tg] e İd Û=pure Ä) q12)(p:Î (Ôi [tg] e Û=pure Å) q12)(i:Î ((ýe [tg] Û).map (·.2)=[Èc tg Û]) q12):PS X (.Assign [tg] e pos) (D9 b g):=by intro c s σ H D I h;show wpAny_Assign_stores (zy (o c s σ H _ I h) λv j a=>?_) k p;let{x,l,f,m,d}:=a;rw[i];show zy (n c j σ l x v _ f m d) λ_ r q=>q
def oB{i:Â}{x:Ç}{e:Ö}{b:TE}{ϓ:Pos}(p:êa)(hi:X.N[i]?=À x)(g:qR ϻ x)(o:PE X e b)(j:Î ſg q12)(f:Î Ŭa q7) :PS X Ľc (D9 b ŭb):=by intro n s σ H D I h;show wpAny_Assign_Name (zy (o n s σ H _ I h) λv r a=>?_) j;let{y,k,d,l,c}:=a;show Sa d p hi g l (λq m=>{_,k,m,c}) f
nonrec def x5q(i:Â)(b:TE)(a:Jp):TS:=λD σ H=>∃x,σ[i]?=À (À x)/\b σ H λy c=>a x y c λz d=>Ðb (Ν (À z)) d
def n_{i:Â}{x:Ç}{e:Ö}{o:TE}{j:Łd}{p:Jp}{ϓ:Pos}(Y:êa)(hi:X.N[i]?=À x)(f:qR ϻ x)(W:PE X e o)(E:M1 X j p)(B:Î Ŭa q7) :PS X (.AugAssign Òe j e pos) (x5q i o p):=by
 intro g s σ H D I h;let{v,e1,h}:=h;let{m,G,hl}:=Ĩa;let n:kJ ϻ x:=by rcases f with k|k;show .inl k;show .inr (.inl k)
 let{u,r,l}:=hl i x v hi e1 n;show wpAny_AugAssign_Name ?_
 let q:Ù Ą X.A ôe (λw Z=>Ù Ą X.A (Ϥi j u w) (λr O=>Ù Ą X.A (storeName Û x r) (λ_=>SP X g D .next) İ O) İ Z) İ s:=by
  show zy (W g s σ H _ I h) λw C b=>?_
  let{y,Q,L,R,t}:=b;show zy (E g C σ Q v y u w _ L r R t) λz s2 b=>?_
  let{zv,U,F,T,K}:=b;show Sa F Y hi f T (λs3 S=>{_,U,S,K}) B
 rcases l with⟨a,J⟩|⟨a,c,P,d⟩;show Ϧl Ħb a G J q;rcases a with a|a;show Üm Ħb a P d q;rcases f with k|k;rw[ŉq];rw[ŉq]
nonrec def iq(f:Æ->Æ->Æ):Jp:=λx y H Q=>∃i j,x=.int i/\y=.int j/\Q (Δ (f i j)) H
def Kd:M1 X .Add ôn:=by intro d s σ H x y v u Q I a b h;let{i,j,e1,e2,q}:=h;subst e1;subst e2;let{t,rfl}:=a;let{c,rfl}:=b;show iadd_int {.int _,H,Óa _,{_,rfl},q}
#print a
section
variable{X:Cx}{pos:Pos}
nonrec def x6g(c:TT)(d:TS):TS:=λD σ H=>∃W:Â->St->Hp->È,(∃m,W m σ H)/\∀m σ H,W m σ H->
 c σ H λb a=>if b=Ã then ∃N:St->Hp->È,(∀σ' H',N σ' H'->∃m',m'<m/\W m' σ' H')/\d { D with nx:=N,ct:=N,bk:=Ðb } σ a else Ðb σ a
def oE{c:Ö}{a:Á Ü}{x:TT}{r:TS}(t:Ϥb Ą X.A Û İ)(L:PT X c x)(F:ul X a r):PS X (.While c a [] pos) (x6g x r):=by
 intro k s σ H D I h;let{W,{P,K},d}:=h;show wpAny_While (codeAny_whileLoop (λn E=>∃σ' H',Inv X k σ' H' E/\W n σ' H') ?_ P {σ,H,I,K});rintro n C ⟨σ1,y,G,O⟩;show ńc t (zy (L k C σ1 y _ G (d n σ1 y O)) λb J j=>?_);let{z,u,i}:=j;cases b with
 |Ã=>
  let{N,B,i}:=i;rw[Ï rfl];show ńc t (zy (F k J σ1 z _ u i) λf Q g=>?_);cases f with
  |next=>let{σ3,e,q,l}:=g;let{o,m,p}:=B σ3 e l;show{o,m,σ3,e,q,p}
  |Ôc=>let{σ3,e,q,l}:=g;let{o,m,p}:=B σ3 e l;show{o,m,σ3,e,q,p}
  |brk=>show g|ret v=>show g
 |Ä=>rw[Ñ Ħ];show ãf {σ1,z,u,i}
#print a
structure It where
 go:Â->Hp->È
 tm:Â->Hp->V->Hp->È
 Ϡ:Â->Hp->È
def gK(X:Cx)(a:Á õ)(H:Hp)(b:Ë):È:=
 H b=Å/\b≠Àa/\b ∉ ũa/\Ăf/\(∀x c,İa x=À c->c≠b)/\∀p∈Õc++a,p.1≠b
def Inv.Wn{X:Cx}{d:Á õ}{σ:St}{H H':Hp}{s:Í}{b:Ë}(I:Inv X d σ H s)(a:Ý<=b)(g:H' b=Å):gK X d H' b:=by show{g,Œa (ŭ I.lt a),I.bf a,.inr (ý I.sz a),λx c e z=>?_,λp f z=>?_};let{v,q}:=ŀa x c e;show Þ (ŭ q.lt ſm) Đa;show Þ (ŭ (Ĥ (ňa p f).1) ſm) Đa
structure YQ(P:ï)(w:æ)(K:Ô)(tg:Ö)(J:It)(fp:Á Ë)(it:Ë)(tn:Â->Heap->È):È where
 mem:it∈fp
 obj:∀i h,tn i h->∀b∈fp,∃o,Ģ b=À o/\∀v,ϵ≠.cell v
 Ũa:∀i h h',tn i h->(∀b∈fp,∀o,Ģ b=À o->č b=À o)->tn i h'
 ąb:∀(X:Cx),ö=P->X.w=w->X.K=K->ŷ=Ã->∀(i:Â)(z8:Á õ) (s:Í) (σ:St) (H:Hp) (E:Value->Í->È),Inv X z8 σ H s->(∀b∈fp,gK X z8 H b)->tn i â->J.go i H->
  Ù śb X.A Ńp (λr s1=>∃u,r=À u/\
   Ù śb X.A Ĳn (λ_ s2=>∃x H',Inv X z8 σ H' s2/\yC x u/\J.tm i H x H'/\tn í s2.heap/\∀b∈fp,H' b=Å) E s1) E s
 done:∀(X:Cx),ö=P->X.w=w->X.K=K->ŷ=Ã->∀(i:Â)(z8:Á õ) (s:Í) (σ:St) (H:Hp) (E:Value->Í->È),Inv X z8 σ H s->(∀b∈fp,gK X z8 H b)->tn i â->ŉg i H->
  Ù śb X.A Ńp (λr s1=>r=Å/\Inv X z8 σ H s1) E s
 Ðc:∀(A:ù)(i:Â)(s:Í)(Q:Value->Í->È)(E:Value->Í->È),tn i â->Q æb s->Ù śb A (Ūd æb) Q E s
abbrev TI:=St->Hp->(It->Hp->È)->È
def CP(X:Cx)(c:Á õ)(σ:St)(tg:Ö)(R:It->Hp->È)(a:Value)(d:Í):È:=
 ∃(it:Ë) (fp:Á Ë) (tn:Â->Heap->È) (J:It) (H':Hp),a=.ref it/\Inv X c σ H' d/\YQ ö X.w X.K tg J fp it tn/\tn 0 d.heap/\(∀b∈fp,gK X c H' b)/\R J H'
def PI(X:Cx)(tg a:Ö)(b:TI):È:=
 ∀(z8:Á õ) (s:Í) (σ:St) (H:Hp) (R:It->Hp->È),Inv X z8 σ H s->b σ H R->
  Ù Ą X.A Őo (λv c=>Ù Ą X.A (Ūd v) (CP X z8 σ tg R) İ c) İ s
def Ie{M:ſd}{A:ù}{E:Value→Í→È}{s:Í}{tg:Ö}{it:Ë}{u:Value}{o:Obj}{n:îa}{vs:Ú Value}{Q:ña→Í→È}(d:ø it=À o)(b:Êb=.type n)(c:ϵ=.fields vs)(e:[ϕb,ńa,Öm,āl,ϕm,ľl,ϥl].contains n=Ä)(a:Q () s):Ù M A Ĳn Q E s:=by
  unfold ôf
  cases tg<;>first
    |show ó a
    | (cases u<;>first
        |show ó a
        | (show Ó (Ţi d ?_)
           rw[b,c];exact Ù M A (Τa ([ϕb,ńa,Öm,āl,ϕm,ľl,ϥl].contains n&&vs[0]?==À (ϑ _))) Q E s;rw[Ñ (by intro h;rw[e,įf]at h;cases h)];show ó a))
nonrec def CK(K:Ô)(a:Ë):It:=
 {λi H=>∃xs x,yZ K H a xs/\xs[i]?=À x,λi H x b=>b=H/\∀xs,yZ K H a xs->xs[i]?=À x,λi H=>∃xs,yZ K H a xs/\ë<=i}
nonrec def CL(K:Ô)(a:Ë):It:=
 {λi H=>∃xs x,xR K H a xs/\xs[i]?=À x,λi H x b=>b=H/\∀xs,xR K H a xs->xs[i]?=À x,λi H=>∃xs,xR K H a xs/\ë<=i}
nonrec def Lx(lo:Æ)(n:Â):It:={λi _=>i<n,λi H x a=>a=H/\x=.int Äb,λi _=>n<=i}
def x7z{P:ï}{w:æ}{K:Ô}{tg:Ö}(a it:Ë):YQ P w K tg ĭj [it] it (λi h=>ći it a i) where
 mem:=by simp
 obj:=λi h st b f=>by
  let e:b=it:=by simpa using f
  rw[Öq]
 Ũa:=λi h m st k=>st.at λo e=>k it ô o e
 ąb:=by
  rw[Ļq];let{xs,x,j,r}:=A;let{B,L,p,T}:=ϙ j;let{u,Y,R}:=L.get r;let{t,C,S,q,n,G}:=l it ô;refine Áh st Ög (x:=u) ľm λm g Q=>?_
  let U:Inv X N σ H { s with ç:=m }:=ób (t':=ĕ) Ól t C q n G;let{o,e,c,d}:=id g;show{u,rfl,Ie (s:={ s with ç:=m }) e c d Ò {x,H,U,R,{rfl,λys Z=>by rw[I.Ln Z j];show r},g,λb f=>(l b f).1}}
 done:=by rw[Ļq];let{xs,j,r}:=A;let{B,L,p,T}:=ϙ j;let{t,C,S,q,n,G}:=l it ô;let hl:=ϟ;show Çh (ģa O) st Ög ße λm eb=>{rfl,ób (t':=ĕ) Ōl t C q n G}
 Ðc:=λ_ _ _ _ _ st h=>wpAny_pyIter_listiter st h
def x82{P:ï}{w:æ}{K:Ô}{tg:Ö}(a it:Ë):YQ P w K tg Ĭj [it] it (λi h=>Ũn it a i) where
 mem:=by simp
 obj:=λi h st b f=>by
  let e:b=it:=by simpa using f
  rw[Öq]
 Ũa:=λi h n st k=>st.at λo e=>k it ô o e
 ąb:=by
  rw[ļq];let{xs,x,l,t}:=B;let{g,L,p,T}:=àa l;let{u,Y,R}:=L.get t;let{y,C,S,r,q,G}:=m it ô;refine wpAny_pyNext_tuple_item st (show ćd a ϥi from p) (x:=u) ľm λn j Q=>?_
  let U:Inv X N σ H { s with ç:=n }:=ób (t':=ĕ) Ól y C r q G;let{o,e,c,d}:=id j;show{u,rfl,Ie (s:={ s with ç:=n }) e c d Ò {x,H,U,R,{rfl,λys Z=>by rw[I.Fk Z l];show t},j,λb f=>(m b f).1}}
 done:=by rw[ļq];let{xs,l,t}:=B;let{g,L,p,T}:=àa l;let{y,C,S,r,q,G}:=m it ô;let hl:=ϟ;show wpAny_pyNext_tuple_end (ģa O) st (show ćd a ϥi from p) ße λn eb=>{rfl,ób (t':=ĕ) Ōl y C r q G}
 Ðc:=λ_ _ _ _ _ st h=>wpAny_pyIter_tupleiter st h
def x80{P:ï}{w:æ}{K:Ďi}{tg:Ö}(it:Ë)(lo:Æ)(n:Â):YQ P w K tg ϩp [it] it (λi h=>Ĳo h it (lo+(i:Â)*1) ((n:Æ)-(i:Â)) 1) where
 mem:=by simp
 obj:=λi h st b a=>by
  let e:b=it:=by simpa using a
  subst e
  show{_,st,λv z=>by let F:Data.fields _=Data.cell v:=z;cases F}
 Ũa:=λi h f st k=>k it ô _ st
 ąb:=by
  rw[ðq];let W:=Walks.range (ă:=ö) (w:=X.w) (ģa x) it lo 1 n;show W.item i s _ _ p st λv f B J c C=>?_
  let{t,rfl}:=J;let L:Inv X A σ H { s with ç:=f,Ė:=B }:=ób (λb o a e=>C b o ăf e) l q j g u;refine{_,rfl,Ie (s:={ s with ç:=f,Ė:=B }) (n := "range_iterator") c rfl rfl Ò {.int Äb,H,L,{t,?_},{rfl,rfl},c,λb a=>(d b a).1}};rw[Ĵo]
 done:=by rw[ðq];show wpAny_pyNext_range_end (ģa x) st (by let:n<=i:=p;omega) λf N=>{rfl,ób (t':=ĕ) (λb o a e=>N b o a e) l q j g u}
 Ðc:=λ_ _ _ _ _ st h=>wpAny_pyIter_rangeiter st h
section
variable{X:Cx}{tg:Ö}
def y05(K:Ô)(c:TE):TI:=λσ H R=>c σ H λx b=>∃a,x=.ref a/\(∃xs,yZ K b a xs)/\R ĭj b
def y08(K:Ô)(c:TE):TI:=λσ H R=>c σ H λx b=>∃a,x=.ref a/\(∃xs,xR K b a xs)/\R Ĭj b
def y9m{l:Ö}{g:TE}(u:PE X l g):PI X tg l (y05 X.K g):=by
 intro n s σ H R I h;show zy (u n s σ H _ I h) λv d f=>?_
 let{x,k,c,m,i}:=f;let{a,e,{w,j},q}:=i;subst e;cases m;let{t,z,p,y}:=c.list j;show Ýd Ög ?_;show{ød,[ød],_,_,k,rfl,c.kept (t':=d.toks) λb o e=>ě _ e,x7z a _,{_,Ÿ _ rfl,rfl,rfl},λb r=>?_,q};let e:b=ød:=by simpa using r
 subst e;show c.Wn Ď (c.zi.fresh Ď)
def nV{l:Ö}{i:TE}(u:PE X l i):PI X tg l (y08 X.K i):=by
 intro r s σ H R I h;show zy (u r s σ H _ I h) λv c f=>?_
 let{x,m,d,n,j}:=f;let{a,e,{w,k},q}:=j;subst e;cases n;let{g,z,p,y}:=d.tuple k;show Þh (show c.heap.IsTuple a ϥi from p) ?_;show{Ūh,[Ūh],_,_,m,rfl,d.kept (t':=c.toks) λb o e=>ě _ e,x82 a _,{_,Ÿ _ rfl,rfl,rfl},λb t=>?_,q};let e:b=Ūh:=by simpa using t
 subst e;show d.Wn Ď (ŧi Ď)
def x1g{c:Á õ}{σ:St}{H:Hp}{s:Í}{R:It->Hp->È}{E:Value->Í->È}{lo hi:Æ}{t u v:Tok}{tk:Â}(I:Inv X c σ H s)(g : -įj<=lo)(d:lo<2 ^ 62)(i : -įj<=hi)(h:hi<2 ^ 62)(q:R (Lx lo (įg).toNat) H):Ù Ą X.A (Ūd Ğa) (CP X c σ tg R) E { s with ç:=Üa { cls:=.type Ţa,Ċ:=.fields #[.int lo t,.int hi u,.int 1 v] },Ė:=tk }:=by
 show wpAny_pyIter_range (ĳo ..) (small_one g d i h) ?_;let a:Inv X c σ H { s with ç:=Üa { cls:=.type Ţa,Ċ:=.fields #[.int lo t,.int hi u,.int 1 v] },Ė:=tk }:=Ųd λb o e=>ě _ e
 refine⟨(Ÿg).objs.size,[(Ÿg).objs.size],_,_,H,rfl,
  a.kept (t':=tk) λb o e=>ě _ e,x80 _ lo (įg).toNat,?_,λb f=>?_,q⟩
 let e1:lo+((0:Â):Æ)*1=lo:=by simp
 let e2:(((įg).toNat:Â):Æ)-((0:Â):Æ)=Úf lo hi 1:=by rw[rangeSize_one];split<;>omega
 exact Ĳo _ _ (lo+((0:Â):Æ)*1) ((((įg).toNat:Â):Æ)-((0:Â):Æ)) 1;rw[e1,e2];show Ÿ _ rfl;let e:b=(Ÿg).objs.size:=by simpa using f
 subst e;show a.Wn Ď (a.zi.fresh Ď)
def y06(b:TA):TI:=λσ H R=>b σ H λc a=>∃j:Æ,c=[.int j] /\ -įj<=j/\j<2 ^ 62/\R (Lx 0 Åa) a
def y9n{a:Ö}{d:TA}{p pos:Pos}(l:Gl X Ţa)(m:ð Ţa=Å)(n:PA X [a] d)(g:Î ϸk q12):PI X tg äm (y06 d):=by
 intro k s σ H R I h;show Call_ (Tk I l m Ϡo (Åf (zy (n pos k s σ H _ I h) λx v c=>?_) g rfl));let{u,w,f,i,b}:=c;let{j,e,b,o,q}:=b;subst e;cases i with
 |ñ r rr=>cases rr;let{t,rfl}:=r;show Ϻn (x1g f Ê Ê b o (by simpa using q))
nonrec def x5v(c:TI)(g:TG)(d:TS):TS:=λD σ H=>c σ H λJ b=>∃W:Â->Â->St->Hp->È,(∃m,W 0 m σ b)/\∀i m σ H,W i m σ H->
 (ŉg i H/\Ðb σ H)\/(J.go i H/\∃N:St->Hp->È,(∀σ' H',N σ' H'->∃m',m'<m/\W í m' σ' H')/\∀x H',J.tm i H x H'->g x σ H' λσ2 a=>d { D with nx:=N,ct:=N,bk:=Ðb } σ2 a)
nonrec def OM(a:Á Ë)(h:Heap):Á õ:=a.filterMap λb=>(Ģ b).map λo=>(b,o)
def BE{a:Á Ë}{h:Heap}{b:Ë}{o:Obj}(c:b∈a)(e:Ģ b=À o):(b,o)∈OM a h:=List.mem_filterMap.mpr {b,c,by rw[e];rfl}
def y57{a:Á Ë}{h:Heap}{p:Ë×Obj}(c:p∈OM a h):p.1∈a/\Ģ p.1=À p.2:=by
 let{b,d,e}:=ŵl c;cases q:Ģ b with
 |Å=>rw[q]at e;cases e|À o=>rw[q]at e;let f:(b,o)=p:=Ϣ e;subst f;show{d,q}
def Inv.pinned{a:Á õ}{σ:St}{H:Hp}{s:Í}{c:Á Ë}(I:Inv X a σ H s)(k:∀b∈c,gK X a H b)(j:∀b∈c,∃o,ø b=À o/\∀v,ϵ≠.cell v):Inv X (a++OM c â) σ H s:=
 I.J8 λp h=>(ύ h).elim (λz=>ňa p ūp) λz=>by let{f,e}:=y57 z;let{i,m,l,_}:=k p.1 f;let{o,g,d}:=j p.1 f;rw[e]at g;cases g;show{e,i,m,l,d}
def Inv.Fm{a pl:Á õ}{σ:St}{H:Hp}{s:Í}(I:Inv X (a++pl) σ H s):Inv X a σ H s:=I.J8 λp b=>ňa p (Ĭa _ (Ÿb _ b))
def BW{j:Ö}{y:Á Ü}{wi:TI}{g:TG}{tb:TS}{pos:Pos}(C:Ϥb Ą X.A Û İ)(hc:ŷ=Ã)(hi:PI X tg j wi)(hg:PG X tg g)(p:ul X y tb)(hs:Î (∀x,Úb j Û x=pure x) q11):PS X (.For tg j y [] pos) (x5v wi g tb):=by
 intro z s σ H D I h;show wpAny_For (zy (hi z s σ H _ I h) λv s1 h1=>zy h1 λitv s2 h2=>?_) hs;let{it,L,tn,J,H2,e,I2,T,Z,f2,W,{m0,w0},O}:=h2;subst e;let l:∀{H':Hp},(∀b∈L,H' b=Å)->∀b∈L,gK X z H' b:=λhn b p=>{hn b p,(f2 b p).2}
 show codeAny_forLoop_any (λn s'=>∃i σ' H',Inv X z σ' H' s'/\tn i Ϝc/\(∀b∈L,H' b=Å)/\W i n σ' H') ?_ m0 {0,σ,H2,I2,Z,λb p=>(f2 b p).1,w0};rintro n s3 ⟨i,σ3,Q,I3,K,E,w3⟩;rcases O i n σ3 Q w3 with⟨G,qn⟩|⟨go,N,hN,F⟩;show ńc C (ωd (T.done X rfl rfl rfl hc i z s3 σ3 Q İ I3 (l E) K G));let{U,I4}:=a;subst U;show ãf {σ3,Q,I4,qn}
 .show ńc C (ωd (T.item X rfl rfl rfl hc i z s3 σ3 Q İ I3 (l E) K go));let{u,U,h4}:=a;subst U;show ńc C (zy h4 λ_ s5 a=>?_);let{x,H5,I5,r5,y5,B,Y}:=a;let S:=I5.pinned (l Y) (ϗe _ _ B);show ńc C (zy (hg _ s5 σ3 H5 x u _ S r5 (F x H5 y5)) λ_ s6 a=>?_);let{σ6,H6,I6,q6}:=a;show ńc C (zy (p _ s6 σ6 H6 _ I6 q6) λf R t=>?_)
  let k:∀{σ7:St}{q:Hp},Inv X (z++OM L s5.heap) σ7 q R->N σ7 q->∃m,m<n/\∃i σ' H',Inv X z σ' H' R/\tn i R.heap/\(∀b∈L,H' b=Å)/\W i m σ' H':=λ{σ7 q} c P=>by let{m',hm,w7}:=hN σ7 q P;show{m',hm,i+1,σ7,q,c.Fm,űe _ _ _ B λb p o e=>Ÿk.1,λb p=>?_,w7};let{o,e,d}:=ϗe _ _ B b p;show Ÿk.2.1
  cases f with
  |next=>let{σ7,q,c,P}:=t;show k c P
  |Ôc=>let{σ7,q,c,P}:=t;show k c P
  |brk=>let{σ7,q,c,t}:=t;show{σ7,q,c.Fm,t}
  |ret v=>let{x7,σ7,q,c,r7,t}:=t;show{x7,σ7,q,c.Fm,r7,t}
#print a
abbrev R2:=V->V->Hp->VK->È
def xG(X:Cx)(f:Value->Value->Sem Value)(r:R2):È:=
 ∀(z8:Á õ) (s:Í) (σ:St) (H:Hp) (x y:V) (v u:Value) (Q:VK),Inv X z8 σ H s->yC x v->yC y u->r x y H Q->
  Ù Ą X.A Ϗj ŏb İ s
def Jq(X:Cx)(f:Value->Sem Value)(r:V->Hp->VK->È):È:=
 ∀(z8:Á õ) (s:Í) (σ:St) (H:Hp) (x:V) (v:Value) (Q:VK),Inv X z8 σ H s->yC x v->r x H Q->
  Ù Ą X.A (f v) ŏb İ s
def vg(X:Cx)(f:Value)(r:Á V->Hp->VK->È):È:=
 ∀(z8:Á õ) (s:Í) (σ:St) (H:Hp) (xs:Á V) (us:Á Value) (Q:VK),Inv X z8 σ H s->zo xs us->r xs H Q->
  Ù Ą X.A (Ļb f us) ŏb İ s
nonrec def DE(r:R2)(b c:TE):TE:=λσ H Q=>b σ H λx a=>c σ a λy d=>r x y d Q
nonrec def x6f(r:V->Hp->VK->È)(b:TE):TE:=λσ H Q=>b σ H λx a=>r x a Q
nonrec def rI(C:Æ->Æ->È)(g:Æ->Æ->V):R2:=λx y H Q=>∃i j,x=.int i/\y=.int j/\C i j/\Q ϸa H
nonrec def pq(g:Æ->Æ->V):R2:=λx y H Q=>∃i j,x=.int i/\y=.int j/\Q ϸa H
def rU(g:Æ->V):V->Hp->VK->È:=λx H Q=>∃i,x=.int i/\Q ϒd H
section
variable{X:Cx}{a b c:Ö}{ta tb:TE}{pos:Pos}
def GA(o:PE X a ta)(m:PE X b tb){d:Á õ}{s:Í}{σ:St}{H:Hp}{R:V->V->Hp->È}(I:Inv X d σ H s)(h:ta σ H λx H1=>tb σ H1 λy H2=>R x y H2){Q:Value->Í->È}{f:Value->Value->Sem Value}(i:∀v u s2 x y H2,Inv X d σ H2 s2->yC x v->yC y u->R x y H2->Ù Ą X.A Ϗj Q İ s2) :Ù Ą X.A Őo (λv s₁=>Ù Ą X.A (ĩ b Û) (λu s₂=>Ù Ą X.A Ϗj Q İ s₂) İ s₁) İ s:=by
 show zy (o d s σ H _ I h) λv j c=>?_
 let{x,H1,g,k,e}:=c;show zy (m d j σ H1 _ g e) λu s2 c=>?_
 let{y,H2,l,n,p}:=c;show i v u s2 x y H2 l k n p
def NX{c:Łd}{r:R2}(f:xG X (ϭa c) r)(m:PE X a ta)(j:PE X b tb):PE X (.BinOp a c b pos) śf:=by rw[Øq];show wpAny_BinOp (GA m j I h λv u d x y l g k e q=>f i d σ l x y v u Q g k e q)
def y9e{c:UnaryOp}{r:V->Hp->VK->È}(f:Jq X (ćg c) r)(k:PE X a ta):PE X (.UnaryOp c a pos) (x6f r ta):=by rw[ēq];show UnaryOp_ (zy (k d s σ H _ I h) λv l b=>?_);let{x,g,j,i,e}:=b;show f d l σ g x v Q j i e
def T_{f:Value->Value->Sem Value}{C:Æ->Æ->È}{g:Æ->Æ->Æ}(a:∀(i j:Æ)(t u:Tok)(s:Í)(Q:Value->Í->È)(E:Value->Í->È),C i j->Q ŕn { s with Ė:=ĕ+1 }->Ù Ą X.A Üh Q E s) :xG X f ţl:=by intro k s σ H x y v u Q I e c h;let{i,j,rfl,rfl,b,q}:=h;let{t,rfl}:=e;let{d,rfl}:=c;show a i j t d s _ _ b {.int ϸa,H,Óa _,{_,rfl},q}
def OH{f:Value->Value->Sem Value}{g:Æ->Æ->Æ}(a:∀(i j:Æ)(t u:Tok)(s:Í)(Q:Value->Í->È)(E:Value->Í->È),Q ŕn { s with Ė:=ĕ+1 }->Ù Ą X.A Üh Q E s) :xG X f ŕp:=by rw[çq];show a i j t c s _ _ {.int ϸa,H,Óa _,{_,rfl},q}
def BM{f:Value->Value->Sem Value}{g:Æ->Æ->Ð}(a:∀(i j:Æ)(t u:Tok)(s:Í)(Q:Value->Í->È)(E:Value->Í->È),Q (.bool ϸa) s->Ù Ą X.A Üh Q E s) :xG X f þm:=by rw[çq];show a i j t c s _ _ {.bl ϸa,H,I,rfl,q}
def Fn(i j:Æ):È:=0<=j/\j<=1000000/\Ŀd<2 ^ 64
def JB(i j:Æ):È:=(-úg<i/\i<2 ^ 64)\/(-úg<j/\j<2 ^ 64)
def JB.ok{i j:Æ}(h:JB i j):IntMulOk i j:=by rcases h with⟨b,a⟩|⟨b,a⟩;show .of_left Ām;show .of_right Ām
def x86(k:Â):(0:Æ)<=2 ^ k:=by rw[two_pow_cast];show ŵb _
def y7u:xG X ĩd (Εa (i+j)):=OH λ_ _ _ _ _ _ _ q=>ϴ q
def Zs:xG X (ϭa .Sub) őo:=OH λ_ _ _ _ _ _ _ q=>sub_int q
def OJ:xG X ŉi Ûh:=T_ λ_ _ _ _ _ _ _ a q=>mul_int q a.ok
def xZ:xG X (ϭa .Mod) İl:=T_ λi j _ _ _ _ _ a q=>by let b:(0:Æ)<j:=a;show mod_int' Ê (by rw[Int.fmod_eq_emod_of_nonneg i Ê];show q)
def Z1:xG X (ϭa .LShift) Âl:=T_ λ_ _ _ _ _ _ _ a q=>lshift_int_small a.1 a.2.1 a.2.2 q
def nF:xG X (ϭa .RShift) ϴk:=T_ λi j _ _ _ _ _ a q=>
 rshift_int a (by rw[Ăl i (x86 _)];show q)
def OI:xG X (ϭa .BitAnd) (Εa (Ĳa i j)):=OH λ_ _ _ _ _ _ _ q=>and_int q
def Z0:xG X (ϭa .BitOr) (Εa (ϣa i j)):=OH λ_ _ _ _ _ _ _ q=>or_int q
def y8c:xG X (ϭa .BitXor) (Εa (ϵh i j)):=OH λ_ _ _ _ _ _ _ q=>xor_int q
def z0x{f:Value->Sem Value}{g:Æ->Æ}(a:∀(i:Æ)(t:Tok)(s:Í)(Q:Value->Í->È)(E:Value->Í->È),Q (.int ϒd ĕ) { s with Ė:=ĕ+1 }->Ù Ą X.A (f ϛf) Q E s) :Jq X f (Ηc ϒd):=by intro c s σ H x v Q I b h;let{i,rfl,q}:=h;let{t,rfl}:=b;show a i t s _ _ {.int ϒd,H,Óa _,{_,rfl},q}
def QO:Jq X (ćg .USub) (Ηc (-i)):=z0x λ_ _ _ _ _ q=>neg_int q
def z10:Jq X (ćg .Invert) (Ηc ŭj):=z0x λ_ _ _ _ _ q=>invert_int q
def y7v:xG X ĩd (λx y H Q=>∃i k,x=.int i/\y=.bl k/\Q än H):=by intro c s σ H x y v u Q I b a h;let{i,k,rfl,rfl,q}:=h;let{t,rfl}:=b;cases a;show add_int_bool {.int (i+b2i k),H,Óa _,{_,rfl},q}
#print a
nonrec def S8:V->V->Ð
 |.zO,.zO=>Ã|.zO,.int _=>Ã|.int _,.zO=>Ã|.zO,.bl _=>Ã|.bl _,.zO=>Ã|.zO,.str _=>Ã|.str _,.zO=>Ã|.int _,.int _=>Ã|.bl _,.bl _=>Ã|.str _,.str _=>Ã|.byt _,.byt _=>Ã|.int _,.str _=>Ã|.str _,.int _=>Ã|.bl _,.str _=>Ã|.str _,.bl _=>Ã|_,_=>Ä
def x0y:R2:=λx y H Q=>S8 x y=Ã/\Q (ι (x=y)) H
def x15:R2:=λx y H Q=>S8 x y=Ã/\Q (ν (x=y)) H
def GP{i j:Æ}:decide (ÿb i=ÿb j)=że:=by rw[Ŝc];simp
def GO{i j:Ð}:decide (V.bl i=V.bl j)=że:=by rw[Ŝc];simp
def GQ{i j:Ç}:decide (Ōg i=Ōg j)=że:=by rw[Ŝc];simp
def fG{i j:Ú UInt8}:decide (V.byt i=V.byt j)=(i.toList==j.toList):=by rw[Ŝc];cases i;cases j;simp
section
variable{X:Cx}{a b c:Ö}{ta tb:TE}{pos:Pos}
def wg{a:Á õ}{σ:St}{H:Hp}{s:Í}{Q:VK}{k b:Ð}(I:Inv X a σ H s)(q:Q Šd H)(e:k=b):EP X a σ Q Ñg s:=by subst e;show{.bl k,H,I,rfl,q}
def y7y:xG X Ŝp x0y:=by
 rw[Őq];cases x with
 |zO=>
  cases d;cases y with
  |zO=>cases a;show PySem.EqNone.eq_none_none Ìa|bl j=>cases a;show PySem.EqNone.eq_none_bool Ìa|int j=>let{b,rfl}:=a;show PySem.EqNone.eq_none_int Ìa
  |str j=>let{b,rfl}:=a;show PySem.EqNone.eq_none_str Ìa
  |_=>show Þ (show Ä=Ã from c) Ħ
 |bl i=>
  cases d;cases y with
  |zO=>cases a;show PySem.EqNone.eq_bool_none Ìa|bl j=>cases a;show eq_bool (wg I q GO)|str j=>let{b,rfl}:=a;show PySem.EqMixed.eq_bool_str Ìa
  |_=>show Þ (show Ä=Ã from c) Ħ
 |int i=>
  rw[Ūq];cases y with
  |zO=>cases a;show PySem.EqNone.eq_int_none Ìa|int j=>let{b,rfl}:=a;show ϩc (wg I q GP)
  |str j=>let{b,rfl}:=a;show PySem.EqMixed.eq_int_str Ìa
  |_=>show Þ (show Ä=Ã from c) Ħ
 |str i=>
  rw[Ūq];cases y with
  |zO=>cases a;show PySem.EqNone.eq_str_none Ìa|bl j=>cases a;show PySem.EqMixed.eq_str_bool Ìa|int j=>let{b,rfl}:=a;show PySem.EqMixed.eq_str_int Ìa
  |str j=>let{b,rfl}:=a;show eq_str (wg I q GQ)
  |_=>show Þ (show Ä=Ã from c) Ħ
 |byt i=>
  rw[Ūq];cases y with
  |byt j=>let{b,rfl}:=a;show W.eq_bytes (wg I q fG)
  |_=>show Þ (show Ä=Ã from c) Ħ
 |_=>cases y<;>show Þ (show Ä=Ã from c) Ħ
def y86:xG X ęi x15:=by
 rw[Őq];cases x with
 |zO=>
  cases d;cases y with
  |zO=>cases a;show PySem.EqNone.ne_none_none Ìa|bl j=>cases a;show PySem.EqNone.ne_none_bool Ìa|int j=>let{b,rfl}:=a;show PySem.EqNone.ne_none_int Ìa
  |str j=>let{b,rfl}:=a;show PySem.EqNone.ne_none_str Ìa
  |_=>show Þ (show Ä=Ã from c) Ħ
 |bl i=>
  cases d;cases y with
  |zO=>cases a;show PySem.EqNone.ne_bool_none Ìa|bl j=>cases a;show ne_bool (wg I q (ķ not GO))|str j=>let{b,rfl}:=a;show PySem.EqMixed.ne_bool_str Ìa
  |_=>show Þ (show Ä=Ã from c) Ħ
 |int i=>
  rw[Ūq];cases y with
  |zO=>cases a;show PySem.EqNone.ne_int_none Ìa|int j=>let{b,rfl}:=a;show ne_int (wg I q (ķ not GP))
  |str j=>let{b,rfl}:=a;show PySem.EqMixed.ne_int_str Ìa
  |_=>show Þ (show Ä=Ã from c) Ħ
 |str i=>
  rw[Ūq];cases y with
  |zO=>cases a;show PySem.EqNone.ne_str_none Ìa|bl j=>cases a;show PySem.EqMixed.ne_str_bool Ìa|int j=>let{b,rfl}:=a;show PySem.EqMixed.ne_str_int Ìa
  |str j=>let{b,rfl}:=a;show ne_str (wg I q (ķ not GQ))
  |_=>show Þ (show Ä=Ã from c) Ħ
 |byt i=>
  rw[Ūq];cases y with
  |byt j=>let{b,rfl}:=a;show W.ne_bytes (wg I q (ķ not fG))
  |_=>show Þ (show Ä=Ã from c) Ħ
 |_=>cases y<;>show Þ (show Ä=Ã from c) Ħ
def W5:xG X (ķa .Lt) (Γb (i<j)):=BM λ_ _ _ _ _ _ _ q=>lt_int q
def y84:xG X (ķa .LtE) (Γb (i<=j)):=BM λ_ _ _ _ _ _ _ q=>le_int q
def y80:xG X (ķa .Gt) (Γb (j<i)):=BM λ_ _ _ _ _ _ _ q=>gt_int q
def y7z:xG X (ķa .GtE) (Γb (j<=i)):=BM λ_ _ _ _ _ _ _ q=>ge_int q
def y83:xG X Ģe (εc ïl):=by rw[èq];show in_str (wg I q rfl)
def BN:xG X (ķa .Is) èm:=by
 rw[ħq];show is_none_gen ũo
 cases x<;>first
  |(cases a;rfl)
  |(let{t,rfl}:=a;rfl)
def nE:xG X (ķa .IsNot) çm:=by
 rw[ħq];show isnot_none_gen ũo
 cases x<;>first
  |(cases a;rfl)
  |(let{t,rfl}:=a;rfl)
def xG.or{f:Value->Value->Sem Value}{r c:R2}(h:xG X f r)(h':xG X f c):xG X f (λx y H Q=>r x y H Q\/c x y H Q):=by intro a s σ H x y v u Q I b d q;rcases q with q|q;show h a s σ H x y v u Q I b d q;show h' a s σ H x y v u Q I b d q
def yI(b:Ö){a:CmpOp}(h:Î (a≠.In) q10)(c:Î (a≠.NotIn) q10):ťc a b=Ä:=by
 let e1:(a==CmpOp.In)=Ä:=by cases a<;>first|rfl|show Þ rfl h
 let e2:(a==CmpOp.NotIn)=Ä:=by cases a<;>first|rfl|show Þ rfl c
 cases b<;>simp[ťc,e1,e2]
theorem y8z{c:CmpOp}{r:R2}(f:xG X (ķa c) r)(n:PE X a ta)(j:PE X b tb)(m:ťc c b=Ä):PE X (.Compare a [c] [b] pos) śf:=by rw[Øq];show wpAny_Compare1 (GA n j I h λv u d x y l g k e q=>f i d σ l x y v u Q g k e q) m
nonrec def x6d(t:TE):TT:=λσ H Q=>t σ H λx a=>∃k,x=.bl k/\Q k a
def oH{j:CmpOp}{r:R2}(n:xG X (ķa j) r)(L:PE X a ta)(p:PE X b tb)(t:ťc j b=Ä):PT X (.Compare a [j] [b] pos) (x6d śf):=by
 rw[Øq];show wpAny_isTrue_Compare1 (zy (L i s σ H _ I h) λv m g=>?_) t;let{x,E,A,F,l}:=g;show zy (p i m σ E _ A l) λu B f=>?_
 let{y,K,o,J,N}:=f;show zy (n i B σ K x y v u _ o F J N) λc O d=>?_
 let{z,w,G,q,k,e,C}:=d;subst e;cases q;show Ϧd {w,G,C}
def Tl:(å:Â)<2 ^ 63:=by rw[Ů];decide
def y7w:xG X ĩd (λx y H Q=>∃i j,x=.str i/\y=.str j/\ϰb+Şa<=å/\Q ϭn H):=by intro f s σ H x y v u Q I c a h;let{i,j,rfl,rfl,d,q}:=h;let{t,rfl}:=c;let{b,rfl}:=a;show ŕe (λb e=>{.str (i++j),H,Óa _,{_,rfl},q}) d
def qL{x:V}{us:Á Value}(r:zo [x] us):∃u,us=[u]/\yC x u:=by
 cases r with
 |ñ r1 r2=>cases r2;show{_,rfl,r1}
def A0{x y:V}{us:Á Value}(r:zo Ïc us):∃u w',us=[u,w']/\yC x u/\yC y w':=by
 cases r with
 |ñ r1 r2=>
  cases r2 with
  |ñ r3 r4=>cases r4;show{_,_,rfl,r1,r3}
#print a
structure VF(h:Heap)(x dx C:Ë)(mA:Ç->É Value):È where
 obj:Ģ x=À ϱo
 ns:Ţg dx mA
 ne:dx≠x
def y2i{h:Heap}{d:Ë}{f:Ç->É Value}(n:Ţg d f):∃od,Ģ d=À od/\∀Ĵ,àg Ĵ od=À (f Ĵ):=by
 let{o,c,p,j,g,m,_,l}:=n;show{o,j,λname=>?_};let e:=l Ĵ;unfold nsFind findBy at e;rw[<-Array.find?_toList]at e;unfold àg;rw[g];rw[Ûq]
 split;rename_i y q;rw[q]at e;show ķ À e;rename_i q;rw[q]at e
 let a:Ào (·.refKey)=Ä:=by rw[Şm];intro y i;let{z,t,b}:=m y (Array.mem_toList_iff.mp i);simp[DictEntry.refKey,b]
 let k:¬ Ào (·.refKey)=Ã:=by rw[a];show Ħ
 rw[Ñ k];show ķ À e
def VF.look{h:Heap}{x a C:Ë}{b:Ç->É Value}(I:VF h x a C b):∃od,W.InstAt h x (Ćf C a) C (À od)/\∀Ĵ,àg Ĵ od=À (b Ĵ):=
 let ⟨od,ho,hl⟩:=y2i I.ns
 {od,{I.obj,rfl,rfl,ho},hl}
section
variable{ă:ï}{w:æ}{A:ù}{E:Value->Í->È}{s:Í}{K:Ô}{x dx C f:Ë}{mA:Ç->É Value}{Ĵ:Ç}{v:Value}
def z7h{a:Ð}{Q:Value->Í->È}(X:Ž â)(I:VF â x dx C mA)(c:ďe K C Ĵ=Ã)(e:şf K C=Ã)(d:şa K Ū Ĵ=À Å)(hv:mA Ĵ=À v)(b:Ϧo v=Ã)(h:Q v { s with Ė:=ĕ+1 }) :Ù è A (őj ŉd Ĵ a) Q E s:=by let{g,J,f}:=Ϸj;show W.get_value X J (Ûi c).1 (W.findObj_own e d rfl (by rw[f,hv])) b h
def z7i{pl:Sem Ð}{Q:Value×Á Value->Í->È}(X:Ž â)(I:VF â x dx C mA)(a:ďe K C Ĵ=Ã)(d:şa K Ū Ĵ=À řa)(c:Űe K ī=Ã)(hv:mA Ĵ=Å)(h:Q (.ref f,[.ref x]) s) :Ù è A (Ėp ŉd Ĵ pl) Q E s:=by let{b,J,e}:=Ϸj;show W.method_fn X J (Ûi a).1 (Ûi a).2 d (Ĺf c) (by exact(àg Ĵ b).map (·.isSome)=À Ä;rw[e,hv];rfl) h
def x40{ns:Á Ç}{Q:ña->Í->È}(X:Ž â)(I:VF â x dx C mA)(o:şa K Ū Òi=À ϝg)(n:Ľi K C=Ã)(p:ϯi K C Ĵ=À Å)(m:şf K C=Ã)(t:či mA ns)(hsz:ť<=å)(h:∀h',VF h' x dx C (λy=>if y=Ĵ then À v else mA y)->ŷa dx â h'->Q () { s with ç:=h',Ė:=ĕ+2 }) :Ù è A (setAttr ŉd Ĵ v) Q E s:=by
 let{u,J,F}:=Ϸj;show W.set_plain X J o (W.osa_open (s:={ s with Ė:=ĕ+1 }) (r:=Å) X J n p λb=>?_);let{B,k,f}:=W.any_some m;let l:ø x=À {.ref C,À dx,.plain,#[]}:=I.obj;show Ó (χ (Ó (wpAny_loadPart l (Ó (W.Looks.here (s:={ s with Ė:=ĕ+1 }) (W.looks_clsIn X k) ?_)))));rw[f];show ó (a:=À dx) (Ó Ëj);show wpAny_nsSet1 (s:={ s with Ė:=ĕ+1 }) I.ns λh' d c=>?_
 let{z,q,j,i,g,e}:=d.count (PySem.Within.cons Ĵ v t);refine Ó (wpAny_lookBehind i (by rw[g];show pastItsLine_dict (ý e Łm)) ?_);show ó (h _ {(c.2 _ (ŧb I.ne)).trans I.obj,d,I.ne} c)
def y2p{R:Űd->Í->È}{vs:Á Value}{b:Á üc}(X:Ž â)(e:Ϯf K C=Ã)(hi:şa K Ū éb=À řa)(c:W.typeIn K ī=À (.type "function"))(h:ĭb è (A.under (.builtin Ìn {.ref C::vs,b})) (.call ī {.ref ľa::vs,b}) (W.InitBack ľa R)
   { s with ç:=(õd).push Ŧf }) :
  ĭb è A (.call Ū {vs,b}) R s:=by
 let{j,g,d,t,i}:=s;show W.make_core (W.makes_of X e) (W.looks_findIn X hi) (λa=>W.bind_fn X a c) Ť h
#print a
nonrec def ĺb(f:Ç)(v:V):Á Ťb->Á Ťb
 | []=>[(f,v)]|(g,x)::r=>if g=f then(g,v)::r else(g,x)::ĺb f v r
theorem m5(f g:Ç)(v:V):∀fs:Á Ťb,(Ņf).lookup g=if g=f then À v else Āc g
 | []=>by exact ůc g [(f,v)]=_;by_cases h:g=f;let a:(g==f)=Ã:=ώb h;simp only[ůc,a,Ï h];let a:(g==f)=Ä:=Òb h;simp only[ůc,a,Ñ h]|(k,x)::r=>by let b:=m5 f g v r;rw[show ĺb f v ϐi=ϔg from rfl];by_cases hk:k=f;rw[Ï hk];by_cases h:g=k;let a:řg=Ã:=ώb h;simp only[ůc,a,Ï (čg hk)];let a:řg=Ä:=Òb h;simp only[ůc,a,Ñ (λe:g=f=>h (ĕc hk.symm))];rw[Ñ hk];by_cases h:g=k;let a:řg=Ã:=ώb h;simp only[ůc,a,Ñ (λe:g=f=>hk (ùh e))];let a:řg=Ä:=Òb h;simp only[ůc,a];show b
theorem Ko(f:Ç)(v:V):∀fs:Á Ťb,f∈(Ņf).map (·.1)/\∀g,g∈Ϣc (·.1)->g∈(Ņf).map (·.1)
 | []=>{by simp[ĺb],λg h=>by simp at h}|(k,x)::r=>by let{a,b}:=Ko f v r;rw[show ĺb f v ϐi=ϔg from rfl];by_cases hk:k=f;rw[Ï hk];subst hk;show{by simp,λg h=>by rw[ťq]};rw[Ñ hk];show{?_,λg h=>?_};rw[Ļ];show ŏ _ a;rw[Ļ]at h ⊢;rcases Ğ h with e|e;show List.mem_cons.mpr Ļj;show ŏ _ (b g e)
theorem l_(f:Ç)(v:V):∀fs:Á Ťb,(Ņf).length<=ŕa+1
 | []=>by simp[ĺb]|(k,x)::r=>by let a:=l_ f v r;rw[show ĺb f v ϐi=ϔg from rfl];by_cases hk:k=f;rw[Ï hk,Ć,Ć];omega;rw[Ñ hk,Ć,Ć];omega
def źf{v:V}{o:É Value}(r:tz Äa o):∃u,o=À u/\yC v u:=by
 cases o with
 |Å=>show(show Ā from r).elim|À u=>show{u,rfl,r}
def ϓo{o:É Value}(r:tz Å o):o=Å:=by
 cases o with
 |Å=>rfl|À u=>show(show Ā from r).elim
def z9y{v:V}{u:Value}(r:yC v u):Ϧo u=Ã:=by
 cases v with
 |zO=>cases(show u=ϫa from r);rfl|bl b=>cases(show u=żf b from r);rfl|int i=>let{t,e}:=(show ∃t,u=ϣb i t from r);cases e;rfl
 |str x=>let{t,e}:=(show ∃t,u=şb x t from r);cases e;rfl
 |byt b=>let{t,e}:=(show ∃t,u=ĩo b t from r);cases e;rfl
 |Wm b=>let{t,e}:=(show ∃t,u=ŀi b t from r);cases e;rfl
 |ref a=>cases(show u=ę a from r);rfl|ty n=>cases(show u=ϟb n from r);rfl
section
variable{P:ï}{w:æ}{H:Hp}{h:Heap}{a C dx:Ë}{fs:Á Ťb}
def Ms(c:wY P w H h)(e:H a=À ĝb):∃mA,VF h a dx C mA/\(∀f,tz ťj Îk)/\či mA (Ϣc (·.1))/\ŕa<=1000/\H dx=À Ōe:=by let{d,z,g,b,mA,n,r,q}:=(show xo P w H h a ĝb from c a _ e);show{mA,{b,n,g},r,q,z,d}
#print a
structure qO(K:Ô)(C:Ë):È where
 pg:ďe K C ϴi=Ã
 hd:şf K C=Ã
 po:Ľi K C=Ã
 sa:şa K Ū Òi=À ϝg
def qO.get{K:Ô}{C:Ë}(c:qO K C)(f:Ç):ďe K C f=Ã:=c.pg
def Xm(K:Ô)(C:Ë)(f:Ç):È:=şa K Ū f=À Å
def Xm.z3e{K:Ô}{C:Ë}{f:Ç}(n:Xm K C f):ϯi K C f=À Å:=by unfold ϯi;rw[show şa K Ū f=À Å from n];rfl
structure Lz(K:Ô)(C:Ë)(m:Ç)(f:Ë):È where
 at_:şa K Ū m=À řa
 fn:Űe K ī=Ã
 kp:Þa K ī=Ã
section
variable{X:Cx}{z8:Á õ}{σ:St}{H:Hp}{s:Í}{a C dx:Ë}{fs:Á Ťb}{f:Ç}{v:V}{A:ù}{E:Value->Í->È}
def iK{b:Ð}{Q:Value->Í->È}(I:Inv X z8 σ H s)(e:H a=À ĝb)(c:qO X.K C)(n:Xm X.K C f)(l:Āc f=À v)(h:∀u s',Inv X z8 σ H s'->yC v u->Q u s'):Ù Ą A (őj Ŗ f b) Q E s:=by let{g,O,r,_,_,_}:=Ms ĝ e;let{u,i,d}:=źf (v:=v) (o:=g f) (by rw[<-l];show r f);show z7h Ϝ O (c.get f) c.hd n i (z9y d) (h u _ Çc d)
def iL{m:Ç}{g:Ë}{pl:Sem Ð}{Q:Value×Á Value->Í->È}(I:Inv X z8 σ H s)(e:H a=À ĝb)(c:qO X.K C)(k:Lz X.K C m g)(l:Āc m=Å)(h:Q (.ref g,Ϯ) s):Ù Ą A (Ėp Ŗ m pl) Q E s:=by let{b,O,r,_,_,_}:=Ms ĝ e;have d:b m=Å:=ϓo (by rw[<-l];show r m);show z7i Ϝ O (c.get m) k.at_ k.fn d h
def sS{y:V}{u:Value}{Q:ña->Í->È}(I:Inv X z8 σ H s)(e:H a=À ĝb)(c:qO X.K C)(n:Xm X.K C f)(G:ŕa<1000)(p:yC y u)(h:∀s',Inv X z8 σ (ze H a Ĥl) s'->Q () s'):Ù Ą A (setAttr Ŗ f u) Q E s:=by
 let{i,O,r,k,_,j}:=Ms ĝ e;let F:(Ϣc (·.1)).length<=å:=by rw[ã,Ů];omega
 show x40 Ϝ O c.sa c.po n.z3e c.hd k F λB d m=>h _ ?_
 let l:∃o,B.get? dx=À o:=let ⟨o,_,_,e',_⟩:=d.ns;{o,e'};refine Ēg (x:=a) (e:=dx) Īh (.inr j) (λb q t z=>(m.2 b t).trans z) l ?_;refine{by rw[yH O.ne];show j,?_,O.ne,d.obj,_,d.ns,λg=>?_,λg v=>?_};let:=l_ f y fs;omega;exact tz ((ĺb f y fs).lookup g) ìl;rw[m5];by_cases q:g=f;rw[Ï q,Ï q];show p;rw[Ñ q,Ñ q];show r g;by_cases q:g=f;rw[q];show źo.1;show źo.2 g (k g λz=>v ?_);exact ìl=Å;rw[Ñ q];show z
def Inv.made(I:Inv X z8 σ H s):Inv X z8 σ (ze (ze H Ý (.own ľa)) ľa (.ins C Ý [])) { s with ç:=(õd).push Ŧf }:=by
 let e1:(õd).get? Ý=À Ŀi:=Ÿ â rfl
 let e2:((õd).push Ŧf).get? (Ý+1)=À Ŧf:=by
  let:=Ÿ õd (o:=Ćf C Ý) rfl
  rwa [Ϧa]at this
 let h:(õd).Ns Ý Ĉc:={Ŀi,#[],_,e1,rfl,(λe g=>Þ g ô),λ_=>rfl};let d:=ϖa (a:=Ý) (o:=.own ľa) (h':=Üa Ŀi) (t':=ĕ) ĺh Ď {_,e1};show Ϫj (a:=Ý+1) (o:=.ins C Ý []) (t':=ĕ) ĺh (Œb (Ϧa _ _)) ?_;let c:Ý≠Ý+1:=Ϟ ϟc;refine{by rw[yH c,yt],ŵ _,c,e2,λ_=>Å,(Heap.Ns1.of_empty h).at λo q=>ě _ q,λ_=>Źa,λy f=>Þ rfl f}
def z45{ă:ï}{w:æ}{env:Env}{e:Ö}{f:Ç}{pos:Pos}{s:Í}{Q:Value->Í->È}(a:Ėb e f env ŏo=ĩ e env)(h:Ù è A ŏo (λo s₁=>Ù è A (őj o f Ã) Q E s₁) E s):Ù è A (ĩ óf env) Q E s:=
 Attribute_any_ h (by rw[arm_eval_Attribute,a])
#print a
nonrec def x5u(K:Ô)(c:TE)(f:Ç):TE:=λσ H Q=>c σ H λx b=>∃a C dx fs v,x=.ref a/\b a=À ĝb/\qO K C/\Xm K C f/\Āc f=À v/\Q v b
def x2d(K:Ô)(d e:TE)(f:Ç):TS:=λD σ H=>e σ H λy c=>d σ c λx b=>∃a C dx fs,x=.ref a/\b a=À ĝb/\qO K C/\Xm K C f/\ŕa<1000/\
 Ðb σ (ze b a Ĥl)
def dE(X:Cx)(b:Łd)(a:V->V->Hp->VK->È):È:=
 ∀(z8:Á õ) (s:Í) (σ:St) (H:Hp) (x y:V) (u v:Value) (Q:VK),Inv X z8 σ H s->yC x u->yC y v->a x y H Q->Ù Ą X.A (Ϥi b u v) ŏb İ s
def x2e(K:Ô)(d e:TE)(h:V->V->Hp->VK->È)(f:Ç):TS:=λD σ H=>d σ H λx b=>∃a C dx fs v,x=.ref a/\b a=À ĝb/\qO K C/\Xm K C f/\Āc f=À v/\
 e σ b λy g=>h v y g λz c=>∃dx' fs',c a=À (.ins C dx' fs')/\fs'.length<1000/\Ðb σ (ze c a (.ins C dx' (ĺb f z fs')))
section
variable{X:Cx}{o e āb:Ö}{f:Ç}{pos ϓ tpos:Pos}{ta tv:TE}
def nQ(r:PE X e ta)(o:Ėb e f Û ôe=ĩ e Û):PE X óf (x5u X.K ta f):=by intro m s σ H Q I h;show z45 o (zy (r m s σ H _ I h) λu A b=>?_);let{x,j,d,p,a,C,y,B,v,g,t,c,n,l,q}:=b;subst g;obtain rfl:u=ę a:=p;show iK d t c n l λz w k i=>{v,j,k,i,q}
def x05(A:PE X o ta)(hv:PE X āb tv)(v:Ŵc āb (À Ôm) İd Û=pure Ä):PS X (.Assign ϯl āb pos) (x2d X.K ta tv f):=by
 intro e s σ H D I h;show plainObj_wpAny_Assign_Attribute (zy (hv e s σ H _ I h) λu g d=>?_) v;let{y,w,r,i,q}:=d;show zy (A e g σ w _ r q) λp G b=>?_
 let{x,L,j,k,a,C,E,F,t,m,c,n,l,B}:=b;subst t;obtain rfl:p=ę a:=k;show sS j m c n l i λJ z=>{σ,_,z,B}
def x06{k:Łd}{j:V->V->Hp->VK->È}(Y:PE X o ta)(hv:PE X āb tv)(i:dE X k j):PS X (.AugAssign ϡl k āb pos) (x2e X.K ta tv j f):=by
 intro g s σ H D I h;show wpAny_AugAssign_AttributeAny (zy (Y g s σ H _ I h) λA s1 b=>?_);let{x,Q,F,t,a,C,dx,fs,v,L,w,c,n,l,q}:=b;subst L;obtain rfl:A=ę a:=t;show iK F w c n l λu G r m=>zy (hv g G σ Q _ r q) λN J b=>?_
 let{y,U,R,p,O}:=b;show zy (i g J σ U v y u N _ R m p O) λw4 s4 d=>?_
 let{z,H3,W,T,S,Z,e,B,E}:=d;show sS W e c n B T λs5 P=>{σ,_,P,E}
def x0v:V->V->Hp->VK->È:=λx y H Q=>∃i j,x=.int i/\y=.int j/\Q ťf H
def y0c:dE X .Add x0v:=by rintro d s σ H x y u v Q I c b ⟨i,j,rfl,rfl,q⟩;let{t,rfl}:=(show ∃t,u=ϣb i t from c);let{a,rfl}:=(show ∃a,v=ϣb j a from b);show PyProof.Rows.iadd_int {.int (i+j),H,Óa _,{_,rfl},q}
#print a
section
variable{X:Cx}{z8:Á õ}{σ:St}{H:Hp}{s:Í}{A:ù}{E:Value->Í->È}{Q:Value->Í->È}{c:Value}{b:Ð}
inductive gM(K:Ďi)(H:Hp):V->Value->È where
 |zO:gM K H .zO òd
 |bl (x:Ð):gM K H (.bl x) ϧa
 |int (i:Æ):gM K H Ϩ ϩa
 |str (x:Ç):gM K H Ϻb áb
 |Wm (x:UInt64):gM K H (.Wm x) (.type "float")
 |lst {a:Ë} {xs:Á V} (e:H a=À ϧ):gM K H Ŗ Ěa
 |yj {a:Ë} {o:Obj} {xs:Á V} (e:H a=À žo):gM K H Ŗ Ěa
 |tup {a:Ë} {xs:Á V} (e:H a=À Śa):gM K H Ŗ ża
 |dK {a:Ë} {kvs:Á Æa} (e:H a=À ũ):gM K H Ŗ ąc
 |dT {a:Ë} {kvs:Á Śb} (e:H a=À ϫb):gM K H Ŗ ąc
 |ins {a C dx:Ë} {fs:Á Ťb} (e:H a=À ĝb) (cl:qO K C) (ha:PySem.W.findIn K Ū "__class__"=À (À ϻg))
   (hn:PySem.W.specialIn K ϻg "__get__"=À (À (.builtin "getset_descriptor.__get__"))) (htk:PySem.W.takesIn K ϻg=À Ã)
   (hm:PySem.W.mroIn K C (.type "object")=À Ã):gM K H Ŗ Ū
def Mt{x:V}{u t:Value}(I:Inv X z8 σ H s)(d:yC x u)(l:gM X.K H x t)(e:Ű X.K t c=À b)(h:∀tk,Q Ñg { s with Ė:=tk }) :Ù Ą A (Ļb Éi [u,c]) Q E s:=by
 cases l with
 |zO=>cases(show u=ϫa from d);show ϵa W.kitx_none Ϝ Źa e æa h|bl y=>cases(show u=żf y from d);show ϵa W.kitx_bool Ϝ Źa e æa h|int i=>let{t,q}:=(show ∃t,u=ϣb i t from d);cases q;show ϵa W.kitx_int Ϝ Źa e æa h
 |str y=>let{t,q}:=(show ∃t,u=şb y t from d);cases q;show ϵa W.kitx_str Ϝ Źa e æa h
 |Wm y=>let{t,q}:=(show ∃t,u=ŀi y t from d);cases q;show ϵa W.kitx_float Ϝ Źa e æa h
 |@lst a g ea=>cases(show u=ę a from d);let{_,_,n,_,f}:=(show xo ö X.w H â a (.lst g)from ĝ a _ ea);show ϵa ľi Ϝ {_,f,rfl} e æa h
 |@yj a ob g ea=>cases(show u=ę a from d);let{_,_,_,n,_,f}:=(show xo ö X.w H â a (.yj ob (.lst g))from ĝ a _ ea);show ϵa ľi Ϝ {_,f,rfl} e æa h
 |@tup a g ea=>cases(show u=ę a from d);let{_,_,_,p}:=(show xo ö X.w H â a (.tup g)from ĝ a _ ea);let{o,f,j,_}:=p;show ϵa Äo Ϝ {o,f,j} e æa h
 |@dK a kvs ea=>cases(show u=ę a from d);let{_,_,r,_,p}:=(show xo ö X.w H â a ũ from ĝ a _ ea);let{o,k,m,f,j,_}:=p;show ϵa ħo Ϝ {o,f,j.1} e æa h
 |@dT a kvs ea=>cases(show u=ę a from d);let{_,_,g,_,o,k,m,f,j,_}:=(show xo ö X.w H â a ϫb from ĝ a _ ea);show ϵa ħo Ϝ {o,f,j.1} e æa h
 |@ins a C dx fs ea cl ha hn htk hm=>cases(show u=ę a from d);let{v,O,_}:=Ms ĝ ea;let{B,J,_}:=O.look;show ϵa (W.kitx_own (cl.get _) cl.hd ha hn htk hm) Ϝ J e æa h
#print a
structure ym(k:Â)(A:ù):È where
 hd:Ċa=Å
 dp:ĕg+3*k+5<ěn
 un:Ťa+16*k+200<Ϛ
 gd:A.guards=À []
theorem ym.mono{j k:Â}{A:ù}(r:ym k A)(h:j<=k):ym j A:={r.hd,by let:=r.dp;omega,by let:=r.un;omega,r.gd}
theorem ym.deeper{k:Â}{A:ù}(r:ym Ĩ A)(env:Env):ym k (ġb env):=
 {r.hd,by let:=r.dp;exact ĕg+1+3*k+5<_;omega,by let:=r.un;exact Ťa+3+16*k+200<_;omega,by first|show r.gd|simp[üe,ĺo,ϖo,r.gd]}
def y2o{A:ù}{C:Ë}{us:Á Value}{a:Á üc}:(ύg).depth=ĕg+1:=by first|rfl|simp[üe,Code.weight,Code.isCreation,Code.isGuard,Code.isCaller,Ļo,Ėi,guardIds]
theorem y2q{A:ù}{C:Ë}{us:Á Value}{a:Á üc}:(ύg).units=Ťa+1:=by first|rfl|simp[üe,Code.cUnits,Ļo,Ėi]
theorem ym.make{k:Â}{A:ù}(r:ym Ĩ A)(C:Ë)(us:Á Value)(a:Á üc):ym k ύg:=
 {r.hd,by let:=r.dp;rw[y2o];omega,by let:=r.un;rw[y2q];omega,by first|show r.gd|simp[üe,ĺo,ϖo,r.gd]}
theorem ym.depth{k:Â}{A:ù}(r:ym k A):ĕg<ěn:=by let:=r.dp;omega
theorem ym.units{k:Â}{A:ù}(r:ym k A):Ťa+64<Ϛ:=by let:=r.un;omega
nonrec def UH:TA:=λ_ H Q=>Q [] H
nonrec def Sd(c:TE)(a:TA):TA:=λσ H Q=>c σ H λx b=>a σ b λd e=>Q (x::d) e
section
variable{X:Cx}{e:Ö}{es:Á Ö}{te:TE}{t:TA}{pos:Pos}
def Q0:PA X [] UH:=λ_ _ _ _ H Q I h=>šm {[],H,I,.nil,h}
def y8h(p:PE X e te)(f:PA X es t)(j:Î Ĺc q12):PA X Ę ϧp:=by
 intro pos b s σ H Q I h;rw[j];exact Ù _ _ (spliced ((Ä,ĩ e Û)::Ĩc pos Ěi)) _ _ s;show ßh (zy ĺm λu g a=>?_);let{x,k,d,l,c}:=a;show zy (f pos b g σ k _ d c) λv r a=>?_
 let{i,o,m,n,q}:=a;show⟨x::i,o,m,.cons l n,q⟩
def x6e(t:TA):TE:=λσ H Q=>t σ H λb a=>ëa<=å/\∀p,a p=Å->Q Ŷ (ze a p (.tup b))
def z0o(t:TA):TE:=λσ H Q=>t σ H λb a=>ëa<=å/\∀p,a p=Å->Q Ŷ (ze a p Āg)
def y9d{x1}(h:PA X es t):PE X Ōm (x6e t):=by intro k s σ H Q I g;show wpAny_Tuple_spliced Ūk;rw[ùq];show{.ref Ϥa,ze f Ϥa (.tup j),Ϫj (t':=Ņg) ĩm Ď ?_,rfl,q _ i};show{z,l,r,{_,Ÿ _ rfl,rfl,_,rfl}}
def nT(h:PA X es t):PE X Şn (z0o t):=by intro k s σ H Q I g;show wpAny_List_spliced Ūk;rw[ùq];show{.ref Ϥa,ze f Ϥa (.lst j),Ϫj (t':=Ņg) ĩm Ď ?_,rfl,q _ i};show{z,l,0,r,Ÿ _ rfl}
#print a
abbrev Sp:=Á V->Hp->VK->XK->È
abbrev ZU:=Á Env->Hp->Í->XK->Value->Í->È
structure Wv(P:ï)(w:æ)(K:Ô)(mg:Ç->É Value)(Ì:Heap)(A:ù)(ċ:Á Env)(s:Í)(H:Hp):È where
 Ϩj:A.frames=À ċ
 mod:Mod K mg Ì
 bs:∀b o,base.get? b=À o->ø b=À o/\H b=Å
 ZR:base.objs.size<=Ý
 ja:đf Ì ċ
 XO:∀b∈ju ċ,H b=Å
 zi:wY P w H â
 bare:ŗd Ļg
def CE(ċ:Á Env)(P:ï)(w:æ)(H:Hp)(s:Í)(Q:VK)(u:Value)(s':Í):È:=
 ∃v H',s'.os=s.os/\ŗd s'.gens/\Un (ju ċ) [] H H' â Ϝc/\wY P w H' Ϝc/\yC v u/\Q v H'
def CR(a:ZU)(ċ:Á Env)(P:ï)(w:æ)(H:Hp)(s:Í)(Q:VK)(E:XK)(r:Űd)(s':Í):È:=
 match r with
 |.ok (.ret u)=>CE ċ P w H s Q u s'|.ok _=>Ā|.error e=>a ċ H s E e s'
structure xg(P:ï)(w:æ)(K:Ô)(mg:Ç->É Value)(Ì:Heap)(CX:ZU)(k:Â)(f:Ë)(fd:Ň)(ps:Á Ç)(sp:Sp):È where
 len:∀vs H Q E,sp vs H Q E->ē=ħ
 run:∀(A:ù)(ċ:Á Env)(s:Í)(H:Hp)(ĕa:Args)(us:Á Value)(vs:Á V)(Q:VK)(E:XK),ym k A->Wv P w K mg Ì A ċ s H->Įb s fd ĕa Ąc->zo vs us->sp vs H Q E->
  ĭb śb A (.call ī ĕa) (CR CX ċ P w H s Q E) s
def xg.imp{P:ï}{w:æ}{K:Ô}{g:Ç->É Value}{a:Heap}{i:ZU}{k:Â}{f:Ë}{e:Ň}{ps:Á Ç}{sp d:Sp}(F:xg P w K g a i k f e ps sp)(h:∀vs H Q E,d vs H Q E->sp vs H Q E):xg P w K g a i k f e ps d:=
 {λvs H Q E q=>ŭg vs H Q E (h _ _ _ _ q),λA b s H c m vs Q E p o n j l=>F.run A b s H c m vs Q E p o n j (h _ _ _ _ l)}
def Wv.make{P:ï}{w:æ}{K:Ô}{b:Ç->É Value}{a:Heap}{A:ù}{ċ:Á Env}{s:Í}{H:Hp}(e:Wv P w K b a A ċ s H)(C:Ë)(us:Á Value)(c:Á üc) :Wv P w K b a (A.under (.builtin Ìn {.ref C::us,c})) ċ s H:={by first|show e.frames|(simpa [üe,Code.envs,Ėi,pushEnvs]using e.frames),e.mod,e.bs,e.ZR,e.ja,e.XO,e.zi,e.bare}
section
variable{X:Cx}{z8:Á õ}{σ:St}{H:Hp}{s s':Í}
def Inv.bZ(I:Inv X z8 σ H s):Wv ö X.w X.K ð ŀ X.A ša s H:=
 {Ķo,ăj,I.bs,ý ēg I.sz,I.stack,I.bj,ĝ,Ϙa}
def Inv.after{Q:VK}{u:Value}(I:Inv X z8 σ H s)(h:CE ša ö X.w H s Q u s'):EP X z8 σ Q u s':=by let{v,i,f,a,e,k,r,q}:=h;let{j,g,d,t,c}:=s';obtain rfl:c=s.os:=f;show{v,i,I.call (h':=j) (g':=g) (d':=d) (t':=t) (ch:=[]) e k a (λb z=>Þ z ô),r,q}
#print a
nonrec def DB(sp:Sp)(a:Á V)(E:XK)(t:TA):TE:=λσ H Q=>t σ H λc b=>sp (c++a) b Q E
nonrec def DC(C:Ë)(m:Ç)(sp:Sp)(b:Á V)(E:XK)(d:TE)(t:TA):TE:=λσ H Q=>d σ H λx c=>∃a dx fs,x=.ref a/\c a=À ĝb/\Āc m=Å/\
 t σ c λe f=>sp (x::(e++b)) f Q E
def x5z(C:Ë)(sp:Sp)(b:Á V)(E:XK)(t:TA):TE:=λσ H Q=>t σ H λc a=>∀x dx,a x=Å->a dx=Å->dx≠x->
 sp (.ref x::(c++b)) (ze (ze a dx ŋd) x Śn) (λv d=>v=.zO/\Q ŉd d) E
def uK(K:Ô)(a:Ň)(ps:Á Ç)(ds:Á Value):È:=
 ∀(s:Í)(us:Á Value),Ž â->(Ĺd).length=ħ->Įb s a {us,[]} (ps.zip Ĺd)
def uK.all{K:Ô}{a:Ň}{ps:Á Ç}(h:∀us:Á Value,éa=ħ->Þg a {us,[]}=pure Ąc):uK K a ps []:=λs us _ b=>by rw[Œ]at b ⊢;show .of_eq (h us b)
def Xn(a:ZU)(X:Cx)(E:XK):È:=∀(z8:Á õ) (σ:St) (H:Hp) (s:Í) (e:Value) (s':Í),Inv X z8 σ H s->a ša H s E e s'->İ e s'
section
variable{X:Cx}{CX:ZU}{k:Â}{f C:Ë}{fd:Ň}{ps:Á Ç}{sp:Sp}{dvs:Á V}{ds:Á Value}{E:XK}{x m:Ç}{p pos Èa:Pos}{e o:Ö}{es:Á Ö}{ta:TE}{t:TA}
def U4{b:Á õ}{σ:St}{H:Hp}{s:Í}{Q:VK}{us:Á Value}{vs:Á V}(F:xg ö X.w X.K ð ŀ CX k f fd ps sp)(j:ym k X.A)(i:uK X.K fd ps ds)(d:zo dvs ds)(l:Xn CX X E)(I:Inv X b σ H s)(r:zo vs us)(h:sp ħe H Q E):Ù Ą X.A (Ļb ī us) (EP X b σ Q) İ s:=by
 let c:zo ħe Ĺd:=ϕc d;have m:(Ĺd).length=ħ:=by rw[<-üa];show ŭg _ _ _ _ h
 show Ēf (îd (F.run X.A ša s H {us,[]} Ĺd ħe Q E j I.bZ (i s us Ϝ m) c h) λr g a=>?_);cases r with
 |ϔe e=>show l b σ H s e g I a|ok fl=>
  cases fl with
  |ret u=>show I.after a|next=>show ĝa a|brk=>show ĝa a|Ôc=>show ĝa a
def y8s(F:xg ö X.w X.K ð ŀ CX k f fd ps sp)(i:ym k X.A)(m:Gl X x)(o:ð x=À ī)(hk:Þa X.K ī=Ã)(n:uK X.K fd ps ds)(g:zo dvs ds)(j:Xn CX X E)(v:PA X Ę t)(a:Î ō q10)(u:Î Ĺc q12)(c:Î ((ñd).any (·.1)=Ä) q12) :PE X ůa (DB sp dvs E t):=by rw[ϐq];show ēd (h₀:=ŀ) ğd hk (zy şl λC z b=>?_) u c;rw[Ϥq];show U4 F i n g j d r q
def y8t(F:xg ö X.w X.K ð ŀ CX k f fd ps sp)(e:ym k X.A)(c:Gl X x)(g:ð x=À ī)(hk:Þa X.K ī=Ã)(d:uK X.K fd ps ds)(b:zo dvs ds)(i:Xn CX X E)(a:Î ō q10):PE X Ϟl (DB sp dvs E UH):=by rw[ϑq];show Üd (O6 I c g ?_ a);show Ŭn Ϝ hk (U4 (us:=[]) F e d b i I .nil h)
def y95{pl:Sem Ð}(R:PE X o ta)(c:qO X.K C)(n:Lz X.K C m f)(F:xg ö X.w X.K ð ŀ CX k f fd ps sp)(L:ym k X.A)(B:uK X.K fd ps ds)(N:zo dvs ds)(y:Xn CX X E)(S:PA X Ę t)(d:Î Ĺc q12)(g:Î ((ñd).any (·.1)=Ä) q12)(z:ĩ ϭe Û=(do
   let ov <-ĩ o Û
   standAt Ůc
   let (f,first) <-holding [ov] ňc
   ϲb pos f first êd Ŷb):=by rfl) :
  PE X ϭe (DC C m sp dvs E ta t):=by
 rw[ϑq];show Ϗh (pl:=pl) (zy (R j s σ H _ I h) λu v b=>?_) z;let{x,P,p,G,a,U,Y,O,J,l,q}:=b;subst O;obtain rfl:u=ę a:=G;show iL p J c n l ?_;show ēd (first:=Ϯ) (h₀:=ŀ) ğd n.kp (zy (S pos j v σ P _ p q) λus Z b=>?_) d g;let{vs,H2,i,r,T}:=b;show{i.wX,?_};show U4 (us:=.ref a::us) (vs:=.ref a::vs) F L B N y i (.cons rfl r) T
def nU{pl:Sem Ð}(y:PE X o ta)(c:qO X.K C)(e:Lz X.K C m f)(F:xg ö X.w X.K ð ŀ CX k f fd ps sp)(i:ym k X.A)(t:uK X.K fd ps ds)(g:zo dvs ds)(n:Xn CX X E)(p:ĩ Îd Û=(do
   let ov <-ĩ o Û
   standAt Ůc
   let (f,first) <-holding [ov] ňc
   ϲb pos f first ĸh Ŷb):=by rfl) :
  PE X Îd (DC C m sp dvs E ta UH):=by
 intro r s σ H Q I h;show Ϗh (pl:=pl) (zy (y r s σ H _ I h) λu G d=>?_) p;let{x,J,b,v,a,B,L,j,z,l,q}:=d;subst j;obtain rfl:u=ę a:=v;show iL b z c e l ?_;show Ŭn (first:=Ϯ) b.wX e.kp (U4 (us:=Ϯ) (vs:=Ϯ) F i t g n b ϊh q)
structure Mk(K:Ô)(C f:Ë):È where
 makes:Ϯf K C=Ã
 init:şa K Ū éb=À řa
 fn:Űe K ī=Ã
 kp:Þa K Ū=Ã
def x28{c:Á õ}{σ:St}{H:Hp}{s:Í}{Q:VK}{us:Á Value}{vs:Á V}(M:Mk X.K C f)(F:xg ö X.w X.K ð ŀ CX k f fd ps sp)(t:ym Ĩ X.A)(p:uK X.K fd ps ds)(i:zo dvs ds)(m:Xn CX X E)(I:Inv X c σ H s)(r:zo vs us)(h:∀x dx,H x=Å->H dx=Å->dx≠x->sp (.ref x::ħe) (ze (ze H dx ŋd) x Śn) (λv H2=>v=.zO/\Q ŉd H2) E) :Ù Ą X.A (Ļb Ū us) (EP X c σ Q) İ s:=by
 let d:=h ľa Ý (ğb (šf _)) Ĳd (Ϟ ϟc);let b:=Inv.made (C:=C) I;let g:zo (ϛa ľa::ħe) Ķn:=.cons rfl (ϕc i)
 let z:(ę ľa::us++ds).length=ħ:=by let e:=Ča;rw[ŭg _ _ _ _ d]at e;show Ůd
 refine Ēf (y2p (f:=f) Ϝ M.makes M.init (Ĺf M.fn) (îd (F.run _ ša _ _ {ę ľa::us,[]} Ķn _ _ E (t.make C us [])
  (b.bZ.make C us []) (p _ (ę ľa::us) b.wX z) g d) λr n a=>?_))
 cases r with
 |ϔe e=>show m c σ _ _ e n b a|ok fl=>
  cases fl with
  |ret u=>let{v,j,o,y,q,l}:=b.after a;subst q;show{y,{ϛa ľa,j,o,rfl,l}}
  |next=>show ĝa a|brk=>show ĝa a|Ôc=>show ĝa a
def y94(M:Mk X.K C f)(F:xg ö X.w X.K ð ŀ CX k f fd ps sp)(i:ym Ĩ X.A)(m:Gl X x)(o:ð x=À Ū)(n:uK X.K fd ps ds)(g:zo dvs ds)(j:Xn CX X E)(v:PA X Ę t)(a:Î ō q10)(u:Î Ĺc q12)(c:Î ((ñd).any (·.1)=Ä) q12) :PE X ůa (x5z C sp dvs E t):=by rw[ϐq];show ēd (h₀:=ŀ) ğd M.kp (zy şl λG z b=>?_) u c;rw[Ϥq];show x28 M F i n g j d r q
#print a
structure zn(N P:Á Ç)(sc:ða):È where
 kind:sc.kind=.function
 co:sc.isCoroutine=Ä
 gen:sc.isGenerator=Ä
 nd:ğc
 pre:N.take ča=P
 par:∀x∈P,Òn x=À .local\/Òn x=À .cell
 z37:∀y∈sc.names,y.2≠.free
theorem d_{a:Ç->É Ěc}{x:Ç}:∀{żd:Á üc} {m:Ç->É Value},(∀v,(x,v) ∉ żd)->ıc a żd m x=m x
 | [],_,_=>rfl|(n,v)::r,m,h=>by
  unfold ıc;rw[d_ λw b=>h w ύc]
  split;rw[ųq]
  simp[this];rfl
theorem dv{a:Ç->É Ěc}{x:Ç}:∀{żd:Á üc} {m:Ç->É Value},(∀v,(x,v) ∉ żd)->Ĳc a żd m x=m x
 | [],_,_=>rfl|(n,v)::r,m,h=>by
  unfold Ĳc;rw[dv λw b=>h w ύc]
  split;rfl;rw[ųq]
  simp[this]
theorem dw{a:Ç->É Ěc}{x:Ç}{v:Value}:∀{P:Á Ç}{vs:Á Value}{i:Â}{m:Ç->É Value},P.Nodup->P[i]?=À x->vs[i]?=À v->a x=À .local->
  ıc a áp m x=À v
 | [],_,_,_,_,h,_,_=>by simp at h|_::_,[],_,_,_,_,h,_=>by simp at h|p::P,w::vs,0,m,nd,h1,h2,hk=>by rw[ϛq];exact ıc a ďf m p=_;unfold ıc;rw[d_ λv b=>äg.1 (ϒh b).1,Ï hk];simp|p::P,w::vs,i+1,m,nd,h1,h2,hk=>by exact ıc a ďf m x=_;unfold ıc;show dw (i:=i) äg.2 ûf ăm hk
theorem dt{a:Ç->É Ěc}{x:Ç}{v:Value}:∀{P:Á Ç}{vs:Á Value}{i:Â}{m:Ç->É Value},P.Nodup->P[i]?=À x->vs[i]?=À v->a x≠À .local->
  Ĳc a áp m x=À v
 | [],_,_,_,_,h,_,_=>by simp at h|_::_,[],_,_,_,_,h,_=>by simp at h|p::P,w::vs,0,m,nd,h1,h2,hk=>by rw[ϛq];exact Ĳc a ďf m p=_;unfold Ĳc;rw[dv λv b=>äg.1 (ϒh b).1,Ñ hk];simp|p::P,w::vs,i+1,m,nd,h1,h2,hk=>by exact Ĳc a ďf m x=_;unfold Ĳc;show dt (i:=i) äg.2 ûf ăm hk
nonrec def ϓe(N:Á Ç)(vs:Á V):St:=Ķg À++Ő (ŕ-ē) Å
nonrec def qW(g:ZU)(P:ï)(w:æ)(K:Ô)(mg:Ç->É Value)(Ì:Heap)(N:Á Ç)(b:Ç)(a:ða)(f:Ë)(d:Value)(A:ù)(ċ:Á Env)(s:Í)(H:Hp)(E:XK):Cx where
 ă:=P
 w:=w
 K:=K
 mg:=mg
 Ì:=Ì
 A:=ġb ŝh
 N:=N
 s₀:=s
 H₀:=H
 env:=ïb b a Ý f d
 ċ:=ċ
 stack:=ïb b a Ý f d::ċ
 ex:=[]
 calm:=Ã
 fn:=λ_=>Ã
 pn:=[]
 xe:=λe h=>Ù śb (ġb ŝh) (leaving ŝh e) (λ_ c=>g ċ H s E e c) (λi c=>g ċ H s E i c) h
def eN{a:ða}{n:Â}{x:Ç}(h:ϐb x=À .cell):∃c,(Ϩi n Œj []).lookup x=À c:=by let q:=Ϣm Œj n [] Ác;show Łb q
def y0h{O:ZU}{P:ï}{w:æ}{K:Ô}{J:Ç->É Value}{l:Heap}{N ps:Á Ç}{g:Ç}{d:ða}{f:Ë}{I:Value}{A:ù}{ċ:Á Env}{s s1:Í}{H:Hp}{E:XK}{us:Á Value}{vs:Á V}(S:zn N ps d)(R:Ċa=Å)(m:Wv P w K J l A ċ s H)(hl:ē=ħ)(r:zo vs us)(x:InCallC s Ý (ıc (Ūm).kindOf Ąc λ_=>Å) (Ϩi ľa d.names []) (Ĳc (Ūm).kindOf Ąc λ_=>Å) s1) :Inv Ŷk [] ũc H s1:=by
 let U:ħ<=ŕ:=by let:=ķ ĝd S.pre;rw[åa]at this;omega
 let{G,Y,rfl,Q}:=x.done;let t:∀b:Ë,b ∉ (Ŷk).ex:=λb z=>Þ (show b∈([]:Á Ë)from z) ô
 show⟨{m.mod,S.kind,rfl,rfl,Ĭ _,λy z c G j=>?_,λy o=>?_,λy c _ h=>?_,λ_=>R,Around.frames_deeper m.frames,.inr {rfl,rfl},λb z=>Þ z (t b),m.bs,m.ZR,λb _ _=>t b,λb z=>Þ z (t b),m.ja,m.XO},
  rfl,m.bare,Ŗe Q,{_,x.toInCall.ns,λi y v G j Z=>?_},λy c h=>{_,x.cell y c h},ϙo Ď,λy c h=>?_,λp C=>Þ (show p∈([]:Á õ)from C) ô,m.zi.kept Q,?_⟩
 show name_of_addr x.apart (Ðf G) (Ðf j);let o:ϰh y=À .cell\/ϰh y=À .free:=o;rcases o with o|o;show eN o;show Þ rfl (S.z37 _ (Ðf o));show Ûa ϐl;let F:i<ē:=by
  unfold ϓe at j;by_cases F:i<ē;show F;rw[Żb Ŀm]at j;rw[Ϩd]at j
  split at j<;>cases j
 let T:vs[i]?=À v:=by
  unfold ϓe at j;rw[Ůa Ŀm,ė]at j;cases e:vs[i]? with
  |Å=>rw[e]at j;cases j|À a=>rw[e]at j;cases j<;>rfl
 let{u,L,X}:=Éb T
 have C:ps[i]?=À y:=by rw[<-S.pre,List.getElem?_take_of_lt Ê];show G
 have B:ps.Nodup:=by rw[<-S.pre];show S.nd.sublist Åj
 show{u,X,?_};rcases S.par y (Ϸ C)with k|k;show .inl {k,dw B C L k};let{c,e}:=eN (n:=Ý+1) k;show .inr {.inl k,c,e,?_};let q:=x.cell y c e;rw[dt B C L (by exact ϰh y≠_;rw[k];decide)]at q;show q;show ϙo (Ûa ϐl);unfold ϓe;exact _=ŕ;rw[ğq]
def i6{L:ZU}{P:ï}{w:æ}{K:Ô}{G:Ç->É Value}{g:Heap}{k:Â}{f:Ë}{Ĵ c:Ç}{h:Ħp}{i:Á Ü}{a:ða}{dV kV F pm d ct oc:Value}{an od:É Ë}{O:Ú ϯa}{N ps:Á Ç}{sp:Sp}(lk:Ãa f=À {oc,od,.func ůk,O})(X:Ţb K d c=Ã)(S:zn N ps a)(B:∀vs H Q E,sp vs H Q E->ē=ħ)(j:∀(A:ù)(ċ:Á Env)(s:Í)(H:Hp)(vs:Á V)(Q:VK)(E:XK),ym k (ġb (ïb c a Ý f d))->sp vs H Q E->
   ∃t,ul ϛg i t/\t { nx:=λ_ H'=>Q .zO H',rt:=Q } ũc H) :
  xg P w K G g L Ĩ f ůk ps sp:=by
 show{B,λA ċ s H Z us vs Q E U C hb r z=>?_};let hl:=B _ _ _ _ z;let KX:Ž â:=C.mod.XQ.keeps λb o e=>ăo.1
 let R:s.heap.NoLimit:=C.mod.nolimit.keeps λb o e=>ăo.1
 let l:∀y∈ps.zip us,ϐb y.1=À .local\/(ϐb y.1=À .cell/\((Ϩi ľa Œj []).lookup y.1).isSome=Ã):=λ⟨n,v⟩ hy=>by rcases S.par n (ϒh hy).1 with q|q;show .inl q;show .inr {q,Ϣm _ _ _ (.inl q)}
 show codeAny_call_function U.depth (KX _ _ lk) rfl S.co S.gen rfl (W.codeRec_of KX X) (hb _ _ _ _ ?_);show wpAny_newFunctionEnv_cells S.kind l λenv he s1 x=>?_
 subst he;show{R.keeps x.toInCall.keep,codeAny_func ?_};let{t,ht,hq}:=j A ċ s H vs Q E (U.deeper _) z;let I:Inv ϛg [] ũc H s1:=y0h S U.hd C hl r x;show ĳa (ht [] s1 ũc H _ I hq) (λfl T m=>?_) λe T m=>m
 let p:∀{σ':St}{H':Hp}{v:V}{u:Value},Inv ϛg [] σ' H' T->yC v u->Q v H'->CE ċ P w H s Q u T:=
  λ{σ' H' v u} J Y q=>{v,H',J.os,J.bare,J.base,J.zi,Y,q}
 cases fl with
 |ret u=>
  let{v,σ',H',J,Y,q}:=m;show p J Y q
 |next=>
  let{σ',H',J,q}:=m;show p (v:=V.zO) (u:=ϫa) J rfl q
 |brk=>
  let{_,_,_,q}:=m;show ĝa q
 |Ôc=>
  let{_,_,_,q}:=m;show ĝa q
section
variable{X:Cx}{x:Ç}{p pos:Pos}{e:Ö}{es:Á Ö}{t:TA}{id T:îa}{r:Á V->Hp->VK->È}
nonrec def DA(r:Á V->Hp->VK->È)(t:TA):TE:=λσ H Q=>t σ H λa b=>r a b Q
def y8u(j:vg X Þb r)(o:Gl X x)(u:ð x=Å)(hv:ϔ x=À Þb)(w:PA X Ę t)(q:Î Ĕb q10)(a:Î ō q10)(v:Î Ĺc q12)(c:Î ((ñd).any (·.1)=Ä) q12):PE X ůa ùg:=by rw[ēq];show Üd Ëm;show PyProof.Rows.callWith_builtin1 ũk v c;rw[ňq]
def y8w(j:vg X ϩb r)(o:Gl X x)(u:ð x=Å)(hv:ϔ x=À ϩb)(w:PA X Ę t)(q:Î Ĕb q10)(a:Î ō q10)(v:Î Ĺc q12)(c:Î ((ñd).any (·.1)=Ä) q12):PE X ůa ùg:=by rw[ēq];show Üd Ëm;show Åf ũk v c;rw[ňq]
#print a
#print L2
namespace HT
open Ł Ŋ
section
variable{ă:ï}{w:æ}{A:ù}{E:Value->Í->È}{s:Í}
def cat_tup{t b:Ë}{vs ws:Á Value}{Q:Value->Í->È}(u:Ķb â t Ža)(v:Ķb â b Źf)(hv:vs≠[])(q:ws=[]->Q üg s)(r:ws≠[]->Q Ğa { s with ç:=Üa { cls:=.type ώ,Ċ:=.seq (vs++ws).toArray } })(hsz:ē+þp<=å):Ù è A (ϭa .Add üg (.ref b)) Q E s:=by
 obtain⟨⟨cls,m,Ċ,k⟩,h,l,n,j⟩:=id u;obtain⟨⟨o,f,i,g⟩,a,d,p,c⟩:=id v;simp only at l j d c;subst l j d c;let e:Ža++Źf=(vs++ws).toArray:=by simp
 by_cases hw:ws=[];show Ċi {_,h,rfl} {_,a,rfl} ϟm Ťn Ől Ŀl Öl
  (tuple_addW1 t b Ža Źf n p m f k g ĩh (by simp[hw])) {h,a,q hw}
 refine Ċi {_,h,rfl} {_,a,rfl} ϟm Ťn Ől Ŀl Öl
  (tuple_addW2 t b Ža Źf n p m f k g ĩh (by simpa using hw) (by rw[ĭ,ĭ];show hsz)) {h,a,?_}
 rw[e];show r hw
nonrec def sIx(n d:Â):É Æ->Â
 |Å=>d|À v=>if v<0 then(v+(n:Æ)).toNat else min v.toNat n
def sIx_nat(n d k:Â):sIx n d (À (k:Æ))=min k n:=by exact(if(k:Æ)<0 then((k:Æ)+(n:Æ)).toNat else min (k:Æ).toNat n)=min k n;rw[Ñ Ê,ģ]
theorem Ūe(n d:Â)(a:d<=n)(o:É Æ):sIx n d o<=n:=by
 cases o with
 |Å=>show a|À v=>exact İk<=n;by_cases hv:v<0;rw[Ï hv];omega;rw[Ñ hv];show ϣg _ _
def eW(v:Æ)(n d:Â):ħk=((sIx n d Äa:Â):Æ):=by exact ħk=((İk:Â):Æ);by_cases hv:v<0;simp only[Ï hv];show(Űh _).symm;simp only[Ñ hv];let{k,rfl}:=ŋa (Œc hv);rcases ōf k n with h|h;rw[ģ,ϥa h,Úe (Ϥg h)];rw[ģ,ĕf h,űh (Ϥg h)]
theorem z3t(lo hi:É Æ)(n:Â):Õh lo hi 1 (n:Æ)=(((sIx n 0 lo:Â):Æ),((sIx n n hi:Â):Æ)):=by
 let a:¬ ((1:Æ)<0):=by omega
 unfold Õh;simp only[a,ċa];show Prod.ext ?_ ?_;cases lo with
 |Å=>rfl|À v=>show eW v n 0
 cases hi with
 |Å=>rfl|À v=>show eW v n n
def y9w(i j:Â):Ìf (i:Æ) (j:Æ) 1=j-i:=by
 unfold Ìf;let a:(1:Æ)>0:=by omega
 simp only[a,ϋ,úe]
 split<;>omega
def so{v:Value}{o:É Æ}{Q:É Æ->Í->È}(p:Êc v o)(h:Q o s):Ù è A (Builtin.Slice.slicePartIndex v) Q E s:=by
 cases p with
 |Å=>show Ěn h|int i t=>show slicePart_int h
def x4o{e:Ë}{c d:Value}{lo hi:É Æ}{n:Â}{Q:Æ×Æ×Â->Í->È}(f:Ũh e c d .none)(pl:Êc c lo)(g:Êc d hi)(h:Q (((sIx n 0 lo:Â):Æ),1,sIx n n hi-sIx n 0 lo) s):Ù è A (ăl ýg (pure (n:Æ))) Q E s:=by let{j,a,i,b}:=id f;unfold ăl Builtin.Slice.sliceFields;show Ó (Ó (čb a b (x:=c) rfl (Ó (čb a b (x:=d) rfl (Ó (čb a b (x:=.none) rfl ûa))))));show Ó (Ěn ?_);exact Ù _ _ (Τa ((1:Æ)==0)) _ _ s;rw[Ñ Ò];show Ó (so pl (Ó (so g (Ó ûa))));exact Ù _ _ (match Õh lo hi 1 (n:Æ)with|(lo,hi)=>pure (lo,(1:Æ),Ìf lo hi 1)) _ _ s;rw[z3t lo hi n];exact Ù _ _ (pure (((sIx n 0 lo:Â):Æ),(1:Æ),Ìf ((sIx n 0 lo:Â):Æ) ((sIx n n hi:Â):Æ) 1)) _ _ s;rw[y9w];show ó h
def y9r(xs:Ú Value)(i k:Â):((ϡ k).filterMap λ(m:Â)=>xs[(Ĭh).toNat]?).toArray=((xs.toList.drop i).take k).toArray:=by
 let e:(λ(m:Â)=>xs[(Ĭh).toNat]?)=λm=>xs[i+m]?:=by
  funext m
  let:(Ĭh).toNat=i+m:=by omega
  rw[this]
 rw[e];let:=òj xs i k;rw[List.filterMap_map]at this;let e2:((λx=>xs[x]?)∘λx=>i+x)=λm=>xs[i+m]?:=rfl
 rw[e2]at this;rw[this]
theorem getItem_tuple_cut{t c:Ë}{z6:Ú Value}{k i:Value}{lo hi:É Æ}{Q:Value->Í->È}(b:Ķb â t z6)(j:Ũh c k i .none)(pl:Êc k lo)(o:Êc i hi)(u:¬ (sIx ņ 0 lo=0/\sIx ņ ņ hi=ņ))(h:Q Ğa { s with ç:=Üa { cls:=.type ώ,Ċ:=.seq (Źg).toArray } })(hsz:ņ<=å):Ù è A (œe üg Ŋd) Q E s:=by
 let a:sizeOk (.seq (Źg).toArray):=by exact(Źg).toArray.size<=å;rw[ĭ,åa,ŏa,ļ];show ý Ϸf (ý Ĵa hsz)
 let p:sIx ņ ņ hi<=ņ:=Ūe _ _ Ď hi;let{n,e,d,r}:=id j;let g:ñb Ŋd ąg:={n,e,d};unfold œe
 try with_reducible show Ϣa ?_
 first|show Ó ûa|skip
 refine Ó (wpAny_sequenceKey Ĺe Ò ?_)
 show Ó (Ód (Ĵ:=Űa Šn) Ĺe ϰk
  (łb ϰk Ĺe entry_tuple_getitem ?_ (args_tuple_getitem _ _)))
 exact Ù _ _ (Builtin.Tuple.tupleItemsOf üg >>= _) _ _ s;show Ó (tupleItemsOf_ b ?_);show Ó (íd g ?_);rw[Ï Ò];show Ó (x4o j pl o ?_)
 let f:¬ (úk=Ã):=by intro q;rw[Đ,Đ]at q;let l:((sIx ņ 0 lo:Â):Æ)=0:=şc q.1.1;let v:sIx ņ ņ hi-sIx ņ 0 lo=ņ:=şc q.2;show u {Int.ofNat_eq_zero.mp l,ύb p (ý (Œb v.symm) Ĵa)}
 exact Ù _ _ (Τa úk) _ _ s;rw[Ñ f,y9r]
 first
  |show Ó (m:=Òf _) ŕo
  |show Ó (m:=Òf _) (Üc (Ó ųp) a)
  |show Ó (Ó (m:=Òf _) (Üc ųp a))
  |show Ó (Ó (m:=Òf _) ŕo)
#print a
#print HT
namespace L2
open Ł Ş Ŋ
abbrev TO:=St->Hp->(É Æ->Hp->È)->È
def PO(X:Cx)(e:É Ö)(t:TO):È:=
 ∀(z8:Á õ) (s:Í) (σ:St) (H:Hp) (Q:É Æ->Hp->È),Inv X z8 σ H s->t σ H Q->
  Ù Ą X.A (evalPart e Û) (λu a=>∃o H',Inv X z8 σ H' a/\Êc u o/\Q o H') İ s
nonrec def x62:TO:=λ_ H Q=>Q Å H
nonrec def x67(t:TE):TO:=λσ H Q=>t σ H λx a=>∃i,x=.int i/\Q (À i) a
section
variable{X:Cx}{e:Ö}{te:TE}{lo hi:É Ö}{tl th:TO}{pos p2:Pos}
def x00:PO X Å x62:=by intro a s σ H Q I h;rw[ũn];show ó {Å,H,I,.none,h}
def x01(h:PE X e te):PO X (À e) (x67 te):=by
 intro g s σ H Q I j;rw[evalPart_some];show zy (h g s σ H _ I j) λu k a=>?_
 let{x,d,c,f,b}:=a;let{i,rfl,q}:=b;let{t,rfl}:=f;show{À i,d,c,.int i t,q}
def YO(X:Cx)(r:V->É Æ->É Æ->Hp->VK->È):È:=
 ∀(z8:Á õ) (s:Í) (σ:St) (H:Hp) (x:V) (v vl vu:Value) (lo hi:É Æ) (sl:Ë) (Q:VK),Inv X z8 σ H s->yC x v->Ũh sl vl vu .none->Êc vl lo->Êc vu hi->r x lo hi H Q->
  ∃T id,ϔo ϩb Šn=pure (À Þb)/\ñb v T/\Ù Ą X.A (œe v (.ref sl)) ŏb İ s
def YO.or{r e:V->É Æ->É Æ->Hp->VK->È}(h:YO X r)(h':YO X e):YO X (λx lo hi H Q=>r x lo hi H Q\/e x lo hi H Q):=by intro i s σ H x v g c lo hi a Q I j f b d q;rcases q with q|q;show h i s σ H x v g c lo hi a Q I j f b d q;show h' i s σ H x v g c lo hi a Q I j f b d q
nonrec def x6c(r:V->É Æ->É Æ->Hp->VK->È)(te:TE)(tl th:TO):TE:=λσ H Q=>te σ H λx a=>tl σ a λl b=>th σ b λu c=>r x l u c Q
def y9b{r:V->É Æ->É Æ->Hp->VK->È}(y:YO X r)(P:PE X e te)(N:PO X lo tl)(E:PO X hi th):PE X (.Subscript e ċh pos) (x6c r te tl th):=by
 rw[ēq];show ϧo (zy (P d s σ H _ I h) λv n c=>?_);let{x,J,z,K,k}:=c;show wpAny_Slice (zy (N d n σ J _ z k) λg B c=>?_);let{l,O,p,C,S}:=c;show zy (E d B σ O _ p S) λf a i=>?_
 let{u,j,L,F,G}:=i;rw[ũn];show ó ?_;let R:Inv X d σ j { a with ç:=Āe { cls:=.type ąg,Ċ:=.fields #[g,f,.none] } }:=L.kept (t':=Ņg) λb W q=>ě _ q
 let{T,U,m,o,t}:=y d { a with ç:=Āe { cls:=.type ąg,Ċ:=.fields #[g,f,.none] } } σ j x v g f l u Ϥa Q R K (Heap.IsSliceOf.new ..) C F G;exact Ù Ą X.A (ţn e ċh v ìp) (EP X d σ Q) İ { a with ç:=Āe { cls:=.type ąg,Ċ:=.fields #[g,f,.none] } };show tail_any (ops:=[.ref Ϥa,v]) o m t Ŀc
def Xs(xs:Á V)(lo hi:É Æ):Á V:=(ĳl).take Úl
def fB(xs:Á V)(lo hi:É Æ):(Ϩn).length<=ë:=by unfold Xs;rw[åa,ŏa];show ý Ϸf Ĵa
def rE(K:Ô):V->É Æ->É Æ->Hp->VK->È:=λx lo hi H Q=>∃a xs,x=.ref a/\xR K H a xs/\
 ¬ (Ś ë 0 lo=0/\Ś ë ë hi=ë)/\∀p,H p=Å->Q Ŷ (Ψ (.tup Ϩn))
def x4n:YO X (rE X.K):=by
 intro y s σ H x v w t lo hi p Q I m l i j h;let{a,d,rfl,k,n,q}:=h;cases m;let{e,r,f,g}:=àa k;let c:e.toArray.size=ϰ:=by rw[ĭ];show r.length.symm
 show{ώ,_,PyProof.Rows.slot_tuple_getitem.lookup,Ûg,?_};refine HT.getItem_tuple_cut f l i j (by rw[c];show n) ?_ (by rw[c];show g);rw[c];show{.ref Ý,_,ϖa (t':=ĕ) (o:=.tup (Xs d lo hi)) ĺh Ď ?_,rfl,q _ Ĳd};show{ý (fB d lo hi) g,_,(Ϡj (Ś ϰ 0 lo)).take (Ś ϰ ϰ hi-Ś ϰ 0 lo),Ϸi _ _}
def ot(K:Ô):R2:=λx y H Q=>∃a b xs ys,x=.ref a/\y=.ref b/\xR K H a xs/\xR K H b ys/\xs≠[]/\ë+ů<=å/\
 (ys=[]->Q Ŗ H)/\(ys≠[]->∀p,H p=Å->Q Ŷ (Ψ (.tup Ϟf)))
def zo.Fh{xs:Á V}{us:Á Value}(r:zo xs us):us=[]↔xs=[]:=by
 cases r with
 |nil=>simp|ñ _ _=>simp
def y7x:xG X ĩd (ot X.K):=by intro B s σ H x y v u Q I m k h;let{a,b,r,j,rfl,rfl,t,l,i,e,g,A}:=h;cases m;cases k;let{n,d,p,_}:=àa t;let{f,c,p2,_}:=àa l;show HT.cat_tup p p2 (λz=>i (d.Fh.mp z)) (λz=>{.ref a,H,I,rfl,g (c.Fh.mp z)}) (λz=>?_) (by rw[<-ϰ,<-üa];show e);show{.ref Ý,_,ϖa (t':=ĕ) (o:=.tup (r++j)) (λb C q=>ě _ q) Ď ?_,rfl,A (λw=>z (c.Fh.mpr w)) _ Ĳd};show{by rw[ì];show e,_,d.append c,Ϸi _ _}
#print a
nonrec def ixN(n:Â)(i:Æ):É Â:=if 0<=i then(if i<n then À ĝc else Å)else if -(n:Æ)<=i then À (i+n).toNat else Å
def pS{α:Type}(xs:Á α)(i:Æ):É α:=(ixN ë i).bind λj=>xs[j]?
def l4{n:Â}{i:Æ}{j:Â}(h:ixN n i=À j):seqIndex? i n=À j/\j<n /\ -(n:Æ)<=i/\i<n:=by unfold ixN at h;by_cases h0:0<=i;rw[Ï h0]at h;by_cases h1:i<n;rw[Ï h1]at h;let e:ĝc=j:=Ϣ h;show{by rw[ĸi h0 h1,e],by omega,by omega,h1};rw[Ñ h1]at h;cases h;rw[Ñ h0]at h;by_cases h1 : -(n:Æ)<=i;rw[Ï h1]at h;let e:(i+n).toNat=j:=Ϣ h;show{by rw[Āi Ê h1,e],by omega,h1,by omega};rw[Ñ h1]at h;cases h
def Ca{α:Type}{xs:Á α}{i:Æ}{v:α}(h:pS xs i=À v):∃j,seqIndex? i ë=À j/\xs[j]?=À v/\j<ë /\ -(ë:Æ)<=i/\i<ë:=by
 unfold pS at h;cases e:ixN ë i with
 |Å=>rw[e]at h;cases h|À j=>rw[e]at h;let{c,a,b,d}:=l4 e;show{j,c,h,a,b,d}
def z43{α:Type}{xs:Á α}{j:Â}{v:α}(h:xs[j]?=À v):pS xs (j:Æ)=À v:=by
 let a:j<ë:=ϻa.1
 let e:ixN ë (j:Æ)=À j:=by unfold ixN;rw[Ï Ê,Ï Ê];simp
 unfold pS;rw[e];show h
def dL(b:Ö):È:=∀o i,Ĝo b Ä o i=operate [o,i] (œe o i)
def jd(X:Cx)(r:R2):È:=
 ∀(āb slice:Ö)(z8:Á õ) (s:Í) (σ:St) (H:Hp) (x y:V) (v u:Value) (Q:VK),Inv X z8 σ H s->yC x v->yC y u->r x y H Q->
  Ĝo slice Ä v u=operate [v,u] (œe v u)->Ù Ą X.A (ţn āb slice v u) ŏb İ s
def TF(X:Cx)(id:îa)(r:V->Á V->Hp->VK->È):È:=
 ∀(z8:Á õ) (s:Í) (σ:St) (H:Hp) (x:V) (xs:Á V) (v:Value) (us:Á Value) (Q:VK),Inv X z8 σ H s->yC x v->zo xs us->r x xs H Q->
  Ù Ą X.A ļm ŏb İ s
section
variable{X:Cx}{a b:Ö}{ta tb:TE}{pos:Pos}
def jd.or{r f:R2}(h:jd X r)(h':jd X f):jd X (λx y H Q=>r x y H Q\/f x y H Q):=by intro a b d s σ H x y v u Q I e g q c;rcases q with q|q;show h a b d s σ H x y v u Q I e g q c;show h' a b d s σ H x y v u Q I e g q c
def BO{r:R2}(d:jd X r)(m:PE X a ta)(j:PE X b tb)(f:dL b):PE X Ñm śf:=by rw[Øq];show ϧo (GA m j I h λv u c x y l g k e q=>d a b i c σ l x y v u Q g k e q (f _ _))
def oz(K:Ô):R2:=λx y H Q=>∃p xs i v,x=.ref p/\y=.int i/\yZ K H p xs/\pS xs i=À v/\Q v H
def r9(K:Ô):R2:=λx y H Q=>∃p xs i v,x=.ref p/\y=.int i/\xR K H p xs/\pS xs i=À v/\Q v H
def o_:R2:=λx y H Q=>∃z i c,x=.str z/\y=.int i/\Ņ<=å/\pS þf i=À c/\Q ïi H
def l7:jd X (oz X.K):=by
 intro g c m s σ H x y v u Q I E B h n;let{p,P,i,z,rfl,rfl,o,J,q}:=h;cases E;let{t,rfl}:=B;let{d,r,f,O}:=ϙ o;let{j,b,G,R,A,F}:=Ca J;let{w,l,k}:=Éb G;let L:=ϯ;let N:=Tl;let a:EP X m σ Q w s:={z,H,I,k,q};by_cases h0:0<=i;let e:ĝc=j:=by rw[ĸi h0 F]at b;show Ϣ b
 show item_listR ûj h0 Ê Ĺl a n;let e:(i+(d.toArray.size:Æ)).toNat=j:=by rw[Āi Ê A]at b;rw[ĭ,<-L];show Ϣ b
 show ϰe (x:=w) f.isList.typeIs Īl
  (wpAny_getItem_list_neg (Q:=λr C=>r=w/\EP X m σ Q r C) ûj Ê Äm Ê Ĺl {rfl,a}) n
def y0t:jd X (r9 X.K):=by
 intro c b e s σ H x y v u Q I n l h C;let{p,O,i,z,rfl,rfl,g,E,q}:=h;cases n;let{t,rfl}:=l;let{o,r,f,N}:=àa g;let{j,A,B,P,G,L}:=Ca E;let{w,k,d}:=Éb B;let F:=ϯ;let J:=Tl;let a:EP X e σ Q w s:={z,H,I,d,q}
 show ϰe (x:=w) Ûg slot_tuple_getitem.lookup
  (getItem_tuple (j:=j) (Q:=λr m=>r=w/\EP X e σ Q r m) f Ê Ê (by rw[ĭ,<-F];show A) ŀh {rfl,a}) C
def y0s:jd X o_:=by
 intro b a r s σ H x y v u Q I g f h m;let{z,i,c,rfl,rfl,A,n,q}:=h;let{t,rfl}:=g;let{p,rfl}:=f;let{j,d,l,B,e,k}:=Ca n;let o:Ùm=Ņ:=by simp[Ÿc]
 rw[o]at d e k;let w:=Tl
 show tail_any (ēf s z t) slot_str_getitem.lookup (getItem_str (c:=c) (by let e1:decide (i < -(2 ^ 63:Æ))=Ä:=Ē Ê;let e2:decide (i≥2 ^ 63)=Ä:=Ē Ê;rw[e1,e2,Ľf]) (by rw[d];simpa using l) {.str {#[c]},H,Óa _,{_,rfl},q}) m
def Nx(K:Ô):R2:=λx y H Q=>oz K x y H Q\/r9 K x y H Q\/o_ x y H Q
def y0r:jd X (Nx X.K):=l7.or (y0t.or y0s)
def y2r(its:Á Value)(n j:Â)(u:Value):èb (·.setIfInBounds j u) { cls:=.type Ī,Ċ:=.seq Ϥ n }={ cls:=.type Ī,Ċ:=.seq (its.set j u).toArray n }:=by simp[èb]
theorem Inv.lst{a:Á õ}{σ:St}{H:Hp}{s:Í}{p:Ë}{xs:Á V}(I:Inv X a σ H s)(h:H p=À ϧ) :∃(its:Á Value) (n:Â),zo xs its/\ø p=À { cls:=.type Ī,Ċ:=.seq Ϥ n }/\ë<=å:=by let{z,its,n,r,e}:=ĝ p _ h;show{its,n,r,e,z}
def Inv.z33{c:Á õ}{σ:St}{H:Hp}{s:Í}{p:Ë}{xs ys:Á V}{its Ïb:Á Value}{n a:Â}{f:Obj->Obj}(I:Inv X c σ H s)(h:H p=À ϧ)(g:ø p=À { cls:=.type Ī,Ċ:=.seq Ϥ n })(d:f { cls:=.type Ī,Ċ:=.seq Ϥ n }={ cls:=.type Ī,Ċ:=.seq Ći a })(r:zo ys Ïb)(hz:ů<=å)(t:Â) :Inv X c σ (ze H p Ĝa) { s with ç:=ŝc p f,Ė:=t }:=by
 let e:(ŝc p f).get? p=À { cls:=.type Ī,Ċ:=.seq Ći a }:=by rw[ãd f g (by rw[d]<;>rfl),d]
 refine Ēg (x:=p) (e:=p) (by rw[h];trivial) Ť (λb u i q=>(ϯg _ _ (ŧb i)).trans q) {_,e} ?_;show{hz,Ïb,a,r,e}
def x19:V->V->V->Hp->ϫp->È:=λo i v H Q=>∃p xs k j,o=.ref p/\i=.int k/\H p=À ϧ/\ixN ë k=À j/\Q (Ρb (xs.set j v))
def sP:CQ X x19:=by
 intro w s σ H o i v F J u Q I z B C h;let{p,A,k,j,rfl,rfl,l,x,q}:=h;cases z;let{t,rfl}:=B;let{a,n,r,c,y}:=I.lst l;let{b,G,m,g}:=l4 x;let e:=ϯ;let E:=Tl
 let f:Inv X w σ (Ρb (A.set j v)) { s with ç:=ŝc p (èb (·.setIfInBounds j u)) }:=
  I.z33 l c (y2r a n j u) (r.set C j) (by rw[Éa];show y) ĕ
 by_cases h0:0<=k;let d:ϳ=j:=by rw[ĸi h0 g]at b;show Ϣ b
 show W.ki_setAt c h0 Ê (by rw[ĭ,<-e];show g) Ũl;let d:(k+(Ϗb:Æ)).toNat=j:=by rw[Āi Ê m]at b;rw[ĭ,<-e];show Ϣ b
 show W.ki_setBack c Ê (by rw[ĭ,<-e];show m) Ê Ũl
def x4q(lo hi:É Æ)(n:Â):Ŝh.1=((Ś n 0 lo:Â):Æ)/\Ŝh.2.1=((Ś n n hi:Â):Æ)/\Ŝh.2.2=1:=by
 show{?_,?_,rfl};cases lo with
 |Å=>simp[Õe,Ś]|À i=>simp only[Õe,Ś,ϣm,show(1:Æ)>0 by decide,ϋ];by_cases h:i<0;simp only[h,ϋ];rw[Úe āk,Êo,<-Űh];simp only[h,ċa];let{k,rfl}:=ŋa (Œc h);rcases ōf k n with q|q;rw[ģ,ϥa q,Úe ėg];show ęf ĝg;rw[ģ,ĕf q,űh ėg];show ęf Şe
 cases hi with
 |Å=>simp[Õe,Ś]|À i=>simp only[Õe,Ś,ϣm,show(1:Æ)>0 by decide,ϋ];by_cases h:i<0;simp only[h,ϋ];rw[Úe āk,Êo,<-Űh];simp only[h,ċa];let{k,rfl}:=ŋa (Œc h);rcases ōf k n with q|q;rw[ģ,ϥa q,Úe ėg];show ęf ĝg;rw[ģ,ĕf q,űh ėg];show ęf Şe
def x4p(its:Á Value)(lo hi:É Æ):Ąp Ϥ lo hi Å=((its.drop (Ś ϱa 0 lo)).take (Ś ϱa ϱa hi-Ś ϱa 0 lo)).toArray:=by let{c,a,b}:=x4q lo hi its.toArray.size;unfold Ąp;rw[c,a,b];simp only[ęn,òj,ĭ]<;>rfl
def rC(K:Ô):V->É Æ->É Æ->Hp->VK->È:=λx c b H Q=>∃a xs,x=.ref a/\yZ K H a xs/\∀p,H p=Å->Q Ŷ (Ρb (Xs xs c b))
def x4l:YO X (rC X.K):=by intro z s σ H x v y u e f t Q I m l i j h;let{a,c,rfl,k,q}:=h;cases m;let{p,r,g,n}:=ϙ k;let d:=ϯ;show{Ī,_,Īl,g.isList.typeIs,?_};refine wpAny_getItem_list_slice ķe l i j .none ô ?_ Äm;rw[x4p,<-d];show{.ref Ý,_,ϖa (t':=ĕ) (o:=.lst (Xs c e f)) (λb w q=>ě _ q) Ď ?_,rfl,q _ Ĳd};show{ý (fB c e f) n,_,0,(Ϡj (Ś üa 0 e)).take (Ś üa üa f-Ś üa 0 e),Ÿ _ rfl}
nonrec def jt:V->Ð
 |.zO=>Ã|.bl _=>Ã|.int _=>Ã|.str _=>Ã|_=>Ä
nonrec def jI:V->V->Ð
 |.zO,.zO=>Ã|.bl a,.bl b=>a==b|.bl a,.int b=>Ãm==b|.int a,.bl b=>a==ñf|.int a,.int b=>a==b|.str a,.str b=>a==b|_,_=>Ä
def fj{A:ù}{s:Í}{y x:V}{u v:Value}(f:yC y u)(c:yC x v)(g:jt y=Ã)(e:jt x=Ã):ŝb A s u v (jI y x):=by
 cases y with
 |zO=>
  cases f;cases x with
  |zO=>cases c;show üh _|bl b=>cases c;show SeqAt.EqAt.none_bool b|int b=>let{t,rfl}:=c;show SeqAt.EqAt.none_int b t
  |str b=>let{t,rfl}:=c;show SeqAt.EqAt.none_str b t
  |_=>show Þ (show Ä=Ã from e) Ħ
 |bl a=>
  cases f;cases x with
  |zO=>cases c;show SeqAt.EqAt.bool_none a|bl b=>cases c;show SeqAt.EqAt.bool_bool a b|int b=>let{t,rfl}:=c;show SeqAt.EqAt.bool_int a b t
  |str b=>let{t,rfl}:=c;show SeqAt.EqAt.bool_str a b t
  |_=>show Þ (show Ä=Ã from e) Ħ
 |int a=>
  let{d,rfl}:=f;cases x with
  |zO=>cases c;show SeqAt.EqAt.int_none a d|bl b=>cases c;show SeqAt.EqAt.int_bool a d b|int b=>let{t,rfl}:=c;show SeqAt.EqAt.int_int a d b t
  |str b=>let{t,rfl}:=c;show Ĝm a d b t
  |_=>show Þ (show Ä=Ã from e) Ħ
 |str a=>
  let{d,rfl}:=f;cases x with
  |zO=>cases c;show SeqAt.EqAt.str_none a d|bl b=>cases c;show SeqAt.EqAt.str_bool a d b|int b=>let{t,rfl}:=c;show Ěm a d b t
  |str b=>let{t,rfl}:=c;show SeqAt.EqAt.str_str a d b t
  |_=>show Þ (show Ä=Ã from e) Ħ
 |_=>show Þ (show Ä=Ã from g) Ħ
def qY(x:V)(u:Value):Ð:=match u with
 |.none=>jI .zO x|.bool b=>jI ıb x|.int i _=>jI Ϩ x|.str z _=>jI (.str z) x|_=>Ä
def Gb{x y:V}{u:Value}(r:yC y u)(f:jt y=Ã):qY x u=jI y x:=by
 cases y with
 |zO=>cases r;rfl|bl b=>cases r;rfl|int i=>let{t,rfl}:=r;rfl
 |str z=>let{t,rfl}:=r;rfl
 |_=>show Þ (show Ä=Ã from f) Ħ
theorem Jz{x:V}:∀{xs:Á V}{us:Á Value},zo xs us->ũd jt=Ã->us.any Ãb=xs.any λy=>jI y x
 |_,_,.nil,_=>rfl|y::xs,u::us,.cons r t,f=>by rw[Ź,Đ]at f;rw[Ďd,Ďd,Gb r f.1,Jz t f.2]
theorem To{A:ù}{s:Í}{x:V}{v:Value}(c:yC x v)(b:jt x=Ã):∀{xs:Á V}{us:Á Value},zo xs us->ũd jt=Ã->∀u∈us,ŝb A s u v (qY x u)
 |_,_,.nil,_=>λu a=>by cases a|y::xs,u::us,.cons r t,f=>λd a=>by rw[Ź,Đ]at f;rcases Ğ a with rfl|a;rw[Gb r f.1];show fj r c f.1 b;show To c b t f.2 d a
def Mr(x:V)(xs:Á V):Ð:=xs.any λy=>jI y x
def Nv(K:Ô)(a:Ð):R2:=λx y H Q=>∃p xs,y=.ref p/\(yZ K H p xs\/xR K H p xs)/\jt x=Ã/\ũd jt=Ã/\Q (.bl (if a then !Mr x xs else Mr x xs)) H
def y82:xG X Ģe (Nv X.K Ä):=by rw[Čq];rcases b with b|b;let{a,r,d,j}:=ϙ b;refine SeqAt.in_listAt Ãb üj Îf {.bl _,H,I,rfl,?_};rw[Òq];let{a,r,d,j}:=àa b;refine SeqAt.in_tupleAt Ãb d Îf {.bl _,H,I,rfl,?_};rw[Òq]
def y89:xG X œf (Nv X.K Ã):=by rw[Čq];rcases b with b|b;let{a,r,d,j}:=ϙ b;refine SeqAt.notIn_listAt Ãb üj Îf {.bl _,H,I,rfl,?_};rw[Òq];let{a,r,d,j}:=àa b;refine SeqAt.notIn_tupleAt Ãb d Îf {.bl _,H,I,rfl,?_};rw[Òq]
def y8a:xG X œf (εc (!(!(Ϻe j i 0 Şa 1).isEmpty))):=by rw[èq];show notIn_str {.bl _,H,I,rfl,q}
def z56:vg X þd (λxs H Q=>∃p ys,xs=ķd/\ϳg/\Q ώi H):=by intro i s σ H xs j Q I r h;let{p,ys,rfl,b,q}:=h;let{u,rfl,f}:=qL r;cases f;let k:=Tl;rcases b with b|b;let{e,d,c,g}:=ϙ b;let a:=ϰ;show Calls.call_len_list c.isList ϡd {.int ů,H,Óa _,{ĕ+1,by rw[ĭ,a]},q};let{e,d,c,g}:=àa b;let a:=ϰ;show len_tuple c ϡd {.int ů,H,Óa _,{ĕ+1,by rw[ĭ,a]},q}
def z57:vg X þd (λxs H Q=>∃z,xs=[.str z]/\Ņ<=å/\Q ñp H):=by intro b s σ H xs a Q I r h;let{z,rfl,d,q}:=h;let{u,rfl,t,rfl}:=qL r;let c:=Tl;show len_str Ê {.int Ņ,H,Óa _,{_,rfl},q}
def vg.or{f:Value}{r d:Á V->Hp->VK->È}(h:vg X f r)(h':vg X f d):vg X f (λxs H Q=>r xs H Q\/d xs H Q):=by intro c s σ H xs b Q I a q;rcases q with q|q;show h c s σ H xs b Q I a q;show h' c s σ H xs b Q I a q
def z59:vg X Ěa (λxs H Q=>∃p ys,xs=ķd/\ϳg/\∀l,H l=Å->Q Ŧb Üo):=by
 intro z s σ H xs B Q I r h;let{p,ys,rfl,i,q}:=h;let{u,rfl,A}:=qL r;cases A
 have g:∀(a:Á Value),zo ys a->ů<=å->∀(c:Heap)(f:Â),(∀b o',ø b=À o'->c.get? b=À o')->
   c.get? Ý=À { cls:=.type Ī,Åd:=Å,Ċ:=.seq ϴa f,źd:=#[] }->EP X z σ Q Ğa { s with ç:=c }:=λa d k c f j e=>
  {.ref Ý,_,ϖa (t':=ĕ) j Ď (show xo ö X.w _ c _ Ĝa from{k,a,f,d,e}),rfl,q _ Ĳd}
 rcases i with i|i;let{a,d,v,k}:=ϙ i;let m:=ϰ;let{o,y,x,n,t}:=v.isList;show Ūn p Ť y x t çl ϡd;let{a,d,v,k}:=àa i;let m:=ϰ;let{o,y,x,n,t}:=v;show Ūn p Ϡb y x t çl ϡd
def eM:vg X ża (Ιd ((yZ X.K H p ys/\∀l,H l=Å->Q Ŧb Ûo)\/(xR X.K H p ys/\Q Ŷ H))):=by
 intro j s σ H xs x Q I r h;let{p,ys,rfl,h}:=h;let{u,rfl,v}:=qL r;cases v;rcases h with⟨d,q⟩|⟨d,q⟩;let{a,g,f,k}:=ϙ d;let m:=Ča;show call_tuple_list ûj (λc n=>?_) ϡd;let i:Inv X j σ H { s with ç:=c }:=Ųd (t':=ĕ) n
 let t:Inv X j σ (ze H Ĥo ċe) { s with ç:=c.push { cls:=.type ώ,Ċ:=.seq ϴa } }:=
  i.laid (t':=ĕ) (λb o e=>ě _ e) Ď (show xo ö X.w _ _ _ ċe from{k,a,g,Ϸi _ _})
 show{.ref Ĥo,_,t,rfl,q _ (i.zi.fresh Ď)};let{a,g,f,k}:=àa d;show call_tuple_same f {.ref p,H,I,rfl,q}
def So(K:Ô)(T:îa)(x:V)(H:Hp):È:=match x with
 |.str _=>T = ϐe|.int _=>T = ĭc|.ref p=>(T = Ī/\∃xs,yZ K H p xs)\/(T = ώ/\∃o,Ãa p=À o/\Êb=.type ώ/\Ŭe=Å) \/
   (T = Ña/\((∃kvs,H p=À ũ)\/∃kvs,H p=À ϫb))\/(T = ś/\∃S n,H p=À (.set S n))
 |_=>Ā
def z0w{m:Á õ}{σ:St}{H:Hp}{s:Í}{T:îa}{x:V}{v:Value}(I:Inv X m σ H s)(r:yC x v)(f:So X.K T x H) :ñb v T/\∀a,v=.ref a->∃ob,ø a=À ob/\ob.dict=Å:=by
 cases x with
 |str z=>let{t,rfl}:=r;cases(show T = ϐe from f);show{ēf s z t,λ_ e=>nomatch e}
 |int i=>let{t,rfl}:=r;cases(show T = ĭc from f);show{Ťi s i t,λ_ e=>nomatch e}
 |ref p=>
  cases r;rcases f with⟨rfl,u,k⟩|⟨rfl,o,b,l,g⟩|⟨rfl,b⟩|⟨rfl,S,n,b⟩;let{q,_,j,_}:=ϙ k;show{j.isList.typeIs,λa e=>?_};cases e;let{o,n,e,c,g,_}:=j;show{o,e,g};show{{o,Ϝ p o b,l},λa e=>?_};cases e;show{o,Ϝ _ o b,g};let z:∃o,ø p=À o/\ğo:=by rcases b with⟨h,b⟩|⟨h,b⟩;rw[ņq];rw[ņq]
  let{o,e,d}:=z;rw[İq];let{o,_,_,_,e,d,_}:=ĝ p _ b;rw[İq]
 |_=>show ĝa f
nonrec def z0l(K:Ô)(T:îa)(r:V->Á V->Hp->VK->È)(b:TE):TE:=λσ H Q=>b σ H λx a=>So K T x a/\r x [] a Q
nonrec def z0k(K:Ô)(T:îa)(r:V->Á V->Hp->VK->È)(b:TE)(t:TA):TE:=λσ H Q=>b σ H λx a=>So K T x a/\t σ a λc d=>r x c d Q
variable{o e:Ö}{es:Á Ö}{to:TE}{t:TA}{Ĵ:Ç}{Èa Ϭ:Pos}{T id:îa}{r:V->Á V->Hp->VK->È}
def y8q(k:žf T)(c:Slot T Ĵ id)(d:ĺg Þb=pure Çf)(u:TF X id r)(q:PE X o to)(a:Î Ϭe q12)(b:Î Ŀb q12):PE X ϝl (z0l X.K T r to):=by rw[Øq];show wpAny_Call_method0_late a b (zy (q i s σ H _ I h) λv n e=>?_);let{x,t,f,g,m,j}:=e;let{l,p}:=z0w f g m;show{T,id,k,c,d,l,p,Âh rfl (PySem.evalArgs_none (u i n σ t x [] v [] Q f g .nil j))}
def y8p(p:žf T)(g:Slot T Ĵ id)(i:ĺg Þb=pure Çf)(N:TF X id r)(F:PE X o to)(O:PA X Ę t)(b:Î Ϭe q12)(f:((Ĩc Ϭ (Ób Ę Û)).all Ŋi&&(ϑk).all Ům
   && decide ((Ę).length+([]:Á Keyword).length+ŗk<30))=Ã:=by rfl)
  (c:Î Ŀb q12)(B:Î Ĺc q12)(a:Î ((Ĩc Ϭ Ěi).any (·.1)=Ä) q12) :
  PE X Ůl (z0k X.K T r to t):=by
 rw[ϑq];show wpAny_Call_method_late b f c rfl (zy (F j s σ H _ I h) λv z d=>?_);let{x,C,k,l,y,n}:=d;let{u,A}:=z0w k l y;show{T,id,p,g,i,u,A,?_};let m:=O Ϭ j z σ C _ k n;rw[B]at m ⊢;refine Âh (by exact(Ä||(Ĩc Ϭ Ěi).any (·.1))=Ä;rw[a]<;>rfl) (Ϭl ?_);show zy m λG q d=>?_
 let{w,L,E,J,P}:=d;show N j q σ L x w v G Q E l J P
#print a
def CO(X:Cx)(id:îa)(r:V->Á V->Hp->VK->È):È:=
 ∀(z8:Á õ) (s:Í) (σ:St) (H:Hp) (x:V) (xs:Á V) (v:Value) (us:Á Value) (Q:VK),Inv X z8 σ H s->yC x v->zo xs us->r x xs H Q->
  Ù Ą X.A ļm ŏb İ s
def zo.one{x:V}{us:Á Value}(h:zo [x] us):∃u,us=[u]/\yC x u:=by cases h with|ñ r t=>cases t;show{_,rfl,r}
def zo.zero:∀{us:Á Value},zo [] us->us=[]
 |_,.nil=>rfl
theorem zo.dropLast{xs:Á V}{us:Á Value}(h:zo xs us):zo Ķi us.dropLast:=by
 induction h with
 |nil=>show .nil|ñ r t ih=>
  cases t with
  |nil=>show .nil|ñ q t'=>show .cons r ih
theorem zo.rep{xs:Á V}{us:Á Value}(h:zo xs us):∀k:Â,zo (ϵo).flatten (Ő k us).flatten
 |0=>.nil|k+1=>by rw[Ēb,Ēb,ŏc,ŏc];show Ϣf h (zo.rep h k)
def z79{α:Type}(l:Á α):l.eraseIdx (īb-1)=l.dropLast:=by
 induction l with
 |nil=>rfl|ñ a r ih=>
  cases r with
  |nil=>rfl|ñ b r=>
   let e:(ϣp).length-1=((b::r).length-1)+1:=by let d:(ϣp).length=ϯ+2:=rfl;let c:(b::r).length=ϯ+1:=rfl;omega
   rw[e,List.eraseIdx_cons_succ,ih]
   all_goals rfl
theorem i7(its:Á Value):∀(k:Â)(acc:Á Value),
  Űi (λx1 x2=>x1++x2) Ħo (Ő k Ϥ)=(acc++(śo).flatten).toArray
 |0,acc=>by simp|k+1,acc=>by
  let e:Ħo++Ϥ=(ϊi).toArray:=by simp
  let e2:ϊi++(śo).flatten=acc++(Ő Ĩ its).flatten:=by rw[Ēb,ŏc,Ţ]
  rw[<-e2,<-i7 its k ϊi,<-e,Ēb,Êa]
section
variable{X:Cx}{z8:Á õ}{σ:St}{H:Hp}{s:Í}{l b:Ë}{xs ys:Á V}
def Inv.Ff{its Ïb:Á Value}{n:Â}{f:Ú Value->Ú Value}{t':Â}(I:Inv X z8 σ H s)(a:H l=À ϧ)(e:ø l=À { cls:=.type Ī,Ċ:=.seq Ϥ n })(d:f Ϥ=Ći)(hv:zo ys Ïb)(hz:ů<=å) :Inv X z8 σ Üo { s with ç:=ŝc l (èb f),Ė:=t' }:=by let q:=PySem.IsL.update e f;rw[d]at q;refine Ēg (x:=l) (e:=l) (by rw[a];show trivial) Ť (λg u b c=>(ϯg â (èb f) (ŧb b)).trans c) {_,q} ?_;show{hz,Ïb,_,hv,q}
def Inv.bc{its:Á Value}{t':Â}(I:Inv X z8 σ H s)(hv:zo ys its)(hz:ů<=å) :Inv X z8 σ (ze H Ý Ĝa) { s with ç:=Üa { cls:=.type Ī,Ċ:=.seq Ϥ },Ė:=t' }:=
 ϖa Ļh Ď {hz,its,0,hv,Ÿ _ rfl}
theorem Inv.fresh(I:Inv X z8 σ H s):H Ý=Å:=ğb Ď
def Inv.Lo(I:Inv X z8 σ H s)(a:H l=À ϧ):ë<=å/\∃(its:Á Value) (n:Â),zo xs its/\ë=ϱa/\ø l=À { cls:=.type Ī,Ċ:=.seq Ϥ n }:=by let{z,its,n,r,e}:=ĝ l _ a;show{z,its,n,r,ϯ,e}
def mZ{n:Â}(h:n<=å):ϥd n=Ä:=by unfold ϥd;show Ē Ê
#print a
section
variable{X:Cx}
def x0w:V->Á V->Hp->VK->È:=λx a H Q=>∃l xs y,x=.ref l/\a=[y]/\H l=À ϧ/\ë<å/\Q .zO (ze H l én)
def mJ:CO X şn x0w:=by intro j s σ H x g v k Q I d f h;let{l,i,y,rfl,rfl,b,m,q}:=h;cases d;let{u,rfl,c}:=f.one;let{z,a,n,r,o,e}:=I.Lo b;refine Ŕc F.slot_list_append {_,e,rfl} F.entry_list_append (F.args_list_append_2 _ _) (PySem.list_append l ϴa n u Ņh) {e,?_};refine{.zO,_,I.Ff (Ïb:=a++[u]) b e ô (ϕc (.cons c .nil)) ?_,rfl,q};rw[ì,åf];omega
def x16:V->Á V->Hp->VK->È:=λx a H Q=>∃l xs y,x=.ref l/\a=[]/\H l=À ϧ/\xs[ë-1]?=À y/\Q y (ze H l (.lst Ķi))
def y3b:CO X "list.pop" x16:=by
 intro t s σ H x o v w Q I j k h;let{l,p,y,rfl,rfl,d,g,q}:=h;cases j;let b:=k.zero;subst b;let{z,a,n,r,m,e}:=I.Lo d;let{u,f,i}:=Éb g
 let c:ϴa[Ϗb-1]?=À u:=by exact ϴa[ìa-1]?=À u;rw[<-Ōa,<-m];show f
 refine Ŕc F.slot_list_pop {_,e,rfl} F.entry_list_pop (F.args_list_pop_1 _) (MeetsSeq.list_pop_last l ϴa n u c Ņh) {e,?_};show{y,_,I.Ff (Ïb:=a.dropLast) d e ?_ r.dropLast ?_,i,q};exact a.toArray.eraseIdxIfInBounds (Ϗb-1)=a.dropLast.toArray;rw[ĭ,List.eraseIdxIfInBounds_toArray,z79];rw[ϫl];omega
def x18:R2:=λx y H Q=>∃l k xs,x=.ref l/\y=.int k/\H l=À ϧ /\ -(2 ^ 63)<=k/\k<2 ^ 63/\ë*ϳ<=å/\
 ∀p,H p=Å->Q Ŷ (Ψ (.lst (Óo).flatten))
def lj{α:Type}(xs:Á α)(k:Â):(ϵo).flatten.length=k*ë:=by
 induction k with
 |ň=>simp|Ŝ k ih=>rw[Ēb,ŏc,ì,ih,đi,ĕd]
theorem y8b:xG X ŉi x18:=by
 intro L s σ H x y v u Q I C w h;let{l,k,N,rfl,rfl,G,E,J,p,q}:=h;cases C;let{t,rfl}:=w;let{z,b,n,r,K,e}:=I.Lo G;have f:Ĝb*ϳ<=å:=by rw[ĭ,<-K];show p
 let g:¬ Ĝb*ϳ>åp/8:=by
  let:(å:Â)<=åp/8:=by decide
  omega
 let i:¬ (!Builtin.List.listFitsIndex k)=Ã:=by rw[fitsIndex_both E J];show Ħ
 let c:¬ ϥd (Ĝb*ϳ)=Ã:=by rw[mZ f];show Ħ
 let d:Űi ώn #[] (Ő (if b.toArray.isEmpty=Ã then 0 else ϳ) ëb)=(Ő ϳ b).flatten.toArray:=by
  let A:∀m:Â,Űi ώn #[] (Ő m ëb)=(Ő m b).flatten.toArray:=λm=>by let:=i7 b m [];rw[òc]at this;rw[Ôq]
  rw[A];cases b with
  |nil=>simp|ñ a r'=>rw[Ñ ô]
 refine wpAny_binaryOp_repeat_ref (T := Ī) (U := ĭc) Ò {_,e,rfl} (λB=>Ťi B k t) noFill_list_mul F.fills_int_mul Ün repeat_list F.slot_int_index.lookup
  (Ŕc Ün (Ťi s k t) F.entry_int_rmul (F.args_int_rmul_2 _ _) (int___rmul___int_list k t l ëb n)
   {e,rfl,{_,e,rfl},Ŕc F.slot_list_mul {_,e,rfl} F.entry_list_mul (F.args_list_mul_2 _ _) (AutoListH.list___mul___list_int_3 l ëb n k t i g c) {e,?_}})
 rw[d];show{.ref _,_,I.bc (t':=ĕ) (r.rep ϳ) (by rw[lj,Ço];show p),rfl,q _ Ϟc}
#print a
#print L2
namespace Att
open Ł Ŕj PySem.Calls Ŋ
def y0e{P:ņg}{h:Heap}:∀(ns:Á Æ)(vs:Á Value),WellAll P h vs ŉc->øb vs ns:=by
 intro ns
 induction ns with
 |nil=>intro vs w;rw[øe]at w;cases w;show .nil|ñ n ns ih=>
  intro vs w;rw[Ļ]at w;cases w with
  |ñ a b=>cases a;show .cons _ _ (ih _ b)
def script_of{l:OpenLaw}{n:Â}(s:ϣj=À n){P:ņg}{h:Heap}{ĕa:Á WData}{b:Á Value}(c:l.row.toRowW.claim.pre ĕa=Ã)(j:WellAll P h b ĕa) :∃a vs ns,b=[ę a]/\ĕa=[WData.list ŉc]/\Ģ a=À { cls:=.type Ī,Ċ:=.seq Ža }/\øb vs ns/\ť<=n:=by
 let i:WShape.hasAll [] ĕa [.list .int]=Ã:=ņn.1;let k:l.pre.holds [] { ĕa:=ĕa }=Ã:=ņn.2;let{d,r,rfl,m,p}:=hasAllW_cons i;obtain rfl:=hasAllW_nil p;let{u,rfl,t}:=hasW_list m;let{ns,rfl}:=items_int t
 let e:ť<=n:=by
  unfold OpenLaw.pre at k
  let f:(WTm.not (.lt (.lit ŗn) (.len (.arg 0)))).holds [] { ĕa:=[.list (ϣ .int)] }=Ã:=by let f:=(holds_andW k).1;rw[s]at f;show f
  let g:=condW_of f (w_not (w_lt w_lit (w_len_list (w_arg rfl))));rw[ã]at g;show Ėf λq=>?_
  let o:(n:Æ)<((ť:Â):Æ):=by omega
  first
   |(rw[ú o]at g;show Þ g Ò)
   |(simp at g;omega)
 cases j with
 |ñ w1 w2=>
  cases w2;cases w1 with
  |list ho hall=>show{_,_,ns,rfl,rfl,ho,y0e ns _ hall,e}
def post_true(l:OpenLaw)(ĕa:Á WData):l.row.toRowW.claim.post ĕa ųf ĕa=Ã:=
 postW_of (r:=ąi) (X:=Ϸo)
  (show ϥo [] ųf .bool=Ã by first|rfl|decide|simp[ϥo,WShape.arms,WShape.armsAll])
  (show(WTm.eq .res (.lit ųf)).value [] { ĕa:=ĕa,res:=À ųf,after:=ĕa }=À (.bool Ϸo)from w_eq_bool (w_res rfl) w_lit) rfl
#print Att
namespace L2
open Ł Ş Ŋ
theorem z18:∀{vs:Á Value}{ns:Á Æ},øb vs ns->zo Ϯa vs
 |_,_,.nil=>.nil|_,_,.cons n t h=>.cons {t,rfl} (z18 h)
def dJ(H:Hp):È:=∀b,H b=Å\/∃o xs,H b=À žo
def y1z{P:ï}{w:æ}{K:Ô}{t S:Ç->É Value}{Y:ZU}{k:Â}{Q a:Ë}{fd:Ň}{x:Ç}{sp:Sp}{c:Í}{vs:Á Value}{ns:Á Æ}(KX:Ž c.heap)(A:Ϫi ġ t)(g:Ϫi Ūi S)(O:∀x:Ç,x ≠ Ši->S x=ϔ x)(J:c.heap.NoLimit)(hg:c.gens=#[])(L:ĺi a=À { cls:=.type Ī,Ċ:=.seq Ža })(hi:øb vs ns)(hl:ť<=å)(hr:ym k œd)(F:∀Ì:Heap,Ž Ì->Ŕd ġ t->xg P w K t Ì Y k Q fd [x] sp)(l:∀(s:Í)(u:Value),Įb s fd {[u],[]} [(x,u)])(N:∀H:Hp,dJ H->yZ K H a Ϯa->sp Ϯ H Ĩm λ_ _ _=>Ā)(U:∀H e s',Y [] H c (λ_ _ _=>Ā) e s'->Ā) :ĭb śb œd ĥl ök c:=by
 let rv:=z18 hi;let G:=hi.length
 have j:∀H:Hp,dJ H->yZ K H a Ϯa->wY P w H c.heap->(∀b,H b≠Å->b=a)->(H a≠Å->Ãa a=Å)->
   ĭb śb œd ĥl ök c:=by
  intro H hO hS zi Z hK;let f:∀{b:Ë}{o:Obj},ĺi b=À o->H b=Å->(òe).get? b=À o:=λe n=>z9z e n
  let R:∀{b:Ë}{o:Obj}{y:Ú Ďc}{C:Â},ĺi b=À o->ϵ=.dict y C->H b=Å:=λ{b o y C} e d=>by
   cases q:H b with
   |Å=>rfl|À u=>have T:b=a:=Z b ϥh;subst T;rw[L]at e;cases e;let d':Data.seq Ža _=Data.dict y C:=d;cases d'
  let i:∀{b:Ë}{m:Ç->É Value},Ϫi b m->(òe).Ns b m:=λ{b m} ⟨o,y,C,e,d,r⟩=>{o,y,C,f e (R e d),d,r}
  let E:Ž òe:=λb o e=>f (KX b o e) (by
   cases q:H b with
   |Å=>rfl|À u=>have T:b=a:=Z b ϥh;subst T;rw[hK ϥh]at e;cases e)
  let hM:Mod K t òe:={E,i A,{S,i g,O},let ⟨mc,h1,h2⟩:=J;{mc,i h1,h2}};let e0:Wv P w K t òe œd [] c H:={rfl,hM,λb o e=>y56 e,Œb (y00 _ _),trivial,λb g=>Þ (show b∈([]:Á Ë)from g) ô,zi,.of_eq hg};show îd ((F _ E (i A)).run œd [] c H {Ϯ,[]} Ϯ Ϯ _ _ hr e0 (l c Ŗ) ϊh (N H hO hS)) λr s' h=>?_
  cases r with
  |ϔe e=>show(U H e s' h).elim|ok fl=>
   cases fl with
   |next=>show ĝa h|brk=>show ĝa h|Ôc=>show ĝa h|ret u=>
    let{v,H',os,I,X,p,r',q}:=h;let q':v=.bl Ã:=q;subst q';obtain rfl:u=żf Ã:=r';show{rfl,OldK.of_keep λb o e=>?_,os,I};cases q:H b with
    |Å=>show X.keep b o e q (by intro z;show Þ (show b∈([]:Á Ë)from z) ô) ô|À u=>
     rcases hO b with z|⟨ob,xs,z⟩
     .rw[q]at z;cases z
     .let z2:=X.t5 b ob _ z;let{e1,_}:=zi b _ z;let{e2,_}:=p b _ z2;rw[e]at e1;cases e1;show e2
 cases hk:Ãa a with
 |À o=>have e:=KX a o hk;rw[L]at e;cases e;refine j Ĉc ïn (.inr {_,Ža,_,hk,rfl,rfl,rfl,by rw[ĭ,G];show hl,by simpa using rv}) (λb u z=>by let B:(Å:É HO)=À u:=z;cases B) (λb z=>Þ rfl z) λz=>Þ rfl z|Å=>show j (λb=>if b=a then À (.yj { cls:=.type Ī,Ċ:=.seq Ža } (Β Ϯa))else Å) (λb=>?_) (.inl (.inr {{ cls:=.type Ī,Ċ:=.seq Ža },Ï rfl})) (λb u z=>?_) (λb z=>?_) λ_=>hk;by_cases g:b=a;show .inr {_,_,Ï g};show .inl ųj;by_cases g:b=a;let B:=(Ï g).symm.trans z;cases B;subst g;show{L,by rw[ã];show hl,vs,_,rv,L};let B:=(ųj).symm.trans z;cases B;by_cases g:b=a;show g;show Þ ųj z
nonrec def Zh(s:Ü)(j:Â):Ü:=match s with
 |.ClassDef _ _ _ Ćb _ _ _ _ _ _ _=>body.getD j ϓm|_=>.Pass {0,0,0,0}
nonrec def jj(s:Ü):Ħp:=match s with
 |.FunctionDef _ a _ _ _ _ _ _ _ _=>a|_=>{ posonlyargs:=[],ĕa:=[],vararg:=Å,kwonlyargs:=[],kw_defaults:=[],kwarg:=Å,defaults:=[] }
nonrec def u9(s:Ü):Á Ü:=match s with
 |.FunctionDef _ _ b _ _ _ _ _ _ _=>b|_=>[]
nonrec def za(s:Ü):ða:=match s with
 |.FunctionDef _ _ _ _ _ _ sc _ _ _=>sc|_=>{ kind:=.function,ůb:=[],isGenerator:=Ä,isCoroutine:=Ä }
abbrev xT:ZU:=λ_ _ _ _ _ _=>Ā
abbrev E0:XK:=λ_ _ _=>Ā
def Ys{X:Cx}:Xn xT X E0:=λ_ _ _ _ _ _ _ h=>Ϩc
structure Fun(K:Ô)(x qual:Ç)(st:Ü)(f:Ë)(fd:Ň):È where
 ex:∃(oc:Value) (od:É Ë) (kV doc pm:Value) (an:É Ë) (cdv ct:Value) (osl:Ú ϯa),
  fd=ϫc x qual ŝd ßa ŗ .none kV doc pm an cdv ct/\Ãa f=À {oc,od,.func fd,osl}/\Ţb K cdv qual=Ã
 kp:Þa K ī=Ã
section
variable{P:ï}{w:æ}{K:Ô}{mg:Ç->É Value}{Ì:Heap}
def Fun.ok{x a:Ç}{st:Ü}{f:Ë}{i:Ň}{N ps:Á Ç}{k:Â}{sp:Sp}(F:Fun K x a st f i)(S:zn N ps ŗ)(e:∀vs H Q E,sp vs H Q E->ē=ħ)(c:∀(b:Value)(A:ù)(ċ:Á Env)(s:Í)(H:Hp)(vs:Á V)(Q:VK)(E:XK),ym k Ĕl->sp vs H Q E->
   ∃t,ul (Ŋk).qk ßa t/\t { nx:=λ_ H'=>Q .zO H',rt:=Q } ũc H):xg P w K mg Ì xT Ĩ f i ps sp:=by
 let{p,u,kV,m,r,o,b,v,l,rfl,j,g}:=F.ex;show i6 j g S e λA ċ s H vs Q E n d=>?_
 rw[ĵq]
def Fun.binds{x a:Ç}{st:Ü}{f:Ë}{g:Ň}{ps:Á Ç}(F:Fun K x a st f g)(h:∀(kV b e:Value)(d:É Ë)(c ct:Value)(us:Á Value),éa=ħ->Þg (ϫc x a ŝd ßa ŗ .none kV b e d c ct) {us,[]}=pure Ąc):uK K g ps []:=by let{l,m,kV,b,e,d,c,ct,i,rfl,k,j}:=F.ex;show .all (h kV b e d c ct)
def iA{x a:Ç}{st:Ü}{f:Ë}{i:Value}{j g:É Ë}{e:Ú ϯa}{kV d h b ct:Value}(l:Ãa f=À {i,j,.func ĳk,e})(c:Ţb K b a=Ã)(k:Þa K ī=Ã):Fun K x a st f ĳk:={{i,j,kV,d,h,g,b,ct,e,rfl,l,c},k}
#print a
def zQ{A:ù}{k:Â}(a:ym k A):Ťa+1<Ϛ:=Öb (åc (by decide:1<=64) _) a.units
def x4s{n:Â}(h:n<=1000):n<å:=Öb h Ò
def kS{A B:È}(h:B):if Ä=Ã then A else B:=by rw[Ñ Ħ];show h
def kT{A B:È}(h:A):if Ã=Ã then A else B:=by rw[Ï rfl];show h
def yF(H H':Hp):È:=∀b o,H b=À o->H' b=À o
def Ša(H:Hp):yF H H:=λ_ _ h=>h
def yF.trans{H d e:Hp}(a:yF H d)(b:yF d e):yF H e:=λc o h=>b c o (a c o h)
def yF.free{H H':Hp}(e:yF H H'){l:Ë}(h:H' l=Įo):H l=Įo:=by
 cases q:H l with
 |Å=>rfl|À o=>rw[e l o q]at h;cases h
#print L2
set_option linter.all false
set_option maxRecDepth 100000
set_option maxHeartbeats 4000000
namespace L2
open Ł Ş Ŋ
def Def(K:Ô)(a:Ç->É Value)(x:Ç)(st:Ü)(ps:Á Ç):È:=
 ∃(f:Ë) (fd:Ň),Fun K x x st f fd/\a x=À ī/\uK K fd ps []
def v8(P:ï)(w:æ)(K:Ô)(b:Ç->É Value)(a:Heap)(x:Ç)(ps:Á Ç)(k:Â)(sp:Sp):È:=
 ∃(f:Ë) (fd:Ň),b x=À ī/\Þa K ī=Ã/\uK K fd ps []/\xg P w K b a xT k f fd ps sp
def v7(a:Ç->É Value)(x:Ç)(v:V):È:=∃u,a x=À u/\yC v u
section
variable{P:ï}{w:æ}{K:Ô}{mg:Ç->É Value}{Ì:Heap}
theorem Def.ok{x:Ç}{st:Ü}{N ps:Á Ç}{k:Â}{sp:Sp}(d:Def K mg x st ps)(S:zn N ps ŗ)(c:∀vs H Q E,sp vs H Q E->ē=ħ)(a:∀(f:Ë)(b:Value)(A:ù)(ċ:Á Env)(s:Í)(H:Hp)(vs:Á V)(Q:VK)(E:XK),ym k (ġb (ïb x ŗ Ý f b))->sp vs H Q E->
   ∃t,ul (qW xT P w K mg Ì N x ŗ f b A ċ s H E).qk ßa t/\t { nx:=λ_ H'=>Q .zO H',rt:=Q } ũc H):v8 P w K mg Ì x ps Ĩ sp:=by
 let{f,e,F,h,g}:=d;show{f,e,h,F.kp,g,ŉa S c (a f)}
#print a
section
variable{X:Cx}{x:Ç}{p pos:Pos}{e:Ö}{es:Á Ö}{t:TA}{ps:Á Ç}{j k:Â}{sp:Sp}{v:V}{T:îa}
nonrec def xN:Ö->Ð
 |.Starred ..=>Ä|_=>Ã
def qf{e:Ö}{es:Á Ö}{env:Env}(h:xN e=Ã):Ób Ę env=(Ä,ĩ e env)::Ób es env:=by cases e<;>first|rfl|cases h
theorem Zy{env:Env}{pos:Pos}:∀{es:Á Ö},es.all xN=Ã->(Ħm).any (·.1)=Ä
 | [],_=>rfl|e::es,h=>by rw[Ź,Đ]at h;rw[qf h.1];let a:=Zy (env:=env) (pos:=pos) h.2;unfold Ĩc at a ⊢;rw[Ļ,Ďd,a];rfl
def Vx{a:TE}(c:PE X e a)(b:PA X es t)(h:Î Ĉa q12):PA X Ę (Sd a t):=y8h c b (qf h)
nonrec def MB:Ö->É Æ
 |.Constant Ϩ _ _=>À i|_=>Å
def z41{e:Ö}{i:Æ}(h:MB e=À i):∃k p,e=.Constant Ϩ k p:=by
 cases e<;>first|(cases h;done)|skip
 rename_i c k p;cases c<;>first|(cases h;done)|skip
 cases h;show{k,p,rfl}
def ϕa:Á Ö->É Âg
 | []=>À []|e::r=>(MB e).bind λi=>(Ťj).map (i::·)
theorem nM:∀{es:Á Ö}{is:Á Æ},ϕa es=À is->PA X es (λ_ H Q=>Q (is.map ÿb) H)
 | [],is,h=>by cases(show À []=À is from h);show Q0|e::r,is,h=>by
  let q:((MB e).bind λi=>(Ťj).map (i::·))=À is:=h;cases e1:MB e with
  |Å=>rw[e1]at q;cases q|À i=>
   rw[e1]at q;let{k,p,rfl}:=z41 e1;cases e2:ϕa r with
   |Å=>rw[e2]at q;cases q|À js=>rw[e2]at q;cases(show À (i::js)=À is from q);show Vx nR (nM e2)
def BP(h:v8 ö X.w X.K ð ŀ x ps k sp)(l:ym j X.A)(d:Gl X x)(i:PA X Ę t)(hk:Î Åb q10)(c:Î ō q10)(a:Î ôa q12):PE X ůa čn:=by let{f,n,g,m,b,F}:=h;rw[Ϟq];show y8s F (ϧc hk) d g m b .nil Ys i c ņe Ŋe
def OL(h:v7 ð x v)(c:Gl X x)(b:Î ō q10):PE X öa źe:=by let{u,a,r}:=h;show y92 c a r b
def y8r(c:Gl X x)(a:ð x=Å)(hv:ϔ x=À ϩb)(d:Î Ĕb q10)(b:Î ō q10):PE X öa ëo:=
 y8o c a hv rfl d b
#print a
section
variable{X:Cx}
def ue:xG X (ϭa .FloorDiv) ϛk:=T_ λi j _ _ _ _ _ a q=>by let c:(0:Æ)<j:=a.1;let b:j<2 ^ 64:=a.2;let d:j.natAbs.log2<64:=(Ťh).mpr Ê;show PyProof.Rows.floordiv_int Ê (by rw[Ăl i Ê];show q) (.inl (PyProof.noPylong_of_log2 Ê))
#print a
def uo:ϔ "len"=À þd:=by rw[Îq]
def z4s:ϔ řc=À Éi:=by rw[Îq]
def z4u:ϔ "sum"=À Én:=by rw[Îq]
def z4r:ϔ "all"=À Ên:=by rw[Îq]
def z4p:ϔ ĭc=À ϩa:=by rw[Îq]
def z4o:ϔ Ũe=À ϧa:=by rw[Îq]
def ML:ϔ Ī=À Ěa:=by rw[Îq]
def GF:ϔ ώ=À ża:=by rw[Îq]
def y1e{K:Ô}:Ű K ϩa ϩa=À Ã:=by rfl
def y1c{K:Ô}:Ű K ϧa ϩa=À Ã:=by rw[ãq]
def y1d{K:Ô}:Ű K ϩa ϧa=À Ä:=by rw[ãq]
def y1b{K:Ô}:Ű K ϧa ϧa=À Ã:=by rfl
def y1g{K:Ô}:Ű K òd ϩa=À Ä:=by rw[ãq]
def y1f{K:Ô}:Ű K òd ϧa=À Ä:=by rw[ãq]
def y1i{K:Ô}:Ű K ża ża=À Ã:=by rfl
def y1h{K:Ô}:Ű K áb áb=À Ã:=by rfl
def tF{H:Hp}{p:Ë}(h:H p=Å)(o:HO):yF H źc:=λb u q=>by rw[yH (p7 q h)];show q
def Ăb{n:Â}(h:n<=1000):n<=å:=Ûa (x4s h)
def XU(env:Env):Á ϲa->È
 | []=>Ųb|p::r=>ũh p.1=À p.2/\XU env r
theorem XU.get{env:Env}:∀{cl:Á ϲa} {y:Ç} {c:Ë},XU env cl->ϫf y=À c->ũh y=À c
 | [],_,_,_,h=>by cases h|(n,a)::r,y,c,hc,h=>by
  rw[Óe]at h;cases e:y==n with
  |Ã=>
   rw[e]at h;let d:y=n:=by rw[ķq]
   subst d;let b:a=c:=by rw[ťq]
   subst b;show hc.1
  |Ä=>rw[e]at h;show XU.get hc.2 Ća
nonrec def TV(a:ða)(env:Env)(b:Á ϲa)(own:Á Ç):Ð:=
 Ļi λp=>p.1 != ("." : Ç)&&((p.2 == .local&&(ŉf p.1||p.1==(".0" : Ç)))||p.2 == .globalImplicit||p.2 == .globalExplicit ||
  (p.2 == .free&&(Ŷc p.1==À .cell||Ŷc p.1==À .free)&&(b.lookup p.1).isSome))
nonrec def űb(own:Á Ç)(y:Ç):Ç:=if ŉf y||y==(".0" : Ç)then "." else y
def wD(N own:Á Ç):Á Ç:=ĳc (űb own)++own
theorem Nz{env:Env}:∀{ůb:Á (Ç×Ěc)} {y:Ç} {k:Ěc},
  (Ϣi λ(n,k)=>if(k==Űn&&Ğn == .function&&Ŷc n==À .cell)then(n,űn)else(n,k)).lookup y=À k->∃k0,(y,k0)∈ůb/\(k=k0\/(k0=.free/\k=.cell))
 | [],_,_,h=>by simp at h|(n,k')::r,y,k,h=>by
  rw[Ļ]at h;by_cases hc:(k'==Űn&&Ğn == .function&&Ŷc n==À .cell)=Ã;dsimp only at h;rw[Ï hc,Óe]at h;cases e:y==n with
  |Ã=>
   rw[ϡq]
   subst a;let b:űn=k:=by rw[ťq]
   let c:k'=.free:=by rw[Đ,Đ]at hc;simpa using hc.1.1
   show{k',ÿ,.inr {c,Ϯj}}
  |Ä=>rw[e]at h;let{k0,m,z}:=Nz (env:=env) Ća;show{k0,ŏ _ m,z}
  dsimp only at h;rw[Ñ hc,Óe]at h;cases e:y==n with
  |Ã=>
   rw[ϡq]
   subst a;let b:k'=k:=by rw[ťq]
   show{k',ÿ,.inl Ϯj}
  |Ä=>rw[e]at h;let{k0,m,z}:=Nz (env:=env) Ća;show{k0,ŏ _ m,z}
def vj(X:Cx)(a:ða)(b:Á ϲa)(own:Á Ç)(C:Ë)(d:Í)(e:Hp)(c:Á Ë)(pn:Á õ):Cx:=
 { X with N:=wD X.N own,s₀:=d,H₀:=e,env:=compEnvC a b C Û,ċ:=ša,stack:=ša,ex:=c,fn:=λ_=>Ä,pn:=pn,xe:=λ_ _=>Ā }
section
variable{X:Cx}{z8:Á õ}{σ:St}{H2:Hp}{s2:Í}{Ń:ða}{cl:Á ϲa}{own:Á Ç}{C D:Ë}{fp:Á Ë}
def eA(g:TV Ń Û cl own=Ã){y:Ç}{k:Ěc}(h:(Îe).names.lookup y=À k) :y ≠ "."/\((k=.local->ŉf y=Ã\/y = ".0")/\((k=.cell\/k=.free)->(∃k0,(y,k0)∈Ěd/\k0=.cell)\/(Ϛk/\∃c,ϫf y=À c))):=by
 let{k0,m,z}:=Nz h;let q:=ãa g _ m;rw[Đ]at q;let{f,e}:=q;refine{by simpa using f,λa=>?_,λa=>?_};rcases z with z|⟨_,z⟩;subst z;subst a;rw[ķq];rw[z]at a;cases a;let b:k0=.free\/k0=.cell:=by rcases z with z|⟨z,_⟩;subst z;rcases a with a|a;show .inr a;show .inl a;show .inl z
 rcases b with b|b;subst b
 right
 let d:((Śc y==À .cell||Śc y==À .free)&&(ϫf y).isSome)=Ã:=by rw[ķq]
 rw[Đ]at d;show{?_,Łb d.2};let:=d.1;rw[Ĥf]at this;rcases this with t|t;show .inl Ľm;show .inr Ľm;show .inl {k0,m,b}
def GB(b:TV Ń Û cl own=Ã)(a:∀y∈Ěd,y.2≠.cell){y:Ç}{k:Ěc}(h:(Îe).names.lookup y=À k)(hk:k=.cell\/k=.free) :Ϛk/\∃c,ϫf y=À c:=by rcases(eA b h).2.2 hk with⟨d,m,e⟩|q;show Þ e (a _ m);show q
def eB(I:Inv X z8 σ H2 s2)(hk:ťi=.function)(f:∀y∈Ěd,y.2≠.cell)(d:XU Û cl)(j:TV Ń Û cl own=Ã)(k:Ąf<=C)(g:∀b∈fp,gK X z8 H2 b)(i:∀b∈fp,∃o,āi b=À o):(ūk).Ok where
 mod:=ăj
 kind:=hk
 glob:=I.ok.glob
 blt:=I.ok.blt
 above:=k
 inj:=λx y c m l=>I.ok.inj x y c (d.get m) (d.get l)
 has:=λx a=>by rcases a with a|a;show(GB j f (show(Îe).names.lookup x=_ from a) Ť).2;show(GB j f (show(Îe).names.lookup x=_ from a) Ϡb).2
 Uc:=λx c h=>by cases h
 hd:=ģa
 Ϩj:=Ķo
 J9:=.inl rfl
 J4:=λb a=>{by let{o,e}:=i b a;show Ϟ (ŭ ěc k),λx c h=>όj.2.2.2.2.1 x c (d.get h)}
 bs:=I.bs
 ZR:=ý ēg I.sz
 Ug:=λb o e a=>by rcases(g b a).2.2.2.1 with z|z;show I.ok.Ug b o e z;show Þ (ŭ ěc (ý ēg z)) Đa
 Ud:=λb a n=>by rcases Ğ (I.JA b n)with z|z;show όj.2.1 z;show όj.2.2.1 z
 ja:=I.stack
 XO:=I.bj
def Ml{α:Type}{σ:Á (É α)}{n i:Â}{v:α}(h:ϛh[i]?=À Äa):σ[i]?=À Äa:=by
 by_cases hi:i<σ.length;rw[Ůa hi]at h;show h;rw[Żb Ê,Ϩd]at h
 split at h<;>cases h
def z4m{J:Heap}{m0:Ç->É Value}{g:Obj}{tk:Â}(I:Inv X z8 σ H2 s2)(hk:ťi=.function)(s:∀y∈Ěd,y.2≠.cell)(j:XU Û cl)(P:TV Ń Û cl own=Ã)(L:Ąf<=C)(Z:Ąf<=D)(W:D≠C)(R:∀b∈fp,gK X z8 H2 b)(K:∀b∈fp,∃o,āi b=À o)(f:∀b o,āi b=À o->ϴj b=À o)(ns:J.Ns C m0)(hd:ϴj D=À g)(O:∀v,g.data≠.cell v) :Inv ūk [(D,g)] öd H2 { s2 with ç:=J,Ė:=tk }:=by
 let S:∀a,Ąf<=a->a ∉ ju ša:=λa ha Q=>by rcases Ğ (I.JA a Q)with z|z;show Þ (ŭ I.lt ha) (by rw[z];show Ùc _);show I.bf ha z
 show{eB I hk s j P L R K,rfl,Ϙa,Ŗe f,{m0,ns,λi y v e1 e2 e3=>?_},λx c h=>?_,ğb L,λx c h=>ļb x c (šg h),λp hp=>?_,Ĥp f,?_};let G:σ[i]?=À Äa:=Ml e2
 let hi:i<ò:=by let:=(ĵ G).1;rw[ăb]at this;rw[Ôq]
 let q:Ġl[i]?=À y:=e1;rw[Ůa Ăm,ė]at q;cases en:X.N[i]? with
 |Å=>rw[en]at q;cases q|À n=>
  rw[en]at q;let F:űb own n=y:=Ϣ q
  let T:∃k,(Îe).names.lookup y=À k/\(k=.local\/k=.cell\/k=.free):=by rcases e3 with z|z|z;show{_,z,.inl rfl};show{_,z,.inr Ť};show{_,z,.inr Ϡb}
  let{k,H,kk}:=T;let{nd,U,_}:=eA P H;unfold űb at F;by_cases E:(ŉf n||n==(".0" : Ç))=Ã;rw[Ï E]at F;show Þ F.symm nd;rw[Ñ E]at F;subst F
  let A:k=.cell\/k=.free:=by
   rcases kk with z|z;exfalso
   apply E;rcases U z with t|t;rw[t];rfl;subst t;simp;show z
  let{ok,c,hc}:=GB P s H A;let{m,hn,hl}:=Ĩa;let{u,r,l}:=hl i n v en G (.inr ok);show{u,r,.inr {?_,c,hc,?_}};rcases A with z|z;subst z;show .inl H;subst z;show .inr H;rcases l with⟨z,_⟩|⟨_,c',B,z⟩;rcases ok with t|t<;>(rw[t]at z;cases z);rw[šg hc]at B;cases B;let{o,Y,w}:=z;show{o,f _ _ Y,w}
 let{v,o,E,w}:=ŀa x c (šg h);show{v,o,f _ _ E,w};rcases ύ hp with z|z;let{e,n,ne,nf,d}:=ňa p z;show{f _ _ e,n,Ϟ (ŭ ěc L),λQ=>?_,d};rcases Ğ (I.JA p.1 Q)with t|t;show ne t;show nf t;let e:p=(D,g):=by simpa using z
 subst e;show{hd,ğb Z,W,S D Z,O};exact(öd).length=(Ġl).length;rw[ì,ì,Įa,ã,ăb]
#print a
def VG(X:Cx)(a:Á Ö)(b:TT):È:=
 ∀(z8:Á õ) (s:Í) (σ:St) (H:Hp) (Q:Ð->Hp->È),Inv X z8 σ H s->b σ H Q->
  Ù Ą X.A (Ĵb a Ã λc r=>if r=Ã then do let ok <-ŭd c Û (ĩ c Û);pure (Åe ok)else pure (Åe r)) Ãi İ s
nonrec def Sf:TT:=λ_ H Q=>Q Ã H
def oJ{X:Cx}:VG X [] Sf:=λ_ _ _ H _ I h=>wpAny_tests_nil {H,I,h}
def x09{X:Cx}{c:Ö}{t:TT}(h:PT X c t):VG X [c] t:=λa s σ H Q I q=>wpAny_tests_one (h a s σ H Q I q)
section
variable{ă:ï}{w:æ}{A:ù}{R:Űd->Í->È}{s:Í}
def y25{g tg b:Ö}{f:Á Ö}{a:ða}{pos:Pos}{it d:Value}{env:Env}(J:Â->Í->È)(j:∀n s,J n s->Ù è A (Ţd it) (λr s₁=>match r with
   |Å=>R ύo s₁|À v=>Ù è A (ôf tg it v) (λ_ z=>Ù è A (Èc tg env v) (λ_ s₂=>
    Ù è A (Ĵb f Ã λc r=>if r=Ã then do let ok <-ŭd c env (ĩ c env);pure (Åe ok)else pure (Åe r)) (λok s₃=>
     if ok=Ã then Ù è A (ĩ g env) (λx s₄=>Ù è A (Ļb (.builtin şn) [d,x]) (λ_ s₅=>∃m,m<n/\J m s₅) ýc s₄) ýc s₃
     else ∃m,m<n/\J m s₃) ýc s₂) ýc z) ýc s₁) ýc s)
  (n:Â)(h:J n s):ĭb è A (.compLoop ϯk 0 it d env) R s:=by
 let i:∀{P:Value->Í->È},∀e s',(λ_ _=>Ā:Value->Í->È) e s'->P e s':=λ_ _ z=>Ũ
 show codeAny_loop rfl J (λn s q=>?_) n h;exact Ù _ A (Sem.onRaise (compTurn ϯk 0 it d env) (λx=>do noteFrame x env;theTreesLotGoes x)) _ _ s;show wpAny_noted ?_;rw[compTurn_list];show Ó (Ěh (Ó (ĳa (j n s q) (λr s₁ k=>?_) i)));cases r with
 |Å=>show ó k|À v=>
  show Ó (ĳa k (λ_ z t=>?_) i);show Ó (ĳa t (λ_ s₂ p=>?_) i);show Ó (ĳa p (λok s₃ l=>?_) i);cases ok with
  |Ä=>show ó {rfl,l}|Ã=>
   show Ó (Ó (ĳa l (λx s₄ o=>?_) i));show Ó (ĳa o (λ_ s₅ u=>ó (ó {rfl,u})) i)
#print a
abbrev ut(its:Á Value)(k:Â):Obj:={ cls:=.type Ī,Ċ:=.seq Ϥ k }
def m4{its:Á Value}{k:Â}:∀v,(Ïp).data≠.cell v:=λ_ z=>nomatch z
section
variable{X:Cx}{σ:St}{H:Hp}{s:Í}{D:Ë}
def y0g{pl:Á õ}{its Ïb:Á Value}{k g tk:Â}{h':Heap}(I:Inv X ((D,ut its k)::pl) σ H s)(w:Þc<=D)(f:∀p∈Õc,p.1≠D)(y:ŷa D â h')(j:č D=À (ut Ïb g)):Inv X [(D,ut Ïb g)] σ H { s with ç:=h',Ė:=tk }:=by
 let{e,n,i,u,d}:=ňa (D,ut its k) Ŗo;let l:Inv X [] σ H s:=I.J8 λp a=>Þ a ô
 let m:Inv X [] σ H { s with ç:=h',Ė:=tk }:=l.turned (it:=D) (λb o A q=>(y.2 b A).trans q) n i (.inr w) (λx c t z=>by subst z;let{v,o,h,r}:=ŀa x c t;rw[show ø c=À Ïp from e]at h;cases h;show d v r) (λp a=>f p ăf)
 show m.J8 λp a=>by
  let q:p=(D,ut Ïb g):=by simpa using a
  subst q;show{j,n,i,u,m4}
#print a
section
variable{X:Cx}{tg ż elt:Ö}{ifs:Á Ö}{Ń:ða}{cl:Á ϲa}{own:Á Ç}{pos:Pos}{te:TE}{tc:TT}{g:TG}{wi:TI}
def w05{fs ex:Á Ë}{H H':Hp}{h h':Heap}{D:Ë}{o:HO}(u:Un fs ex H H' h h')(f:äb<=D)(d:H' D=Å):Un fs ex H Šo h h' where
 Ũa:=ũe
 slot:=ĸg
 free:=λb c q n i=>by rw[yH (λz=>by subst z;show Þ (ŭ ġg f) Đa)];show Ĺg b c q n i
 ŝg:=Ĉg
 ql:=λb e q=>by rw[yH ÿm];show u.ql b e q
 t5:=λb c v q=>by rw[yH ϔl];show u.t5 b c v q
 jC:=λb g q=>by rw[ĥq]
def iV{P:ï}{w:æ}{H:Hp}{h:Heap}{D:Ë}{o:HO}(x:wY P w H h)(d:H D=Å)(a:xo P w Æp h D o):wY P w Æp h:=λb u e=>by by_cases hb:b=D;subst hb;rw[yt]at e;cases e;show a;rw[yH hb]at e;show(Ój).XR (λc v _ q=>q) (λc q=>?_) (λc f q=>?_);rw[yH (p7 q d)];show q;rw[yH (p7 q d)];show q
structure XT(X:Cx)(Ń:ða)(cl:Á ϲa)(own:Á Ç):È where
 kind:ťi=.function
 cell:∀y∈Ěd,y.2≠.cell
 Lk:XU Û cl
 ok:TV Ń Û cl own=Ã
 Ll:ϟo Ń Û=pure cl
 ůb:∀y∈Ěd,y.2=.local->scope.names.lookup y.1=À .local
structure L_(X:Cx)(z8:Á õ)(H:Hp)(s:Í)(C:Ë):È where
 free:H C=Å
 ne:C≠Àa
 old:Þc<=C
 cell:∀x c,İa x=À c->c≠C
 pin:∀p∈Õc++z8,p.1≠C
def O5(σ:St)(n:Â)(J:It)(g:TG)(tc:TT)(te:TE)(W:Â->Â->Á V->Hp->È)(a:Á V->Hp->È):È:=
 ∀i m ys H,W i m ys H->(ŉg i H/\a ys H)\/(J.go i H/\ů<å/\∃N:Á V->Hp->È,(∀ys' H',N ys' H'->∃m',m'<m/\W í m' ys' H')/\
  ∀x H',J.tm i H x H'->g x ϛh H' λσ2 d=>(∃τ,σ2=σ++τ)/\tc σ2 d λc b=>if c=Ã then te σ2 b λy e=>N (ys++[y]) e else N ys b)
def eD{z8:Á õ}{σ:St}{H2:Hp}{t:Í}{l:Á Ë}{it:Ë}{tn:Â->Heap->È}{J:It}{W:Â->Â->Á V->Hp->È}{Fin:Á V->Hp->È}{m0:Â}{RR:Value->Ë->Űd->Í->È}(S:ŷ=Ã)(B:XT X Ń cl own)(I:Inv X z8 σ H2 t)(T:YQ ö X.w X.K tg J l it tn)(t0:tn 0 t.heap)(G:∀b∈l,gK X z8 H2 b)(hg:∀C s H l pn,PG Åh tg g)(hc:∀C s H l pn,VG Åh ifs tc)(he:∀C s H l pn,PE Åh elt te)(W0:W 0 m0 [] H2)(turn:O5 σ Ùb J g tc te W Fin)(hRR:∀D C s' H' ys m',Inv X z8 σ ϐn s'->H' D=Å->Fin ys H'->s'.heap.Ns C m'->L_ X z8 ϐn s' C->RR ıj C ύo s'){E:Value->Í->È} :Ù Ą X.A ïo (λacc s3=>Ù Ą X.A (newFunctionEnv Ń Úi cl [] X.env.qual Å .none (À Û)) (λcenv s4=>
   ĭb Ą X.A (.compStart ľb 0 æb acc { cenv with Ń:=relabel Ń Û }) (RR acc cenv.locals) s4) E s3) E t:=by
 refine Üc (wpAny_newFunctionEnv ϻj (by intro y hy;simp at hy) (λh4 hns P=>?_) ųe);dsimp only at hns P ⊢;generalize hP:t.heap.push ώp=P2 at hns P ⊢;have hC:ŋf=œc+1:=by rw[<-hP,Ϧa]
 let Y:œc≠ŋf:=by rw[hC];show Ϟ ϟc
 let f:œc<=ŋf:=by rw[hC];show šf _
 let R:∀b o,ěo b=À o->h4.get? b=À o:=λb o e=>
  P.extBut b o (Ϟ ŗo) (ě _ (hP▸ě _ e))
 let hd4:h4.get? œc=À ώp:=P.extBut _ _ Y (ě _ (hP▸Ÿ _ rfl));let hfo:∀b∈l,∃o,ěo b=À o:=λb d=>let ⟨o,e,_⟩:=ϗe 0 _ t0 b d;{o,e}
 let lt:∀b∈l,b<œc:=λb d=>let ⟨o,e⟩:=hfo b d;Ĥ e
 generalize hDD:œc=D at Y hd4 ⊢;generalize hCC:ŋf=C at Y hns P f ⊢;let m:œc<=D:=Œb hDD
 let +zeta X':=vj X Ń cl own C t H2 l (Õc++z8)
 let hpn:∀p∈X'.pn,p.1≠D:=λp hp z=>by let{e,_}:=ňa p hp;rw[z]at e;show Þ (ŭ ěc m) Đa
 let okb:=eB I ųe ϻj B.Lk B.ok f G hfo
 let U:∀{k:Â}{a:Á Value}{H':Hp},(∀b∈l,H' b=Å)->∀b∈l,gK X' Œf H' b:=λ{k a H'} hn b d=>
  ⟨hn b d,îo.1,okb.Ud b d,.inl d,îo.2,λp hp=>by
   rcases ύ hp with z|z;show şd.2.2.2.2.2 p z;let q:p=(D,ut a k):=by simpa using z
   subst q;show λz=>Þ (lt b d) (by rw[<-z];show äe m)⟩
 have loop:∀s4:Í,s4={ t with ç:=h4,Ė:=t.toks+([]:Á üc).length }->
   ĭb Ą X.A (.compLoop ľb 0 æb ıj (compEnvC Ń cl C Û)) (RR ıj C) s4:=by
  rintro s4 rfl
  show y25 (λn s'=>∃(i:Â) (ys:Á V) (a:Á Value) (k:Â) (H':Hp),Inv X' Œf öd H' s'/\zo ys a/\tn i Ϝc/\(∀b∈l,H' b=Å)/\W i n ys H'/\ů<=å) ?_ m0
   {0,[],[],0,H2,z4m I ųe ϻj B.Lk B.ok f m Y G hfo R hns hd4 m4,.nil,űe _ _ _ t0 λb _ o e=>R b o e,λb d=>şd.1,W0,ŵ _}
  rintro n s5 ⟨i,ys,a,k,H5,I5,v5,st5,fr5,w5,z5⟩;rcases turn i n ys H5 w5 with⟨Ϡ,fin⟩|⟨go,room,N,hN,Ŋa⟩
  .show ĳa (T.done X' rfl rfl rfl S i _ s5 _ H5 ýc I5 (U fr5) st5 Ϡ) (λr s6 ⟨hr,I6⟩=>?_) λ_ _ z=>z
   subst hr;let{e6,n6,ne6,nf6,d6}:=I6.pin (D,ut a k) Ŗo;let{m6,ns6,_}:=I6.loc;let u6:Un Ħj l H2 éi t.heap s6.heap:=w05 I6.base m n6;let new6:xo ö X.w éi s6.heap D Ĝa:={z5,a,k,v5,e6};let I7:Inv X z8 σ éi s6:=I.Fb I6.os u6 (iV I6.zi n6 new6) I6.bare (λb d=>{şd.2.2.2.1,şd.2.1,şd.2.2.2.2.1,şd.2.2.2.2.2});show hRR D C s6 H5 ys m6 I7 n6 fin ns6 {?_,?_,?_,λx c hcx z=>?_,λp hp z=>?_}
   .rw[yH (ŧb Y)];show I6.free
   .show λz=>Þ I.lt (by rw[<-z];show äe f)
   .show ý I.sz f
   .subst z;let{v,o,ho,_}:=ŀa x c hcx;show Þ (ŭ (Ĥ ho) f) Đa
   .let{e,_}:=ňa p hp;rw[z]at e;show Þ ŗo Đa
  .show ĳa (T.item X' rfl rfl rfl S i _ s5 _ H5 ýc I5 (U fr5) st5 go) (λr s6 ⟨u,hr,h6⟩=>?_) λ_ _ z=>z
   subst hr;show ĳa h6 (λ_ s7 ⟨x,H7,I7,r7,y7,st7,fr7⟩=>?_) λ_ _ z=>z
   let I7':=I7.pinned (U fr7) (ϗe _ _ st7);show ĳa (hg C t H2 l _ _ s7 _ H7 x u _ I7' r7 (Ŋa x H7 y7)) (λ_ s8 ⟨σ8,H8,I8,⟨τ,hτ⟩,q8⟩=>?_) λ_ _ z=>z
   subst hτ
   have back:∀{n':Â}{Q:Á V}{F:Á Value}{k':Â}{L:Hp}{O:Í}{pl:Á õ},Inv X' ((D,ut F k')::pl) čj L O->zo Q F->tn í ϱj->(∀b∈l,L b=Å)->W í n' Q L->Q.length<=å->
     ∃(i:Â) (ys:Á V) (a:Á Value) (k:Â) (H':Hp),Inv X' Œf öd H' O/\zo ys a/\tn i ϱj/\(∀b∈l,H' b=Å)/\W i n' ys H'/\ů<=å:=λ{n' Q F k' L O pl} Z v9 st9 fr9 w9 z9=>by
    let I9':Inv X' [(D,ut F k')] čj L O:=Z.J8 λp hp=>Z.pin p (Ĭa _ (by
     let q:p=(D,ut F k'):=by simpa using hp
     subst q;show ÿ))
    show{i+1,Q,F,k',L,I9'.weak ?_ (λj v e=>?_),v9,st9,fr9,w9,z9}
    .rw[I9'.len,<-I5.len]
    .let e':=Ml e;rw[Ůa (ĵ e').1];show e'
   let h:∀{σ9:St}{L:Hp}{O:Í},Inv X' (Œf++OM l s7.heap) σ9 L O->tn í ϱj/\∀b∈l,L b=Å:=λ{σ9 L O} Z=>
    {űe _ _ _ st7 λb d o e=>źk.1,λb d=>by let{o,e,_}:=ϗe _ _ st7 b d;show źk.2.1}
   show ĳa (hc C t H2 l _ _ s8 _ H8 _ I8 q8) (λc O ⟨L,Z,q9⟩=>?_) λ_ _ z=>z
   cases c with
   |Ä=>
    rw[Ñ Ħ]at q9 ⊢;let{m',hm,w9}:=hN _ _ q9;show{m',hm,back Z v5 (h Z).1 (h Z).2 w9 z5}
   |Ã=>
    rw[Ï rfl]at q9 ⊢;show ĳa (he C t H2 l _ _ O _ L _ Z q9) (λyv sa ⟨y,Ha,Ia,ra,qa⟩=>?_) λ_ _ z=>z
    let{m',hm,wa}:=hN _ _ qa;let{ea,na,_}:=Ia.pin (D,ut a k) (Ĭa _ (Ÿb _ ÿ))
    let szi:Ϗb<=å:=by let:=v5.length;simp only[ĭ];omega
    show wpAny_list_append_plain (hsz:=szi) {k,ea} λd hlb hsb'=>?_
    let{kb,eb}:=hlb;let eb':ϫj D=À (ut Ϥp kb):=by rw[eb];simp
    let Ib:Inv X' [(D,ut Ϥp kb)] čj Ha { sa with ç:=d,Ė:=sa.toks }:=y0g (tk:=sa.toks) Ia m hpn hsb' eb';let stb:tn í d:=űe _ _ _ (h Ia).1 λb hbf o e=>(hsb'.2 b (λz=>Þ (lt b hbf) (by rw[z];show äe m))).trans e
    show{m',hm,back Ib (Ϣf v5 (.cons ra .nil)) stb (h Ia).2 wa (by rw[ì];show room)}
 show codeAny_compStart_list ño (T.self X.A 0 _ _ _ (űe _ _ _ t0 λb _ o e=>R b o e) ño)
def x5y(n:Â)(wi:TI)(g:TG)(tc:TT)(te:TE):TE:=λσ H Q=>wi σ H λJ b=>∃W:Â->Â->Á V->Hp->È,(∃m,W 0 m [] b)/\
 O5 σ n J g tc te W λc a=>∀p,a p=Å->Q Ŷ űm
def L_.inv{a:Á õ}{σ:St}{H:Hp}{s:Í}{C:Ë}{h':Heap}(o:L_ X a H s C)(I:Inv X a σ H s)(c:ŷa C â h'):Inv X a σ H { s with ç:=h' }:=
 ób (it:=C) (t':=ĕ) (λb u d q=>(c.2 b d).trans q) o.free o.ne (.inr o.old) o.cell o.pin
def nS(a:ŷ=Ã)(B:XT X Ń cl own)(hi:PI X tg ż wi)(r:∀C s H fp pn,PG òa tg g)(z:∀C s H fp pn,VG òa ifs tc)(L:∀C s H fp pn,PE òa elt te)(G:Î (∀x,Úb ż Û x=pure x) q11) :PE X ľb (x5y Ùb wi g tc te):=by intro l s σ H Q I h;rw[eval_ListComp];show Ìl (use:=Å) rfl G B.Ll ųe B.names (zy (hi l s σ H _ I h) λv O u=>zy u λn S F=>?_);let{N,fp,P,J,U,e,q,T,d,t,W,{Z,y},b}:=F;subst e;show eD (RR:=λj C=>compPost Ą X.A İ Å (EP X l σ Q) j C) a B q T d t r z L y b ?_;intro D C R o p E m K c i k;show{E,i,λY f=>{.ref D,ze o D (.lst p),k.inv m f,rfl,c D K}}
def x6b(i n:Â)(wi:TI)(g:TG)(tc:TT)(te:TE):TS:=λD σ H=>wi σ H λJ b=>∃W:Â->Â->Á V->Hp->È,(∃m,W 0 m [] b)/\
 O5 σ n J g tc te W λc a=>∀p,a p=Å->Ðb ïf űm
def oC{i:Â}{x:Ç}{f c:Pos}(d:ŷ=Ã)(hN:êa)(p:X.N[i]?=À x)(F:Ðd x=À .local)(B:XT X Ń cl own)(E:Ŵc ľb (À ώo) c.line Û=pure Ã)(hi:PI X tg ż wi)(U:∀C s H fp pn,PG òa tg g)(hc:∀C s H fp pn,VG òa ifs tc)(he:∀C s H fp pn,PE òa elt te)(hs:Î (∀x,Úb ż Û x=pure x) q11) :PS X (.Assign [.Name x f] ľb c) (x6b i Ùb wi g tc te):=by
 intro q s σ H D I h;rw[exec_Assign_Name_used _ _ _ _ E];show Ó (Ěh Ţf);exact Ù _ X.A (do let _ <-comprehension ľb Ń Û _ ïo Ä (ĩ ż Û) Ŵp) _ _ s
 refine Ó (zy (Ìl (use:=À łk) (Q:=λ_ j=>SP X q D .next j) rfl hs B.Ll ųe B.names
  (zy (hi q s σ H _ I h) λv s1 Z=>zy Z λK s2 h2=>?_)) λ_ j O=>ó (ó O))
 let{it,fp,tn,J,H2,e,S,T,m,Y,W,{m0,w0},k}:=h2;subst e;show eD (RR:=λt C=>compPost Ą X.A İ Ŵp (λ_ j=>SP X q D .next j) t C) d B S T m Y U hc he w0 k ?_;intro L C j P R m' G n' l o b;exact Ù _ X.A (Èc ώo Û (.ref L)) _ _ j;show Ŕm (z0a G hN p (.inl F) (v:=.ref L) rfl (λs3 I3 q3=>?_) (.inr F));let{a,r,ha}:=q3
 let u:C≠a:=by rcases ha with z|z;rw[z];show b.ne;show λy=>b.cell x a z y.symm
 show{m',o.sameBut r u,λh' n=>?_};show{_,_,L_.inv (H:=ze P L (.lst R)) {b.free,b.ne,b.old,b.cell,b.pin} I3 n,l L n'}
#print a
structure QE(X:Cx)(e:Ö)(t:TE):È where
 h:PE X e t
structure QA(X:Cx)(es:Á Ö)(t:TA):È where
 h:PA X es t
structure QS(X:Cx)(st:Ü)(t:TS):È where
 h:PS X st t
structure QG(X:Cx)(e:Ö)(t:TG):È where
 h:PG X e t
structure M3(X:Cx)(es:Á Ö)(t:Za):È where
 h:Jl X es t
structure QI(X:Cx)(tg e:Ö)(t:TI):È where
 h:PI X tg e t
section
variable{X:Cx}{x:Ç}{p pos ϓ Èa Ϭ:Pos}{e a b c o:Ö}{es:Á Ö}{te to:TE}{t:TA}{r:R2}{v:V}{T id:îa}{j k i:Â}
def qv(i:Â){x:Ç}{pos:Pos}(b:Î ăd q12)(hv:Î Ĭd q13)(c:Î ō q10)(a:Î ŷb q10):QE X öa ýb:={Vz b hv c a}
def x0p(h:v7 ð x v)(a:Gl X x)(b:Î ō q10):QE X öa źe:={OL h a b}
def x0o(c:Gl X x)(a:ð x=Å)(hv:ϔ x=À ϩb)(d:Î Ĕb q10)(b:Î ō q10):QE X öa ëo:={y8r c a hv d b}
nonrec def NZ:Ö->Ð
 |.Name ..=>Ã|.Call ..=>Ã|.Subscript ..=>Ã|.Attribute ..=>Ã|.Constant ..=>Ã|.List ..=>Ã|.Tuple ..=>Ã|.BinOp ..=>Ã|_=>Ä
def nc{e:Ö}{env:Env}(h:NZ e=Ã):∀Įc,ŭd e env Įc=(do let v <-Įc;standAt e.pos;holding [v] Òp):=by cases e<;>first|(intro _;rfl)|cases h
def Nt:QA X [] UH:={Q0}
def Bc(b:QE X e te)(a:QA X es t)(h:Î Ĉa q12):QA X Ę ϧp:={Vx b.h a.h h}
nonrec def W7:Ö->Ð
 |.Name ..=>Ã|.Constant ..=>Ã|.BinOp ..=>Ã|.Call ..=>Ã|.UnaryOp ..=>Ã|.Subscript ..=>Ã|.Attribute ..=>Ã|_=>Ä
def BS{b:Ö}(h:W7 b=Ã):dL b:=by cases b<;>first|(intro _ _;rfl)|cases h
def OW{r:Á V->Hp->VK->È}(c:vg X Þb r)(g:Gl X x)(d:ð x=Å)(hv:ϔ x=À Þb)(f:QA X Ę t)(i:Î Ĕb q10)(b:Î ō q10)(a:Î ôa q12):QE X ůa ùg:=by rw[Ϟq];show{y8u c g d hv f.h i b ņe Ŋe}
def U1{r:Á V->Hp->VK->È}(c:vg X ϩb r)(g:Gl X x)(d:ð x=Å)(hv:ϔ x=À ϩb)(f:QA X Ę t)(i:Î Ĕb q10)(b:Î ō q10)(a:Î ôa q12):QE X ůa ùg:=by rw[Ϟq];show{y8w c g d hv f.h i b ņe Ŋe}
variable{g:TG}
nonrec def W3:Ö->Ð
 |.ListComp ..=>Ä|.SetComp ..=>Ä|.DictComp ..=>Ä|_=>Ã
def mU{e:Ö}{a:É Ö}{n:Â}{env:Env}(h:W3 e=Ã):Ŵc e a n env=pure Ä:=by cases e<;>first|rfl|cases h
def Nu(a:QE X e te)(b:Î ēe q12):QS X ñi (z0n te):={o9 a.h (mU b)}
def OX{i:Â}{x:Ç}{ϓ:Pos}(c:êa)(hi:X.N[i]?=À x)(d:qR ϻ x)(a:QE X e te)(b:Î ēe q12)(f:Î Ŭa q7) :QS X Ľc (D9 te ŭb):={oB c hi d a.h (mU b) f}
def yq{i:Â}{x:Ç}(a:êa)(hi:X.N[i]?=À x)(b:qR ϻ x)(c:Î Ŭa q7):QG X öa ŭb:={y9f a hi b c}
def og{o i:Ö}{to a:TE}{t:M4}(d:QE X o to)(hi:QE X i a)(c:CQ X t)(b:Î (W7 i=Ã) q12):QG X Ęh (iB to a t):=by show{y9g d.h ķc c ?_};cases i<;>first|(intro _;rfl)|cases b
def Yu:M3 X [] VV:={y9j}
def qH{t:TG}{u:Za}(c:QG X e t)(a:M3 X es u)(b:Î ((Žn).map (·.2)=Èc e Û::(Ϫd).map (·.2)) q12):M3 X Ę (gU t u):={y9i c.h a.h b}
def Yt{k:Â}{t:Za}{n:Â}(b:ŷ=Ã)(h:M3 X es t)(c:Î Ën q12)(a:Î ((Ϫd).findIdx? (·.1)=Å) q12):QG X ϒm þo:={y9h b h.h c a}
variable{Ĵ:Ç}{rm:V->Á V->Hp->VK->È}
theorem z07{env:Env}{pos:Pos}:∀{es:Á Ö},es.all xN=Ã->(Ħm).all Ŋi=Ã
 | [],_=>rfl|e::es,h=>by rw[Ź,Đ]at h;rw[qf h.1];let a:=z07 (env:=env) (pos:=pos) h.2;unfold Ĩc at a ⊢;rw[Ļ,Ź,a];rfl
def OV(j:žf T)(c:Slot T Ĵ id)(g:ĺg Þb=pure Çf)(k:TF X id rm)(i:QE X o to)(l:QA X Ę t)(a:Î Ϭe q12)(b:Î Ŀb q12)(d:Î ôa q12)(m:Î ((Ę).length<30) q10) :QE X Ůl (z0k X.K T rm to t):={by let f:=z07 (env:=Û) (pos:=Ϭ) d;rw[Ź,Đ]at d;show y8p j c g k i.h l.h a ?_ b (qf d.1) (Zy d.2);rw[f];exact(Ã&&Ã&&decide ((Ę).length+0+0<30))=Ã;rw[ú (show(Ę).length+0+0<30 from m)];rfl}
#print a
def dQ(K:Ô)(H:Hp)(a c:Ë)(xs ys:Á V):È:=(xR K H a xs/\xR K H c ys)\/(yZ K H a xs/\yZ K H c ys)
section
variable{X:Cx}{z8:Á õ}{σ:St}{H:Hp}{s:Í}
def x1h{A:ù}{a c:Ë}{xs ys:Á V}{e:Â->Ð}(I:Inv X z8 σ H s)(i:Ťa<Ϛ)(Q:dQ X.K H a c xs ys)(P:∀(j:Â) x' y' u v,xs[j]?=À x'->ys[j]?=À y'->yC x' u->yC y' v->ŝb Ìb s u v (e j)) :ŭi A s Ŗ Ŋd ((ģh).all e&&ë==ů)/\Či A s Ŗ Ŋd (!((ģh).all e&&ë==ů)):=by
 let f:∀{x:Á V}{b:Á Value}{j:Â}(N:j<Ĝb),zo x b->∃z,x[j]?=À z/\yC z ëb[j]:=λ{x b j} N r=>by
  let L:=ϯ
  let t:j<ϯb:=by rw[ĭ]at N;omega
  let{u,l,R}:=Éb (đ t);show{_,đ t,?_}
  let:ëb[j]=u:=by let y:b[j]?=À b[j]:=đ Ê;rw[y]at l;simpa using l
  rw[this];show R
 rcases Q with⟨J,B⟩|⟨J,B⟩;let{b,k,g,_}:=àa J;let{h,n,pc,_}:=àa B;let O:=ľd;let y:=Ľd
 let d:∀j (w:j<Ĝb) (m:j<Įf),ŝb Ìb s ëb[j] Ēp[j] (e j):=λj w m=>by rw[ċq]
 let p:=SeqAt.RcAt.tuples (e:=e) g pc i d;let q:=SeqAt.RcNeAt.tuples (e:=e) g pc i d;rw[ĭ,ĭ,<-O,<-y]at p q;show{p,q};let{b,k,g,_}:=ϙ J;let{h,n,pc,_}:=ϙ B;let O:=ľd;let y:=Ľd
 let d:∀j (w:j<Ĝb) (m:j<Įf),ŝb Ìb s ëb[j] Ēp[j] (e j):=λj w m=>by rw[ċq]
 by_cases L:ë=ů;let o:Ĝb=Įf:=by rw[ĭ,ĭ];omega
 let p:=SeqAt.RcAt.lists (e:=e) ķe Ϧf o i d;let q:=SeqAt.RcNeAt.lists (e:=e) ķe Ϧf o i d;let e1:min ë ů=Ĝb:=by rw[ĭ];omega
 let e2:ϴo=Ã:=by simp[L]
 rw[e1,e2,Ŵn];show{p,q};let o:(Ĝb != Įf)=Ã:=by rw[ĭ,ĭ];simp;omega
 let e2:ϴo=Ä:=by simp[L]
 rw[e2,ĩn];show{SeqAt.RcAt.lists_lengths ķe Ϧf o i,SeqAt.RcNeAt.lists_lengths ķe Ϧf o i}
def Mq(A:ù):A.in1.units=Ťa+1:=rfl
#print a
def z76{x:V}(h:jt x=Ã):jI x x=Ã:=by cases x<;>first|rfl|show ėb _|cases h
open Ŕj (hideAll)
#print L2
namespace L2
open Ł Ş Ŋ
section
variable{H H':Hp}{a C:Ë}
def z3h(a C:Ë)(h:Heap):È:=∃o vs,Ģ a=À o/\Êb=.ref C/\ϵ=.fields vs
def w06{fs ex:Á Ë}{H H':Hp}{h h':Heap}{D:Ë}{o:HO}(u:Un fs ex H H' h h')(f:Ģ D=Å)(d:H' D=Å):Un fs ex H Šo h h' where
 Ũa:=ũe
 slot:=ĸg
 free:=λb c q n i=>by rw[yH (λz=>by subst z;rw[f]at q;cases q)];show Ĺg b c q n i
 ŝg:=Ĉg
 ql:=λb e q=>by rw[yH ÿm];show u.ql b e q
 t5:=λb c v q=>by rw[yH ϔl];show u.t5 b c v q
 jC:=λb g q=>by rw[ĥq]
#print a
section
variable{X:Cx}
def z17{ns:Á Æ}{its:Á Value}(r:zo Ϯa its){i:Â}{v:Value}(h:Ϥ[i]?=À v):∃t,v=.int ņp t:=by
 let d:i<ϱa:=by rw[âd]at h;show ϻa.1
 let e:ť=ϱa:=by let:=ϯ;rw[ã]at this;rw[Ôq]
 let a:Ϯa[i]?=À (Δ ņp):=by rw[ė,ő,đ Ê];rfl
 let{u,b,c}:=Éb a;rw[âd,b]at h;cases h;show c
theorem Ng{ns:Á Æ}:∀(k:Â),k<=ť->ūe Ĺn k=(ůf).sum
 |0,_=>by simp[ūe]|k+1,h=>by rw[ūe,Ng k Ê,Ñd Ê,List.sum_append,ő,đ Ê];exact _+ns[k]=_+(ns[k]+0);rw[Int.add_zero]
def dS(ns:Á Æ):È:=(∀n∈ns,Ŋg n)/\∀k,k<=ť->Ŋg (ůf).sum
def rF(K:Ô):Á V->Hp->VK->È:=λa H Q=>∃(p:Ë) (ns:Á Æ),a=ķd/\(yZ K H p Ϯa\/xR K H p Ϯa)/\dS ns/\Q (.int Ϣj) H
def z0f{ns:Á Æ}(h:dS ns):∀j,j<ť->Ŋg (ſf j 0)/\Ŋg (ūe Ĺn ϫ):=λj a=>by show{h.1 _ ?_,?_};rw[ő,đ a];show ŋb a;rw[Ng _ Ê];show h.2 _ Ê
def z5g(F:ŷ=Ã):vg X Én (rF X.K):=by
 intro J s σ H L N Q I r h;let{p,d,rfl,j,B,q}:=h;let{u,rfl,C}:=qL r;cases C;let A:=ģa F;let e:ūe (λi=>łg i 0) ϰ=d.sum:=by rw[Ng _ Ď,ŕc]
 show call_sum_walk ?_;rcases j with j|j;let{a,t,m,E}:=ϙ j;rw[Ħq]
 let c:p<Ý:=by let{o,n,e,_}:=m;show Ĥ e
 show Ýd m.isList ?_;refine{_,_,_,_,_,_,λi=>łg i 0,rfl,Ϥo ŵo Ý p ğg ϴa,{{_,Ÿ _ rfl,rfl,rfl},m.isList.push _},?_,λi v y=>z17 t y,?_,?_};rw[þq];rcases l with rfl|rfl;rw[Ćq]
 show⟨.int d.sum,H,Ųd (t':=x) λb o g=>k b o (λz=>by
  rw[Ŋq]
  rw[Ϡq]) űp,{_,rfl},q⟩
 let{a,t,m,E}:=àa j;rw[Ħq]
 let f:ćd p ϴa:=m;let c:p<Ý:=by let{o,e,_}:=f;show Ĥ e
 show Þh f ?_;refine{_,_,_,_,_,_,λi=>łg i 0,rfl,Walks.tuple ŵo Ý p ğg ϴa,{{_,Ÿ _ rfl,rfl,rfl},f.push _},?_,λi v y=>z17 t y,?_,?_};rw[þq];rcases l with rfl|rfl;rw[Ćq]
 show⟨.int d.sum,H,Ųd (t':=x) λb o g=>k b o (λz=>by
  rw[Ŋq]
  rw[Ϡq]) űp,{_,rfl},q⟩
def w0k{a:Á Ð}{its:Á Value}(r:zo ϯo its){i:Â}{v:Value}(h:Ϥ[i]?=À v):v=.bool őn:=by
 let e:i<ϱa:=by rw[âd]at h;show ϻa.1
 let f:ìa=ϱa:=by let:=ϯ;rw[ã]at this;rw[Ôq]
 let b:ϯo[i]?=À (.bl őn):=by rw[ė,ő,đ Ê];rfl
 let{u,c,d}:=Éb b;rw[âd,c]at h;cases h;show d
def x1f{d:Á Ð}:(ϡ ϰ).all (λi=>łg i Ä)=d.all id:=by
 rw[Ŝc,ϩm,ϩm]
 rw[ńq];intro h b e;let{i,c,rfl}:=List.mem_iff_getElem.mp e;let:=h i (Ąa c)
 rwa [ő,đ c]at this;intro h i c;let a:=ód c;rw[ő,đ a];show h _ (ŋb a)
def oi(K:Ô):Á V->Hp->VK->È:=λa H Q=>∃(p:Ë) (bs:Á Ð),a=ķd/\yZ K H p (Ńg V.bl)/\Q (.bl (bs.all id)) H
def z50(A:ŷ=Ã):vg X Ên (oi X.K):=by
 intro E s σ H J N Q I r h;let{p,g,rfl,m,q}:=h;let{u,rfl,t}:=qL r;cases t;let w:=ģa A;show call_all_walk ?_;let{a,l,d,F}:=ϙ m;let B:Ča=Ϗb:=by let:=īb;rw[ã]at this;rw[ĭ];rw[Ôq]
 let c:p<Ý:=by let{o,n,e,_}:=d;show Ĥ e
 show Ýd üj ?_;refine{_,_,_,_,_,_,λi=>g.getD i Ä,rfl,Ϥo (by show w) Ý p ğg ϴa,{{_,Ÿ _ rfl,rfl,rfl},d.isList.push _},?_,?_};intro i v L G C y j;rw[w0k l y];show ó j;intro j x k;rw[<-B,x1f]
 show⟨.bl (g.all id),H,Ųd (t':=x) λb o f=>k b o (λz=>by
  rw[Ŋq]
  rw[this]at f;show Þ Ųj Đa) (ě _ f),rfl,q⟩
#print a
open Builtin.SmallTypes (Äc)
structure VH(P:ï)(w:æ)(it l:Ë)(st:Â->Heap->È)(n:Â)(val:Â->Value):È where
 Ũa:∀i h h',st i h->(∀b o,(b=it\/b=l)->Ģ b=À o->č b=À o)->st i h'
 ąb:∀{A:ù}{Q:Value->Í->È}{E:Value->Í->È}{s:Í}(i:Â),st i â->i<n->(∀h',st í h'->ŷa it â h'->Q (val i) { s with ç:=h' })->Ù śb A ϵf Q E s
 done:∀{A:ù}{Q:Value->Í->È}{E:Value->Í->È}{s:Í}(i:Â),Ċa=Å->st i â->n<=i->
  (∀h' e,ķo it â h'->(∃o,č e=À o/\Êb=.type èd)->E ýg { s with ç:=h' })->Ù śb A ϵf Q E s
section
variable{ă:ï}{w:æ}{A:ù}{E:Value->Í->È}{s:Í}
def y3s{it t:Ë}{i:Â}{z6}{x:Value}{Q:Value->Í->È}(a:ėm it t i)(g:ćd t z6)(j:z6[i]?=À x)(f:∀h',h'.IsTupleIter it t í->ŷa it â h'->Q x { s with ç:=h' }):Ù è A ϵf Q E s:=by
 let{o,c,h,b}:=id a;let{k,e,_,l,d}:=g;unfold Äc
 show Ó (Ód (Ĵ:=Űa ųc) a.typeIs Ϸe
  (łb Ϸe a.typeIs Ϡk ?_ Żk))
 show Ó (m:=İc æb 0) (čb c b (x:=.ref t) rfl ?_);rw[ĳq];show Ó (m:=İc æb 1) (čb c b (x:=.int i 0) rfl ?_);show Ó (m:=seqItems? (.ref t)) (Đb e d ?_);simp only[ģ,j];refine Ó (Ďh c b ô (ó {x,rfl,ó (f _ ?_ Ċj)}))
 show{_,ãd _ c (Obj.isFreed_of_fields (ĝm b _)),(Obj.cls_mapFields ..).trans h,by rw[ĝm b];simp[ϑ]}
def y3r{it t:Ë}{i:Â}{z6}{Q:Value->Í->È}(h:Ċa=Å)(b:ėm it t i)(j:ćd t z6)(l:z6[i]?=Å)(k:∀h' e,ķo it â h'->(∃o,č e=À o/\Êb=.type èd)->E ýg { s with ç:=h' }):Ù è A ϵf Q E s:=by
 let{o,d,p,c}:=id b;let{n,g,_,q,f}:=j;unfold Äc
 show Ó (Ód (Ĵ:=Űa ųc) Ĺe Ϸe
  (łb Ϸe Ĺe Ϡk ?_ Żk))
 show Ó (m:=İc æb 0) (čb d c (x:=.ref t) rfl ?_);rw[ĳq];show Ó (m:=İc æb 1) (čb d c (x:=.int i 0) rfl ?_);show Ó (m:=seqItems? (.ref t)) (Đb g f ?_);simp only[ģ,l];refine Ó (ìd (Ó (Ďh d c ô ?_)));show Ó (m:=Ŀg Ői []) ?_;simp only[Ŀg,newTuple];show Ó Òo;refine Ó (m:=ĝn _ _) (ķi (a:=ϫa) Ĺk ?_);show Üc ?_ Ġh;simp only[ðj];show Ó Ķm
 first|rw[show ŵn=Å from h]|rw[h]
 show Ó (ó (Ęo ?_));show k _ _ (((Ċj).extBut.push _).push _) {_,Ÿ _ rfl,rfl}
def x54{it l:Ë}(c:l≠it)(z6:Ú Value):VH ă w it l (λi h=>ći it l i/\h.IsList l z6) ņ ôh where
 Ũa:=λi h f st k=>{st.1.at λo e=>k it o Ť e,st.2.at λo e=>k l o Ϡb e}
 ąb:=λi st a g=>wpAny_nextOf_list_item st.1 st.2 (x:=z6.getD i .none) Än λf b d=>g f {b,st.2.extBut ĸe c} d
 done:=λi m st a j=>wpAny_nextOf_list_end m st.1 st.2 (àf a) j
def x55{it l:Ë}(c:l≠it)(z6:Ú Value):VH ă w it l (λi h=>Ũn it l i/\Ĕp l z6) ņ ôh where
 Ũa:=λi h f st k=>{st.1.at λo e=>k it o Ť e,st.2.at λo e=>k l o Ϡb e}
 ąb:=λi st a g=>y3s st.1 st.2 (x:=z6.getD i .none) Än λf b d=>g f {b,st.2.extBut ĸe c} d
 done:=λi m st a j=>y3r m st.1 st.2 (àf a) j
variable{z TI TO i1 i2 l1 l2:Ë}{st1 st2:Â->Heap->È}{n1 n2:Â}{v1 v2:Â->Value}{a b:Value}{k:Â}
def w1h{Q:Value->Í->È}(D:Ļe z TI TO i1 i2 l1 l2)(H:VH ă w i1 l1 st1 n1 v1)(L:VH ă w i2 l2 st2 n2 v2)(hz:Ëb â z TI TO .none)(Z:Ŀa â TI Ķd Çg)(X:Ŀa â TO a b)(h1:st1 k â)(h2:st2 k â)(k1:k<n1)(k2:k<n2)(hi1:i1<Ý)(hi2:i2<Ý)(hl1:l1<Ý)(hl2:l2<Ý)(hQ:∀h',Ëb h' z TI TO (ϑ Ý)->Ŀa h' TO Ŵd őg->st1 Ĩ h'->st2 Ĩ h'->Ŀa h' Ý Ŵd őg->
   (∀c o,c≠z->c≠TO->c≠i1->c≠i2->ø c=À o->č c=À o)->Q Ğa { s with ç:=h' }) :
  Ù è A Ťk (λfin s'=>∃v,fin=.done (.ret v)/\Q v s') E s:=by
 rw[Ĩq];show Ó (Đb Z rfl ?_);rw[øq];refine Ó (Ûd hz ô λha t C=>?_)
 replace t:Ëb ha z TI TO .ellipsis:=t
 rw[Ŧq];let W:st1 k ha:=ϸj k _ _ h1 λc o I e=>Ĭb c o (by rcases I with rfl|rfl;show Űg;show D.l1z) e
 show Ó (Φa (Ó (m:=Äc Ķd) (H.item k W k1 λhb O y=>ó ?_)));let n:Ŀa hb TO a b:=įe _ _ D.TOi1 (Ĭb _ _ űg X);show Ó (Đb n rfl (Ó (Êh n λI h p=>?_)))
 replace h:Ŀa I TO Ŵd b:=h
 show Ó Łp
 let T:st2 k I:=ϳj k _ _ h2 λc o d e=>by rcases d with rfl|rfl;show ļd _ _ Ňi (įe _ _ Ϭo (Ĭb _ _ ůg e));show ļd _ _ Ϻj (įe _ _ D.l2i1 (Ĭb _ _ D.l2z e))
 show Ó (Φa (Ó (m:=Äc Çg) (L.item k T k2 λhd R B=>ó ?_)));let j:Ŀa hd TO Ŵd b:=Ŀe _ _ D.TOi2 h;show Ó (Đb j rfl (Ó (Êh j λg f u=>?_)))
 replace f:Ŀa g TO Ŵd őg:=f
 show Ó (Ým Ìj);show Ó (Đb f rfl (Ó (ďh ?_)));let F:Šc=Ý:=by rw[u.1,B.1,p.1,y.1,C.1]
 let G:Ëb g z TI TO .ellipsis:=Šb _ _ ųi (Ŀe _ _ ϫo (ļd _ _ ųi (įe _ _ Ųi t)))
 let S:∀c o,c≠z->c≠TO->c≠i1->c≠i2->ø c=À o->ϧj c=À o:=λc o r N Y P e=>
  Šb _ _ N (Ŀe _ _ P (ļd _ _ N (įe _ _ Y (Ĭb _ _ r e))))
 let h1e:st1 Ĩ g:=ϸj _ _ _ O λc o d e=>by rcases d with rfl|rfl;show Šb _ _ Ĺo (Ŀe _ _ D.i12 (ļd _ _ Ĺo e));show Šb _ _ D.l1TO (Ŀe _ _ D.l1i2 (ļd _ _ D.l1TO e))
 let U:st2 Ĩ g:=ϳj _ _ _ R λc o d e=>by rcases d with rfl|rfl;show Šb _ _ Ňi e;show Šb _ _ Ϻj e
 let l:z<Šc:=Ĥ G;show Ó (m:=ώk Àc ëp) ?_;unfold ώk;let hzf:Ëb (g.push { cls:=.type ώ,Ċ:=.seq #[v1 k,v2 k] }) z TI TO .ellipsis:=ě _ G;refine Ó (Ûd hzf ô λhg q sg=>?_)
 replace q:Ëb hg z TI TO ŗp:=q
 refine Ûd q ô λK i sh=>?_
 replace i:Ëb K z TI TO ŗp:=i
 let J:∀c o,c≠z->ϧj c=À o->K.get? c=À o:=λc o r e=>ąp _ _ r (Ćp _ _ r ĳd)
 let hT:Ŀa K Šc Ŵd őg:=ąp _ _ (Œa l) (Ćp _ _ (Œa l) Ũc);rw[F]at i hT;show ó {_,rfl,?_};exact Q ëp _;rw[F];show hQ K i (J _ _ űg f) (ϸj _ _ _ h1e λc o d e=>J c o ?_ e) (ϳj _ _ _ U λc o d e=>J c o ?_ e) hT λc o r N Y P e=>J c o r (S c o r N Y P e)
 .rcases d with rfl|rfl
  .show Űg
  .show D.l1z
 .rcases d with rfl|rfl
  .show ůg
  .show D.l2z
def w1g{Q:Fin->Í->È}(P:Ċa=Å)(D:Ļe z TI TO i1 i2 l1 l2)(C:VH ă w i1 l1 st1 n1 v1)(S:VH ă w i2 l2 st2 n2 v2)(hz:Ëb â z TI TO .none)(K:Ŀa â TI Ķd Çg)(I:Ŀa â TO a b)(h1:st1 k â)(h2:st2 k â)(R:n1<=k\/n2<=k)(U:∀h' e,(∀c o,c≠z->c≠TO->c≠i1->c≠i2->ø c=À o->č c=À o)->(∃o,č e=À o/\Êb=.type èd)->E ýg { s with ç:=h' }) :Ù è A Ťk Q E s:=by
 rw[Ĩq];show Ó (Đb K rfl ?_);rw[øq];refine Ó (Ûd hz ô λT g l=>?_)
 replace g:Ëb T z TI TO .ellipsis:=g
 rw[Ŧq];let r:st1 k T:=C.keep k _ _ h1 λc o F e=>ĕe c o (by rcases F with rfl|rfl;show Űg;show D.l1z) e
 by_cases k1:k<n1;let Y:n2<=k:=by omega
 show Ó (Φa (Ó (m:=Äc Ķd) (C.item k r k1 λy W h=>ó ?_)));let i:Ŀa y TO a b:=ĵe _ _ D.TOi1 (ĕe _ _ űg I);show Ó (Đb i rfl (Ó (Êh i λF O u=>?_)));show Ó Łp
 let B:st2 k F:=S.keep k _ _ h2 λc o G e=>by rcases G with rfl|rfl;show Šb _ _ Ňi (ĵe _ _ Ϭo (ĕe _ _ ůg e));show Šb _ _ Ϻj (ĵe _ _ D.l2i1 (ĕe _ _ D.l2z e))
 show Ó (Φa (Ó (m:=Äc Çg) (S.done k P B Y λZ e N L=>?_)));let{H,d,f}:=L;let p:Ëb Z z TI TO .ellipsis:=N _ _ ϫo (Šb _ _ ųi (ĵe _ _ Ųi g));let j:e≠z:=λx=>by subst x;rw[p]at d;cases d;simp at f
 show Ûd p ô λv _ q=>U v e (λc o n c2 J X x=>Õg _ _ n (N _ _ X (Šb _ _ c2 (ĵe _ _ J Żn)))) {H,Õg _ _ j d,f};refine Ó (Φa (Ó (m:=Äc Ķd) (C.done k P r Ê λy e h L=>?_)));let{H,d,f}:=L;let t:Ëb y z TI TO .ellipsis:=h _ _ Ųi g;let j:e≠z:=λx=>by subst x;rw[t]at d;cases d;simp at f
 show Ûd t ô λv _ q=>U v e (λc o n _ J _ x=>Õg _ _ n (h _ _ J Żn)) {H,Õg _ _ j d,f}
#print a
#print L2
namespace L2
open Ł Ş Ŋ
def qx(K:Ô)(b:Ð)(H:Hp)(a:Ë)(xs:Á V):È:=match b with
 |Ã=>xR K H a xs|Ä=>yZ K H a xs
nonrec def Iw(a:Ð):îa:=match a with
 |Ã => "tuple_iterator"|Ä => όh
def pR(b:Ð)(h:Heap)(a:Ë)(its:Ú Value):È:=match b with
 |Ã=>Ĕp a its|Ä=>h.IsList a its
def Xj(a:Ð)(h:Heap)(it l:Ë)(i:Â):È:=∃o,Ģ it=À o/\Êb=.type (Iw a)/\ϵ=.fields #[.ref l,.int i 0]
theorem Xj.at{a:Ð}{h h':Heap}{it l:Ë}{i:Â}(x:Xj a h it l i)(e:∀o,Ģ it=À o->č it=À o):Xj a h' it l i:=let ⟨o,ho,r⟩:=x;{o,e _ ho,r}
theorem pR.push{b:Ð}{h:Heap}{a:Ë}{its:Ú Value}(x:pR b h a its)(o:Obj):pR b (Ϧj o) a its:=by cases b;show Heap.IsList.push x o;show Heap.IsTuple.push x o
def pR.lt{b:Ð}{h:Heap}{a:Ë}{its:Ú Value}(x:pR b h a its):a<äb:=by cases b;let{o,e,_}:=x;show Ĥ e;let{o,e,_}:=x;show Ĥ e
section
variable{ă:ï}{w:æ}{A:ù}{E:Value->Í->È}{s:Í}
def D4{b:Ð}{it l:Ë}(a:l≠it)(z6:Ú Value):VH ă w it l (λi h=>Xj b h it l i/\pR b h l z6) ņ ôh:=by cases b;show x54 a z6;show x55 a z6
def oZ{a:Ð}{l:Ë}{z6:Ú Value}{Q:Value->Í->È}(h:pR a â l z6)(b:Q Ğa { s with ç:=Üa { cls:=.type (Iw a),Ċ:=.fields #[.ref l,.int 0 0] } }):Ù è A (Ūd Ŧb) Q E s:=by cases a;show Ýd (show Öi l z6 from h) b;show Þh (show ćd l z6 from h) b
abbrev DW(t1:Ð)(h:Heap)(l1:Ë):Heap:=Ϧj { cls:=.type (Iw t1),Ċ:=.fields #[.ref l1,.int 0 0] }
abbrev DX(t1 t2:Ð)(h:Heap)(l1 l2:Ë):Heap:=(āo).push { cls:=.type (Iw t2),Ċ:=.fields #[.ref l2,.int 0 0] }
abbrev DY(t1 t2:Ð)(h:Heap)(l1 l2:Ë):Heap:=(ňm).push { cls:=.type ώ,Ċ:=.seq #[.ref äb,.ref (āo).objs.size] }
abbrev Da(t1 t2:Ð)(h:Heap)(l1 l2:Ë):Heap:=(Ňm).push { cls:=.type ώ,Ċ:=.seq #[.none,.none] }
abbrev QY(t1 t2:Ð)(h:Heap)(l1 l2:Ë):Heap:=(Da t1 t2 h l1 l2).push { cls:=.type ńa,Ċ:=.fields #[.none,.bool Ä,.bool Ä,.ref (ňm).objs.size,.ref (Ňm).objs.size] }
def w1l(b t2:Ð)(a c:Ë)(xs ys:Ú Value) :Meets (Builtin.«zip.__new__» {[.type ńa,.ref a,.ref c],[]}) (λ_ R s=>pR b â a xs/\pR t2 â c ys/\R (.ok (.ret (.ref (Da b t2 â a c).objs.size))) { s with ç:=QY b t2 â a c }):=
 .of_wp λprog w A R s h=>by
  let{m,g,d,k,l}:=s;let{j,i,h}:=h;let n:=sub_zip;let f:pR b (Īo {m,g,d,k,l}) a xs:=j;let e:pR t2 (Īo {m.push { cls:=.type (Iw b),Ċ:=.fields #[.ref a,.int 0 0] },g,d,k,l}) c ys:=pR.push i _
  wp_walk using oZ f,oZ e
  show{_,rfl,h}
def z5h{b t2:Ð}{a d:Ë}{xs ys:Ú Value}{Q:Value->Í->È}(l:pR b â a xs)(k:pR t2 â d ys)(h:∀h',Ëb h' (Ý+4) (Ý+2) (Ý+3) .none->Ŀa h' (Ý+2) Ğa (.ref ľa)->
   Ŀa h' (Ý+3) .none .none->Xj b h' Ý a 0->Xj t2 h' ľa d 0->
   (∀c o,ø c=À o->č c=À o)->Q (.ref (Ý+4)) { s with ç:=h' }) :
  Ù è A (Ļb ſo [.ref a,.ref d]) Q E s:=by
 refine callType_new F.called_zip Ò (F.typeCall_zip_2 _ _) (F.newCall_zip_2 _ _) (λg=>F.args_object_init_3 g _ _) F.entry_zip_new (w1l b t2 a d xs ys) {l,k,?_};let f:(DW b â a).objs.size=Ý+1:=Ϧa ..;let j:(DX b t2 â a d).objs.size=Ý+2:=by rw[Ϧa,f]
 let e:(DY b t2 â a d).objs.size=Ý+3:=by rw[Ϧa,j]
 let q:(Da b t2 â a d).objs.size=Ý+4:=by rw[Ϧa,e]
 let i:(Ïe).get? (Da b t2 â a d).objs.size=À _:=Ÿ _ rfl;let n:(Ïe).get? (DY b t2 â a d).objs.size=À _:=ě _ Ũc;let m:(Ïe).get? (DX b t2 â a d).objs.size=À _:=ě _ (ě _ Ũc);let p:(Ïe).get? (DW b â a).objs.size=À _:=ě _ ðm;let r:(Ïe).get? Ý=À _:=ě _ (ě _ ðm);exact _/\_;rw[j,e,q]at i;rw[f,j]at m;rw[e]at n;rw[f]at p;rw[q]
 show⟨{_,i,rfl},h _ i m n {_,r,rfl,rfl} {_,p,rfl,rfl} λc o x=>
  ě _ (ě _ (ě _ (ě _ (ě _ x))))⟩
#print a
section
variable{X:Cx}{z8:Á õ}{σ:St}{H:Hp}{s:Í}
def Inv.Uj{b:Ð}{a:Ë}{xs:Á V}(I:Inv X z8 σ H s)(h:qx X.K b H a xs):∃its:Á Value,zo xs its/\pR b â a Ϥ:=by cases b;let{its,r,p,_}:=ϙ h;show{its,r,Ög};let{its,r,p,_}:=àa h;show{its,r,p}
def Inv.bh{b:Ð}{a:Ë}{xs ys:Á V}(I:Inv X z8 σ H s)(h:qx X.K b H a xs)(h':qx X.K b H a ys):xs=ys:=by cases b;show I.Ln h h';show I.Fk h h'
def z0z{fs ch:Á Ë}{h h':Heap}(k:∀b o,b ∉ ch->Ģ b=À o->č b=À o):Un fs ch H H h h':=
 {λb o e _ _ a=>k b o a e,λb o e _ _ a=>{o.slots,k b o a e},λ_ _ _ n _=>n,λb o e a=>{o,k b o a e},λ_ _ z=>z,λ_ _ _ z=>z,λb c e=>{#[],by rw[e];simp}}
def iU{P:ï}{w:æ}{ch:Á Ë}{h h':Heap}(x:wY P w H h)(d:∀b∈ch,H b=Å)(k:∀b o,b ∉ ch->Ģ b=À o->č b=À o):wY P w H h':=λb u e=>by
 let a:∀c v,H c=À v->c ∉ ch:=λc v e z=>by rw[d c z]at e;cases e
 show(Ój).XR (λc v f q=>k c v ?_ q) όf λ_ _ q=>q
 rcases f with z|z;rw[z];show a b u e;show a c _ z
def Inv.but{ch:Á Ë}{h':Heap}{tk:Â}(I:Inv X z8 σ H s)(c:∀b∈ch,gK X z8 H b)(k:∀b o,b ∉ ch->ø b=À o->č b=À o):Inv X z8 σ H { s with ç:=h',Ė:=tk }:=
 I.Fb (s':={ s with ç:=h',Ė:=tk }) rfl (z0z k) ĝl Ϙa λb a=>{Ãc.2.2.2.1,Ãc.2.1,Ãc.2.2.2.2.1,Ãc.2.2.2.2.2}
def Inv.bY{ch:Á Ë}{h':Heap}{tk:Â}{T:Ë}{o:HO}(I:Inv X z8 σ H s)(c:∀b∈ch,gK X z8 H b)(k:∀b o,b ∉ ch->ø b=À o->č b=À o)(f:ø T=Å)(e:H T=Å)(d:xo ö X.w Åp h' T o):Inv X z8 σ Åp { s with ç:=h',Ė:=tk }:=
 I.Fb (s':={ s with ç:=h',Ė:=tk }) rfl (w06 (z0z k) f e) (iV ĝl e d) Ϙa λb a=>{Ãc.2.2.2.1,Ãc.2.1,Ãc.2.2.2.2.1,Ãc.2.2.2.2.2}
#print a
def CM(K:Ô)(c t2:Ð)(a b:Ë):It:=
  ⟨λi H=>∃xs ys x y,qx K c H a xs/\qx K t2 H b ys/\xs[i]?=À x/\ys[i]?=À y,
   λi H v d=>∃p,H p=Å/\v=.ref p/\∀xs ys,qx K c H a xs->qx K t2 H b ys->∃x y,xs[i]?=À x/\ys[i]?=À y/\d=ze H p Ęd,
   λi H=>∃xs ys,qx K c H a xs/\qx K t2 H b ys/\(ë<=i\/ů<=i)⟩
def x83{P:ï}{w:æ}{K:Ô}{S:Á Ö}{N:Â}{pos:Pos}(t1 t2:Ð)(a b z TI TO i1 B:Ë)(D:Ļe z TI TO i1 B a b) :YQ P w K (.Tuple S N pos) ſh īn z (λi h=>Ëb h z TI TO .none/\Ŀa h TI Ķd (.ref B)/\(∃u v,Ŀa h TO u v)/\Xj t1 h i1 a i/\Xj t2 h B b i) where
 mem:=by simp
 obj:=λi h st c d=>by let{f,j,{u,v,m},{o4,p,_,d4},{o5,n,_,d5}}:=st;simp only[ęa,ϝ,Ļa]at d;rcases d with rfl|rfl|rfl|rfl|rfl;show{_,f,λv q=>nomatch q};show{_,j,λv q=>nomatch q};show{_,m,λv q=>nomatch q};show{_,p,λv q=>by rw[d4]at q;cases q};show{_,n,λv q=>by rw[d5]at q;cases q}
 Ũa:=λi h h' st k=>by let{f,j,{u,v,m},p,n}:=st;show{k z ô _ f,k TI ô _ j,{u,v,k TO ô _ m},p.at λo e=>k i1 ô o e,n.at λo e=>k B ô o e}
 ąb:=by
  rw[éq];let{xs,ys,x,y,hx,hy,ex,ey}:=hg;rw[Şq];let{xu,R,rxu}:=ru.get ex;let{yw,U,ryw}:=t.get ey;let k1:i<Ĩn:=by rw[ĭ];show(ĵ R).1
  let k2:i<ħn:=by rw[ĭ];show(ĵ U).1
  let e1:G.toArray.getD i .none=xu:=by let:=ĵ R;let{l,e}:=this;simp[ęd,l,e]
  let e2:J.toArray.getD i .none=yw:=by let:=ĵ U;let{l,e}:=this;simp[ęd,l,e]
  let L:ñb Àc ńa:={_,f,rfl};let q4:i1<Ý:=by let{o,e,_}:=p;show Ĥ e
  let q5:B<Ý:=by let{o,e,_}:=n;show Ĥ e
  unfold Ţd
  show Ó (øf (Ód (Ĵ:=Űa ųc) L äf (łb äf L Ϭm
   (w1h D Ϝl ϛl f j m {p,pu} {n,Z} k1 k2 q4 q5 pu.lt Z.lt λh' a1 a2 a3 a4 a5 a6=>ó ?_) Ϛl)))
  rw[e1,e2]at a2 a5;show{_,rfl,wpAny_letOwnedTupleGo_zip (s:={ s with ç:=h' }) a1 λA b1 C=>?_}
  let hTs:ø Ý=Å:=by
   cases q:ø Ý with
   |Å=>rfl|À o=>show Þ ġg Đa
  let Q:H Ý=Å:=ğb Ď;let hTz:Ý≠z:=Œa Ųj;let tup:A.get? Ý=À { cls:=.type ώ,Ċ:=.seq #[xu,yw] }:=Ĭb _ _ hTz a5
  let N:∀c o,c ∉ īn->ø c=À o->A.get? c=À o:=λc o d e=>by simp only[ęa,ϝ,Ļa,ľg]at d;show Ĭb _ _ d.1 (a6 c o d.1 d.2.2.1 d.2.2.2.1 d.2.2.2.2 e)
  let new:xo ö X.w (ze H Ý Ęd) A Ý Ęd:={ĺl,[xu,yw],.cons rxu (.cons ryw .nil),{_,tup,rfl,_,rfl}};show{.ref Ý,ze H Ý Ęd,I.bY (tk:=ĕ) Y N hTs Q new,rfl,{Ý,Q,rfl,λxs' ys' hx' hy'=>?_},{b1,?_,{_,_,Ĭb _ _ űg a2},a3.1.at λo e=>Ĭb _ _ Űg e,a4.1.at λo e=>Ĭb _ _ ůg e},λc d=>?_};rw[I.bh hx' hx,I.bh hy' hy];show{x,y,ex,ey,rfl};show Ĭb _ _ D.TIz (a6 _ _ D.TIz D.TITO D.TIi1 D.TIi2 j);rw[yH];show(Y c d).1;intro q
  let O:c<Ý:=by simp only[ęa,ϝ,Ļa]at d;rcases d with rfl|rfl|rfl|rfl|rfl;show Ĥ f;show Ĥ j;show Ĥ m;show q4;show q5
  rw[q]at O;show Þ O Đa
 done:=by
  rw[éq];let{xs,ys,hx,hy,hend}:=hg;rw[Şq]
  let r:Ĩn<=i\/ħn<=i:=by let l1:=ru.length;let l2:=Īb;rw[ĭ,ĭ];omega
  let L:ñb Àc ńa:={_,f,rfl};unfold Ţd
  show Ó (øf (Ód (Ĵ:=Űa ųc) L äf (łb äf L Ϭm
   (w1g (by show ģa d) D Ϝl ϛl f j m {p,pu} {n,Z} r λh' e N he=>?_) Ϛl)))
  let{o,ho,hcl}:=he;show Ó (ïh (T := èd) (b:=Ã) {o,ho,hcl} Ĝn ?_);show ó {rfl,I.but (tk:=ĕ) Y λc ob g eb=>?_};simp only[ęa,ϝ,Ļa,ľg]at g;show N c ob g.1 g.2.2.1 g.2.2.2.1 g.2.2.2.2 eb
 Ðc:=λ_ _ _ _ _ st h=>Ϝm st.1 h
def xj{a b:Â}(h:a≠b):@Ne Ë a b:=h
def w1i{n a b:Â}(d:a<n)(c:b<n):Ļe (n+4) (n+2) (n+3) n Ĝ a b:=
 {xj Ê,xj Ê,xj Ê,xj Ê,xj Ê,xj Ê,xj Ê,xj Ê,xj Ê,xj Ê,xj Ê,xj Ê,xj Ê,xj Ê,xj Ê,xj Ê,xj Ê,xj Ê}
def z4q:ϔ ńa=À ſo:=by rw[Îq]
section
variable{X:Cx}
def iW(K:Ô)(d:TA):TI:=λσ H R=>d σ H λe c=>∃a b xs ys t1 t2,e=[.ref a,.ref b]/\qx K t1 c a xs/\qx K t2 c b ys/\R ſh c
def y9p{a b:Ö}{C:TA}{p pos:Pos}{f:Á Ö}{O:Â}{U:Pos}(Q:Gl X ńa)(S:ð ńa=Å)(ha:PA X Ϝe C)(Z:Î (Ób Ϝe Û=[(Ä,ĩ a Û),(Ä,ĩ b Û)]) q12)(d:Î (Ób [b] Û=[(Ä,ĩ b Û)]) q12):PI X (.Tuple f O U) Ϣg (iW X.K C):=by
 intro t s σ H R I h;show Call_ (Tk I Q S z4q (Åf (zy (ha pos t s σ H _ I h) λus e ⟨vs,B,g,r1,G⟩=>?_) (by rw[Z,d]) (by rw[d];rfl)));let{k,l,xs,ys,W,Y,rfl,L,T,q}:=G;let{u,v,rfl,N,rv}:=A0 r1;cases(show u=ę k from N);cases(show v=ę l from rv);let{us,_,z}:=g.Uj L;let{ws,_,m}:=g.Uj T;let A:=z.lt;let o:=m.lt;show z5h z m λF j x w E r J=>?_
 let P:Inv X t σ B { e with ç:=F }:=g.kept (t':=e.toks) J;show Ϝm (s:={ e with ç:=F }) j ?_;generalize hn:Ϡm=n at j x w E r A o
 let D:Ļe (n+4) (n+2) (n+3) n Ĝ k l:=by show w1i A o
 show{n+4,[n+4,n+2,n+3,n,n+1],_,_,B,rfl,P,x83 W Y k l (n+4) (n+2) (n+3) n Ĝ D,{j,x,{_,_,w},E,r},λc y=>?_,q}
 let i:Ϡm<=c:=by rw[hn];simp only[ęa,ϝ,Ļa]at y;rcases y with rfl|rfl|rfl|rfl|rfl;show įa _ _;show įa _ _;show įa _ _;show Ĭ _;show įa _ _
 show g.Wn i (Ϝo i)
def x0q{a b:Ö}{e:TA}{p pos:Pos}{d:Á Ö}{f:Â}{k:Pos}(i:Gl X ńa)(j:ð ńa=Å)(l:QA X Ϝe e)(g:Î Ēe q12)(c:Î Êp q12) :QI X (.Tuple d f k) Ϣg (iW X.K e):={y9p i j l.h (by rw[qf g,qf c];rfl) (qf c)}
#print a
def e8(a:ða)(env:Env)(b:Á ϲa)(own:Á Ç):Ð:=
 a.kind == .function&&Ļi (λy=>y.2 != .cell)&&TV a env b own&&Ļi (λy=>y.2 != .local||ϐb y.1==À .local)
def vB{X:Cx}{a:ða}{b:Á ϲa}{own:Á Ç}(f:ϟo a Û=pure b)(j:Î (XU Û b) q14)(ok:Î (e8 a Û b own=Ã) q12):XT X a b own:=by unfold e8 at ok;simp only[Đ]at ok;obtain⟨⟨⟨g,d⟩,i⟩,h⟩:=ok;show{Ĺf g,λy c e=>?_,j,i,f,λy c e=>?_};let:=ãa d y c;rw[e]at this;cases this;let:=ãa h y c;rw[e]at this;rw[Ùq]
def x0r{X:Cx}{e:Ö}{a:TE}{pos:Pos}{i:Â}{x:Ç}{ϓ:Pos}(d:êa)(hi:X.N[i]?=À x)(f:qR ϻ x)(b:QE X e a)(c:Î ſg q12)(g:Î Ŭa q7):QS X Ľc (D9 a ŭb):={oB d hi f b.h c g}
section
variable{X:Cx}(K:Ô)(hK:X.K=K)
include hK
#print a
def z3g(K:Ô)(a:Ë)(xs:Á V):È:=∀H,xR K H a xs
def f6{K:Ô}{a:Ë}{xs:Á V}{d:É Ë}{its:Ú Value}{n:Â}{b:Ú ϯa}(h:Ãa a=À {.type ώ,d,.seq its n,b})(hz:øj<=å)(r:zo xs Ďe):z3g K a xs:=
 λ_=>.inr {_,its,n,h,rfl,rfl,hz,r}
open Builtin Ľo
section
variable{X:Cx}
theorem z1a:∀{ts:Á Ç}{its:Á Value},zo Őp its->∃l:Á (Ç×Tok),its=āp l/\Õa (·.1)=ts
 | [],_,.nil=>{[],rfl,rfl}|t::ts,_,.cons r rr=>by let{k,e}:=(show ∃k,_=şb t k from r);let{l,e1,e2}:=z1a rr;subst e e1;show{(t,k)::l,rfl,by rw[Ļ,e2]}
def x11(K:Ô):V->Á V->Hp->VK->È:=λx a H Q=>∃(sep:Ç) (p:Ë) (ts:Á Ç),x=.str sep/\a=ķd/\yZ K H p Őp/\(Ĕc (·.length)).sum+ϥf*ŵc<=å/\Q (.str Ōn) H
def iP(sep:Ç):∀ts:Á Ç,(Ōn).length<=(Ĕc (·.length)).sum+ϥf*ŵc
 | []=>by exact(Ÿc _)<=_;simp[glued,Ÿc,ϴi]|t::ts=>by
  let h:∀(c:Á Ç)(a:Ú Â),(c.foldl ćl a).size=Ŏ+(c.map (·.length)).sum+üa*ŵc:=λc=>by
   induction c with
   |nil=>intro a;simp|ñ u c ih=>intro a;rw[Êa,ih];simp only[Śh,Ļ,Ļf,Ć,đi,Ÿc];omega
  exact(ts.foldl ćl t.cps).size<=_;rw[h];simp only[Ļ,Ļf,Ć,đi,Ÿc];omega
def y3a:TF X "str.join" (x11 X.K):=by
 intro k s σ H x P v S Q I G O h;let{d,p,y,rfl,rfl,A,J,q}:=h;let{t,rfl}:=(show ∃t,v=şb d t from G);let{u,rfl,C}:=qL O;cases(show u=ę p from C);let{L,r,z,_}:=ϙ A;let{l,rfl,j}:=z1a r;let B:ñb Ŷ Ī:=z.isList.typeIs;let{o,E,R,n,N}:=z.isList
 let g:tooLong ((Õa (·.1)).toArray.foldl (·+·.length+ϰ) 0)=Ä:=by rw[j,StrLaws.joinTotal];unfold tooLong;show Ē Ê
 let i:(glued d y).length<=å:=ý (iP d y) J;show Ēf (ϧl F.slot_str_join.plain F.entry_str_join (F.slot_str_join.check _ _ _ _ _ _ _ _ (ēf _ _ _) (F.args_str_join_2 _ _) ?_));let{m,e}:=join_tree d t p;rw[e];show Ó (íd B ?_);rw[Ï Ò];show Ó (Đb E N ?_);exact Ù _ _ (joinTail d (āp l)) _ _ _;rcases l with _|⟨a,_|⟨b,c⟩⟩;subst j;show Đh d [] g ö X.w _ Ŷg s {i,.str _,H,Óa _,{_,rfl},q};subst j;show Đh d [a] g ö X.w _ Ŷg s {.str _,H,I,{_,rfl},q};subst j;show Đh d (a::b::c) g ö X.w _ Ŷg s {i,.str _,H,Óa _,{_,rfl},q}
#print a
nonrec def Ly(z:Ç):It:={λi _=>i<Ņ,λi H x a=>a=H/\∃c,ϳc[i]?=À c/\x=.str {#[c]},λi _=>Ņ<=i}
section
variable{X:Cx}{tg:Ö}
def y07(b:TE):TI:=λσ H R=>b σ H λx a=>∃z,x=.str z/\R śg a
def x81{P:ï}{w:æ}{K:Ô}{it:Ë}{z:Ç}{t:Tok}{n:îa}(j:n = Ϥl \/ n = Ėn):YQ P w K tg śg [it] it (λi h=>h.IsStrIter it n z t i/\i<=Ņ) where
 mem:=by simp
 obj:=λi h st b g=>by
  let e:b=it:=by simpa using g
  subst e;obtain⟨⟨o,e,c,d⟩,_⟩:=st;show{o,e,λv z=>by rw[d]at z;cases z}
 Ũa:=λi h f st k=>{let ⟨o,ho,r⟩:=st.1;{o,k it ô o ho,r},st.2}
 ąb:=by
  rw[ñq];let Q:i<ši:=C;let l:ϳc[i]?=À ϳc[i]:=by simp[Q]
  have Y:∀f J (u:Value),(∃t',u=şb {#[ϳc[i]]} t')->f.IsStrIter it n z t í->ŷa it â f->∃v,À u=À v/\
    Ù Ą X.A (ôf tg æb v) (λ_ U=>∃x H',Inv X N σ H' U/\yC x v/\(śg).tm i H x H'/\(U.heap.IsStrIter it n z t í/\i+1<=Ņ)/\∀b∈[it],H' b=Å) E { s with ç:=f,Ė:=J }:=λf J u hu a m=>by
   let{t',rfl}:=hu;let I1:Inv X N σ H { s with ç:=f,Ė:=J }:=ób (λb o g e=>(m.2 b g).trans e) B F y p G;let{o,e,c,d}:=id a;show{_,rfl,Ie (s:={ s with ç:=f,Ė:=J }) e c d (by rcases j with rfl|rfl<;>decide) {.str {#[ϳc[i]]},H,I1,{t',rfl},{rfl,_,l,rfl},{a,C},λb g=>(q b g).1}}
  rcases j with rfl|rfl;show wpAny_pyNext_ascii_item st.1 l λf a m=>Y f _ _ {_,rfl} a m;show wpAny_pyNext_wide_item st.1 l λf a m=>Y f _ _ {_,rfl} a m
 done:=by rw[ñq];let l:ϳc[i]?=Å:=àf C;rcases j with rfl|rfl;show wpAny_pyNext_ascii_end (ģa R) st.1 l λf S=>{rfl,ób (t':=ĕ) Řl B F y p G};show wpAny_pyNext_wide_end (ģa R) st.1 l λf S=>{rfl,ób (t':=ĕ) Řl B F y p G}
 Ðc:=λ_ _ _ _ _ st h=>by rcases j with rfl|rfl;show wpAny_pyIter_striter_ascii st.1 h;show wpAny_pyIter_striter_wide st.1 h
def y9o{e:Ö}{i:TE}(p:PE X e i):PI X tg e (y07 i):=by
 intro j s σ H R I h;show zy (p j s σ H _ I h) λv a ⟨x,l,g,m,k⟩=>?_
 let{z,rfl,q}:=k;let{t,rfl}:=(show ∃t,v=şb z t from m)
 let c:∀(d:îa),(d = Ϥl \/ d = Ėn)->∀o:Obj,(Āe o).IsStrIter Ϥa d z t 0->CP X j σ tg R ìp { a with ç:=Āe o }:=λd f o st=>
  ⟨Ϥa,[Ϥa],_,_,l,rfl,g.kept (t':=Ņg) λb o e=>ě _ e,x81 f,{st,ŵ _},λb n=>by
   let e:b=Ϥa:=by simpa using n
   subst e;show g.Wn Ď (Ϝo Ď),q⟩
 cases ha:z.cps.all (·<128);show wpAny_pyIter_wide ha (c _ Ϡb _ {_,Ÿ _ rfl,rfl,rfl});show wpAny_pyIter_ascii ha (c _ Ť _ {_,Ÿ _ rfl,rfl,rfl})
#print a
def cutS(z:Ç)(lo hi:É Æ):Ç:={((ŏh (Ś Ņ 0 lo)).take Ùl).toArray}
def z5x(n:Â)(lo:É Æ):(match lo with|Å=>(0:Æ)|À i=>max 0 ϗd)=((Ś n 0 lo:Â):Æ)\/∃i,lo=À i/\i<0/\(n:Æ)<i+n:=by
 cases lo with
 |Å=>left;rfl|À i=>
  left
  exact max 0 ϗd=((Ϗg:Â):Æ);by_cases h:i<0;simp only[h,ϋ];omega;simp only[h,ċa];omega
def z5w(n:Â)(hi:É Æ):(match hi with|Å=>(n:Æ)|À i=>max 0 ϗd)=((Ś n n hi:Â):Æ):=by
 cases hi with
 |Å=>rfl|À i=>exact max 0 ϗd=((Ϗg:Â):Æ);by_cases h:i<0;simp only[h,ϋ];omega;simp only[h,ċa];omega
def z5y(n:Â)(lo:É Æ):(match lo with|Å=>(0:Æ)|À i=>max 0 ϗd)=((Ś n 0 lo:Â):Æ):=by rcases z5x n lo with h|⟨i,_,h1,h2⟩;show h;omega
def nX(z:Ç)(lo hi:É Æ):Şh=(ϡ Ùl).map (Ś Ņ 0 lo+·):=by let b:=z5y Ņ lo;let a:=z5w Ņ hi;rw[<-ęn,<-b,<-a];unfold Øf;simp only[show(1:Æ)>0 by decide,ϋ];cases lo<;>cases hi<;>rfl
def z68(z:Ç)(lo hi:É Æ):({((Şh).filterMap (ϳc[·]?)).toArray}:Ç)=cutS z lo hi:=by rw[nX,òj];rfl
def Ūe(n d:Â)(a:d<=n)(v:É Æ):Ś n d v<=n:=by
 cases v with
 |Å=>show a|À i=>exact Ϗg<=n;by_cases h:i<0;simp only[h,ϋ];omega;simp only[h,ċa];omega
def z6b(z:Ç)(lo hi:É Æ)(h:(Şh).length=Ņ):cutS z lo hi=z:=by
 rw[nX,ã,Úa]at h;let a:=Ūe Ņ 0 ũb lo;let b:=Ūe Ņ Ņ Ď hi;unfold cutS;rw[h];let d:Ś Ņ 0 lo=0\/Ņ=0:=by omega
 let f:Ùm=Ņ:=by simp[Ÿc]
 rcases d with q|q;rw[q,List.drop_zero,<-f,ŕc];let e:þf=[]:=Ϲg Ê;rw[e];simp;cases z with
 |mk c=>simp[Ÿc]at q;simp[q]
theorem Ŕe(z:Ç)(lo hi:É Æ):(ŏn).length<=Ņ:=by exact(List.toArray _).size<=ši;rw[ĭ,åa,ŏa,ļ];show ý Ϸf Ĵa
section
variable{X:Cx}
def nP{v:Value}{lo:É Æ}(h:Êc v lo):∃l:É (Æ×Tok),v=partValue l/\Õa (·.1)=lo:=by
 cases h with
 |Å=>show{Å,rfl,rfl}|int i t=>show{À (i,t),rfl,rfl}
def rD:V->É Æ->É Æ->Hp->VK->È:=λx b a H Q=>∃z:Ç,x=.str z/\Ņ<=å/\Q (.str (cutS z b a)) H
def x4m:YO X rD:=by
 intro p s σ H x v n m o j k Q I g f b c h;let{z,rfl,i,q}:=h;let{t,rfl}:=(show ∃t,v=şb z t from g);let{l,rfl,rfl}:=nP b;let{u,rfl,rfl}:=nP c;show{ϐe,_,F.slot_str_getitem.lookup,ēf _ _ _,?_};show wpAny_getItem_str_slice (l:=l) (u:=u) (st:=Å) f rfl ?_;unfold sliceMade;let d:slicePicked z l u Å=Øf (Õa (·.1)) (u.map (·.1)) 1 Ņ:=rfl;rw[d]
 split;rename_i a
 let e:(Øf (Õa (·.1)) (u.map (·.1)) 1 Ņ).length=Ņ:=by rw[Đ]at a;show Ĺf a.2
 rw[z6b z _ _ e]at q;show{.str z,H,I,{_,rfl},q};rw[z68];show{ý (Ŕe z _ _) i,.str _,H,Óa _,{_,rfl},q}
#print a
section
variable{X:Cx}{e o:Ö}{to:TE}{Èa Ϭ:Pos}{Ĵ:Ç}{T id:îa}{rm:V->Á V->Hp->VK->È}
def x0n(g:žf T)(c:Slot T Ĵ id)(d:ĺg Þb=pure Çf)(e:TF X id rm)(f:QE X o to)(a:Î Ϭe q12)(b:Î Ŀb q12):QE X ϝl (z0l X.K T rm to):={y8q g c d e f.h a b}
#print a
#print L2
namespace L2
open Ł Ş Ŋ
section
variable{κ:Type}[řb κ]
nonrec def pG(kvs:Á Àb)(k:κ):É V:=(kvs.find? λa=>decide (a.1=k)).map (·.2)
nonrec def qG(kvs:Á Àb)(k:κ)(v:V):Á Àb:=
 if(kvs.any λa=>decide (a.1=k))=Ã then ϝc (λa=>if a.1=k then(a.1,v)else a)else kvs++[(k,v)]
theorem DM{p:κ×V}{r:Á Àb}{k:κ}(e:p.1=k):pG (p::r) k=À p.2:=by simp[pG,Ăd,e]
theorem DL{p:κ×V}{r:Á Àb}{k:κ}(e:¬ p.1=k):pG (p::r) k=pG r k:=by simp[pG,Ăd,e]
theorem z15(k:κ):∀kvs:Á Àb,Ãl=(Ϗf).isSome
 | []=>rfl|p::r=>by rw[Ďd];by_cases e:p.1=k;simp only[DM e,ú e,Bool.true_or,Option.isSome_some];rw[DL e,Ē e,ųn];show z15 k r
def N1(kvs:Á Àb)(k:κ)(v:V):(ġi).length<=ŋ+1:=by
 unfold qG
 split;rw[ã];omega;rw[ì,Ć,śc];omega
def tz.Ue{o:É V}{u:É Value}(r:tz o u):o.isSome=u.isSome:=by
 cases o with
 |Å=>cases u with
  |Å=>rfl|À _=>show(show Ā from r).elim
 |À _=>cases u with
  |Å=>show(show Ā from r).elim|À _=>rfl
theorem tz.getD{o:É V}{u:É Value}{d:V}{d':Value}(r:tz o u)(a:yC d d'):yC (ūd d) (u.getD d'):=by
 cases o with
 |Å=>cases u with
  |Å=>show a|À _=>show(show Ā from r).elim
 |À _=>cases u with
  |Å=>show(show Ā from r).elim|À _=>show r
def KV.val{kvs:Á Àb}{vs:Á ģd}(r:KV kvs vs)(k:κ):tz Ϗf (Ĝc vs k):=by
 unfold KV at r
 induction r with
 |nil=>show Źa|@cons p q ps qs h t ih=>
  let{c,d}:=h;rw[źq];let b:Ĝc Īg k=À q.2:=by simp[Ĝc,Ăd,a]
  rw[DM e,b];show d;let a:¬ q.1=k:=λz=>e (ϋa z)
  let b:Ĝc Īg k=Ĝc qs k:=by simp[Ĝc,Ăd,a]
  rw[DL e,b];show ih
theorem KV.any{kvs:Á Àb}{vs:Á ģd}(r:KV kvs vs)(k:κ):Ãl=vs.any λkv=>decide ĥj:=by
 unfold KV at r
 induction r with
 |nil=>rfl|ñ h t ih=>rw[Ďd,Ďd,ih,h.1]
theorem KV.Fi{kvs:Á Àb}{vs:Á ģd}(r:KV kvs vs)(k:κ){y:V}{u:Value}(c:yC y u) :KV Ľk (Ķg λkv=>if kv.1=k then(kv.1,u)else kv):=by
 unfold KV at r ⊢
 induction r with
 |nil=>show .nil|@cons p q ps qs h t ih=>rw[Ļ,Ļ];show .cons ?_ ih;let{a,b}:=h;by_cases e:p.1=k;rw[Ï e,Ï (Ŧh e)];show{a,c};rw[Ñ e,Ñ Ϸl];show{a,b}
def KV.put{kvs:Á Àb}{vs:Á ģd}(r:KV kvs vs)(k:κ){y:V}{u:Value}(a:yC y u):KV ìo (ĥc vs k u):=by unfold qG ĥc;rw[r.any k];by_cases e:(vs.any λb=>decide (b.1=k))=Ã;rw[Ï e,Ï e];show r.Fi k a;rw[Ñ e,Ñ e];show Ĭo r {rfl,a}
theorem KV.length{kvs:Á Àb}{vs:Á ģd}(r:KV kvs vs):ŋ=ē:=Üi r
#print a
def Zi{P:ï}{w:æ}{k:zY}{u:Value}(r:yC Ñk u):(êb).is k u=Ã:=by
 cases k with
 |inl i=>let{t,e}:=(show ∃t,u=ϣb i t from r);subst e;show y33 P w i t
 |inr x=>let{t,e}:=(show ∃t,u=şb x t from r);subst e;show NA P w x t
theorem i_{P:ï}{w:æ}:∀{ks:Á zY}{us:Á Value},zo Ķf us->ItemsAre êb ks us
 | [],_,r=>by rw[øe]at r;cases r;show .nil|k::ks,_,r=>by
  rw[Ļ]at r;cases r with
  |ñ h t=>show .cons (Zi h) (i_ t)
abbrev KT(H:Hp):Á Śb->Á Ņc->È:=űd λp q=>p.1=q.1/\H q.2.1=À Ďm/\yC p.2 q.2.2
def KT.val{H:Hp}{kvs:Á Śb}{xs:Á Ņc}(r:KT H kvs xs)(k:Á zY):tz Ϗf ((ĥi).map (·.2)):=by
 induction r with
 |nil=>show Źa|@cons p q ps qs h t ih=>
  let{c,_,d}:=h;rw[źq];let b:ϕe Īg k=À q.2:=by simp[ϕe,Ăd,a]
  rw[DM e,b];show d;let a:¬ q.1=k:=λz=>e (ϋa z)
  let b:ϕe Īg k=ϕe qs k:=by simp[ϕe,Ăd,a]
  rw[DL e,b];show ih
def KT.Fi{H:Hp}{kvs:Á Śb}{xs:Á Ņc}(r:KT H kvs xs)(k:Á zY){y:V}{u:Value}(d:yC y u) :KT H Ľk (ģc (Ëc k u)):=by
 induction r with
 |nil=>show .nil|@cons p q ps qs h t ih=>rw[Ļ,Ļ];show .cons ?_ ih;let{a,b,c}:=h;unfold Ëc;by_cases e:p.1=k;rw[Ï e,Ï (Ŧh e)];show{a,b,d};rw[Ñ e,Ñ Ϸl];show{a,b,c}
def KT.put{H:Hp}{kvs:Á Śb}{xs:Á Ņc}(r:KT H kvs xs)(k:Á zY){b:Ë}{y:V}{u:Value}(d:H b=À ťh)(a:yC y u) :KT H ìo (storedH xs k b u):=by
 let e:(kvs.any λc=>decide (c.1=k))=(ĥi).isSome:=by rw[z15,(r.val k).Ue,Œh]
 unfold qG storedH;rw[e];by_cases q:(ĥi).isSome=Ã;rw[Ï q,Ï q];show r.Fi k a;rw[Ñ q,Ñ q];show Ĭo r {rfl,d,a}
def KT.keeps{H H':Hp}{kvs:Á Śb}{xs:Á Ņc}(r:KT H kvs xs)(a:∀b ys,H b=À ċe->H' b=À ċe):KT H' kvs xs:=
 ϰf r λ_ _ z=>{z.1,a _ _ z.2.1,z.2.2}
section
variable{P:ï}{w:æ}{H:Hp}{h:Heap}{a:Ë}
def rO{u:HO}(ok:wY P w H h)(e:Rd H a u):xo P w H h a u:=e.ok ok
def kN{kvs:Á Æa}(ok:wY P w H h)(e:Rd H a ũ):ŋ<=å/\ĵa=Ä/\∃vs,KV kvs vs/\Ķe êb a vs:=
 show xo P w H h a ũ from rO ok e
def z6n{kvs:Á Æa}(ok:wY P w H h)(e:H a=À ũ):ŋ<=å/\ĵa=Ä/\∃vs,KV kvs vs/\Ķe êb a vs:=kN ok Ļj
def I_{ks:Á zY}(ok:wY P w H h)(e:H a=À çp):(Ýe).is h ks a:=by let{_,b,r,o,d,c,n,f}:=(show xo P w H h a çp from ok a _ e);show{o,ëb,n,d,c,f,by simpa using i_ r}
def TX{kvs:Á Śb}(ok:wY P w H h)(e:Rd H a ϫb):ŋ<=å/\ĵa=Ä/\
  ∃xs,KT H kvs xs/\ĕp Ýe a xs:=by
 let{z,y,xs,r,o,f,n,d,i,j,g,k}:=(show xo P w H h a ϫb from rO ok e);show{z,y,xs,r,o,f,n,d,i,j,g,λx b=>?_,k}
 let c:∀{l:Á Śb} {m:Á Ņc},KT H l m->∀x∈m,(Ýe).is h x.1 x.2.1:=by
  intro l m q
  induction q with
  |nil=>intro x b;show nomatch b|@cons p q ps qs hq t ih=>intro x b;rcases Ğ b with e|b;subst e;show I_ ok (by rw[<-hq.1];show hq.2.1);show ih x b
 show c r x b
def z72{kvs:Á Śb}(ok:wY P w H h)(e:H a=À ϫb):ŋ<=å/\ĵa=Ä/\
  ∃xs,KT H kvs xs/\ĕp Ýe a xs:=TX ok Ļj
#print a
def JC(H:Hp)(a:Ë)(y:V)(r:É V):È:=
 (∃kvs k,Rd H a ũ/\y=kV k/\r=pG kvs k)\/∃kvs k b,Rd H a ϫb/\y=.ref b/\H b=À ťh/\r=pG kvs k
def bq(H:Hp)(a:Ë)(y v:V)(H':Hp):È:=
 (∃kvs k,H a=À ũ/\y=kV k/\ŋ<å/\H'=ze H a (.dK ġi)) \/
 ∃kvs k b,H a=À ϫb/\y=.ref b/\H b=À ťh/\ŋ<å/\H'=ze H a (.dT ġi)
section
variable{X:Cx}{z8:Á õ}{σ:St}{H:Hp}{s:Í}{a:Ë}{y v:V}{u r:Value}{o:É V}{A:ù}{E:Value->Í->È}
def Inv.big(I:Inv X z8 σ H s):Ëi<Ý:=by let h:ġ<Ý:=(I.mod.glob.keeps I.bk).lt;show Ōf Ò h
def z6d{Q:Value->Í->È}(p:Ťa+1<Ϛ)(I:Inv X z8 σ H s)(g:JC H a y o)(m:yC y u)(h:∀s',Inv X z8 σ H s'->Q (.bool o.isSome) s') :Ù Ą A (ķa .In u Ŗ) Q E s:=by rcases g with⟨f,k,e,i,l⟩|⟨f,k,b,e,i,n,l⟩;rw[ϙq];show ęo (Zi m) d j.mapOf ?_;rw[äq];show wpAny_in_heap (Ñf p) ãp d j ?_;rw[Ĭq]
def z6f{Q:Value->Í->È}(p:Ťa+1<Ϛ)(I:Inv X z8 σ H s)(g:JC H a y o)(m:yC y u)(h:∀s',Inv X z8 σ H s'->Q (.bool (!o.isSome)) s') :Ù Ą A (ķa .NotIn u Ŗ) Q E s:=by rcases g with⟨f,k,e,i,l⟩|⟨f,k,b,e,i,n,l⟩;rw[ϙq];show wpAny_notIn_of (Zi m) d j.mapOf ?_;rw[äq];show wpAny_notIn_heap (Ñf p) ãp d j ?_;rw[Ĭq]
def fF{h':Heap}{t':Â}{c:HO}(I:Inv X z8 σ H s)(h:Ji (H a))(f:ŷa a â h')(i:∃q,č a=À q)(d:xo ö X.w Äp h' a c) :Inv X z8 σ Äp { s with ç:=h',Ė:=t' }:=
 Ēg (x:=a) (e:=a) h Ť (λb q g z=>(f.2 b g).trans z) i d
def GR{P:ï}{w:æ}{H':Hp}{h':Heap}{kvs:Á Æa}{vs:Á œa}(z:ŋ<=å)(c:ĵa=Ä)(b:KV kvs vs)(d:Ϩf êb a vs) :xo P w H' h' a ũ:={z,c,vs,b,d}
def z6g{H':Hp}{Q:ña->Í->È}(R:Ťa+1<Ϛ)(I:Inv X z8 σ H s)(g:bq H a y v H')(F:yC y u)(K:yC v r)(h:∀s',Inv X z8 σ H' s'->Q () s') :Ù Ą A (ŋj Ŗ u r) Q E s:=by
 rcases g with⟨f,k,e,p,l,m⟩|⟨f,k,b,e,p,G,l,m⟩;subst p m;let{z,o,S,d,t}:=z6n ĝ e;have n:S.length<=å:=by rw[<-ϰ];show z
 rw[Ňq]
 show wpAny_setItem_pairs (hsz:=n) (Zi F) t λJ i x=>h _ ?_
 let W:∃q,ϴj a=À q:=let ⟨q,_,_,j,_⟩:=i;{q,j};show fF I Īh x W (GR B o (d.put k K) i);subst p m;cases(show u=ę b from F);let{z,o,T,d,t}:=z72 ĝ e;have n:Ϻa<=å:=by rw[<-Üi d];show z
 rw[Ňq]
 show wpAny_setItem_heap (hsz:=n) (Ñf R) (I_ ĝ G) t λJ i x=>h _ ?_
 let{q,L,P,j,U,Y,N,_,O}:=i;refine fF I Īh x {q,j} {B,o,_,(d.put k G K).keeps λc Z C=>?_,q,L,P,j,U,Y,N,O};rw[yH (y3m C e æa)];show C
#print a
section
variable{X:Cx}{z8:Á õ}{σ:St}{H:Hp}{s:Í}{a:Ë}{kvs:Á Æa}{A:ù}{E:Value->Í->È}
def z6e{Q:Value->Í->È}(I:Inv X z8 σ H s)(e:Rd H a ũ)(h:∀t s',Inv X z8 σ H s'->Q (.int ŋ t) s'):Ù Ą A (Ļb þd Ϯ) Q E s:=by let{z,c,f,b,d}:=kN ĝ e;refine call_len_dict c d (by rw[<-ëa];rw[Ů]at z;omega) ?_;rw[<-ëa];show h _ _ Çc
#print a
def z6l{X:Cx}{f:Á õ}{σ:St}{H:Hp}{s:Í}{a:Ë}{y:V}{o:É V}(I:Inv X f σ H s)(g:JC H a y o):ñb Ŗ Ña:=by rcases g with⟨c,k,e,_,_⟩|⟨c,k,b,e,_,_,_⟩;let{_,_,h,_,d}:=kN ĝ e;show Ýg;let{_,_,i,_,d}:=TX ĝ e;show Ýg
nonrec def x2c(b g e:TE):TS:=λD σ H=>e σ H λv c=>b σ c λx f=>g σ f λy d=>∃a H4,x=.ref a/\bq d a y v H4/\Ðb σ H4
section
variable{X:Cx}{o i e āb:Ö}{pos ϓ:Pos}{td ty tv:TE}
def o7(n:ŗa+1<Ϛ)(f:PE X o td)(hi:PE X i ty)(hv:PE X āb tv)(t:Ŵc āb (À (.Subscript o i ϓ)) İd Û=pure Ä) :PS X (.Assign [.Subscript o i ϓ] āb pos) (x2c td ty tv):=by intro b s σ H D I h;show wpAny_Assign_Subscript (zy (hv b s σ H _ I h) λr d ⟨v,w,l,F,c⟩=>zy (f b d σ w _ l c) λu m ⟨x,B,j,k,G⟩=>zy (hi b m σ B _ j G) λN L ⟨y,J,z,e,a,C,p,g,q⟩=>?_) t;subst p;obtain rfl:u=ę a:=k;show z6g n z g e F λK E=>{σ,C,E,q}
#print a
def z6m{P:ï}{w:æ}{H:Hp}(h:Heap)(a:Ëi<äb):xo P w H (Ϧj { cls:=.type Ña,Ċ:=.dict #[] }) äb (.dK []):=
 {ŵ _,Òb (ŧb (Ϟ a)),[],.nil,Ún h}
def x5t:TE:=λ_ H Q=>∀p,H p=Å->Q Ŷ (Ψ (.dK []))
section
variable{X:Cx}{pos:Pos}
def y91:PE X ϔm x5t:=λb s σ H Q I h=>
 wpAny_Dict_empty {.ref Ý,_,ϖa (a:=Ý) (o:=.dK []) (t':=ĕ) Ļh Ď (z6m â I.big),rfl,h _ Ĳd}
#print a
def Yp(kvs a:Á Æa):Á Æa:=a.foldl (λb c=>qG b c.1 c.2) kvs
def KV.merge:∀{more:Á Æa} {rs:Á œa} {kvs:Á Æa} {vs:Á œa},KV more rs->KV kvs vs->KV Ϧn (merged vs rs):=by
 intro more rs kvs vs r;unfold KV at r
 induction r generalizing kvs vs with
 |nil=>intro q;show q|@cons p q ps qs h t ih=>
  intro a
  let e:KV źh (ĥc vs q.1 q.2):=by let:=a.put p.1 h.2;rw[<-h.1];rw[Ôq]
  show ih e
theorem lz:∀(more kvs:Á Æa),(Ϧn).length<=ŋ+more.length
 | [],kvs=>by exact ŋ<=ŋ+0;omega|p::r,kvs=>by let b:=lz r źh;let a:=N1 kvs p.1 p.2;exact(Yp źh r).length<=_;rw[Ć];omega
structure M2(X:Cx)(o:Ö)(m:Ç)(Èa:Pos)(e f:Ö)(Ϭ:Pos):È where
 Ì:Ėb o m Û ňi=ĩ o Û
 z31:((Ĩc Ϭ ën).all Ŋi&&(ϑk).all Ům
  && decide (([e,f]:Á Ö).length+([]:Á Keyword).length+ŗk<30))=Ã
 line:(apos.endLine==cpos.line)=Ã
 trees:Ĩc Ϭ ën=[(Ä,ĩ e Û),(Ä,ĩ f Û)]
def dF(H:Hp)(a:Ë):È:=(∃kvs,Rd H a ũ)\/∃kvs,Rd H a ϫb
def y0i{X:Cx}{j:Á õ}{σ:St}{H:Hp}{s:Í}{a:Ë}(I:Inv X j σ H s)(d:dF H a) :ñb Ŗ Ña/\(∀b,ę a=.ref b->∃ob,ø b=À ob/\ob.dict=Å)/\ĵa=Ä:=by rcases d with⟨i,e⟩|⟨i,e⟩;let{_,g,k,_,c}:=kN ĝ e;rw[öq];let{_,g,l,_,c}:=TX ĝ e;rw[öq]
section
variable{X:Cx}{z8:Á õ}{σ:St}{H:Hp}{s:Í}{a:Ë}{y d:V}{u r:Value}{o:É V}{A:ù}{E:Value->Í->È}
def z6c{Q:Value->Í->È}(t:Ťa+1<Ϛ)(I:Inv X z8 σ H s)(g:JC H a y o)(p:yC y u)(n:yC d r)(h:∀w' s',Inv X z8 σ H s'->yC (ūd d) w'->Q w' s') :Ù Ą A (Ļb (.builtin "dict.get") [.ref a,u,r]) Q E s:=by rcases g with⟨j,k,e,m,l⟩|⟨j,k,b,e,m,q,l⟩;subst m;let{z,i,x,c,f}:=kN ĝ e;show ϻn ýh Ûg ől Çl (meets_dict_get_default ŗf a (Zi p) i r) {_,f.mapOf,h _ _ Çc ?_};rw[l];show(ĵd).getD n;subst m;cases(show u=ę b from p);let{z,i,v,c,f}:=TX ĝ e;show ϻn ýh Ûg ől Çl (meetsH_dict_get_default (tupleKind ŗf) a b i r) {Ñf t,k,v,I_ ĝ q,f,h _ _ Çc ?_};rw[l];show(ĵd).getD n
#print a
nonrec def x5s(d f g:TE):TE:=λσ H Q=>d σ H λx b=>∃a,x=.ref a/\dF b a/\f σ b λy e=>g σ e λz c=>∃o,JC c a y o/\Q (ūd z) c
section
variable{X:Cx}{o e f:Ö}{Èa Ϭ:Pos}{td ty tx:TE}
def y90(w:ŗa+1<Ϛ)(p:PE X o td)(O:PE X e ty)(k:PE X f tx)(m:M2 X o "get" Èa e f Ϭ):PE X (.Call Ľl [e,f] [] Ϭ) (x5s td ty tx):=by
 intro b s σ H Q I h;show wpAny_Call_method m.base m.z31 m.line PySem.F.plainAttrs_dict ýh PySem.F.type_dict_get (zy ĺm λu l ⟨x,J,i,r,a,C,d,j⟩=>?_);subst C;obtain rfl:u=ę a:=r;let{B,G,_}:=y0i i d;show{B,G,?_};rw[m.trees]
 refine Âh rfl (Ϭl (ßh (zy (O b l σ J _ i j) λZ v ⟨y,N,q,n,R⟩=>
  ßh (zy (k b v σ N _ q R) λS Y ⟨z,t,K,L,U,g,E⟩=>šm ?_))))
 show z6c w K g n L λT W P c=>{_,t,P,c,E}
#print a
#print L2
namespace L3
open Ł
set_option genInjectivity true
inductive D where
 |zO|bl (b:Ð)|int (i:Æ)|str (x:Ç)|tup (xs:Á D)|lst (xs:Á D)|dic (ks:Á ľ) (vs:Á D)|exc (x:Ç)|obj (x:Ç) (fs:Á Ç) (vs:Á D)
set_option genInjectivity false
def Ůg{P:D->È}(r:P .zO)(q:∀b,P ıb)(l:∀i,P Ϩ)(a:∀x,P Ϻb)(j:∀xs,(∀d∈xs,P d)->P Śa)(f:∀xs,(∀d∈xs,P d)->P ϧ)(c:∀ks xs,(∀d∈xs,P d)->P (.dic ks xs))(k:∀x,P (.exc x))(g:∀x fs xs,(∀d∈xs,P d)->P (.obj x fs xs))(d:D):P d:=
 D.rec (motive_1:=P) (motive_2:=λn=>∀d∈n,P d) r q l a (λxs h=>j xs h) (λxs h=>f xs h) (λks xs h=>c ks xs h) k (λx fs xs h=>g x fs xs h) īm
  (λd n o m e p=>by rcases Ğ p with z|z;show z▸o;show m e z) d
mutual
nonrec def xh:D->D->Ð
 |.zO,.zO=>Ã|.bl a,.bl b=>a==b|.bl a,.int b=>Ãm==b|.int a,.bl b=>a==ñf|.int a,.int b=>a==b|.str a,.str b=>a==b|.tup xs,.tup ys=>Ϟa xs ys|.lst xs,.lst ys=>Ϟa xs ys|_,_=>Ä
nonrec def Ϟa:Á D->Á D->Ð
 | [],[]=>Ã|x::xs,y::ys=>xh x y&&Ϟa xs ys|_,_=>Ä
end
abbrev Sl:=Ð×D
abbrev zx:=Á (É Sl)
abbrev FE:=zx->É D
abbrev FT:=zx->É Ð
abbrev FA:=zx->É ϓa
abbrev FG:=D->zx->É zx
inductive Fl where
 |nx (σ:zx)|rt (o:Ð) (d:D)|bk (σ:zx)|ct (σ:zx)
abbrev FS:=zx->É Fl
abbrev yX:Â:=16777216
nonrec def z7(i:Â):FE:=λσ=>match σ[i]? with
 |À éc=>À d|_=>Å
nonrec def qX(i:Â):FE:=λσ=>match σ[i]? with
 |À ŝo=>À d|_=>Å
nonrec def eC(d:D):FE:=λ_=>À d
nonrec def e1(F:D->É D)(a:FE):FE:=λσ=>(Ôa).bind F
nonrec def e2(F:D->D->É D)(a b:FE):FE:=λσ=>(Ôa).bind λx=>(Ŷd).bind λy=>F x y
nonrec def eL(F:Á D->É D)(a:FA):FE:=λσ=>(Ôa).bind F
nonrec def zE:FA:=λ_=>À []
nonrec def zC(a:FE)(r:FA):FA:=λσ=>(Ôa).bind λx=>(r σ).bind λb=>À (x::b)
nonrec def Xq:D->É Ð
 |.bl b=>À b|_=>Å
def tE(a:FE):FT:=λσ=>(Ôa).bind Xq
nonrec def X6(a b:FT):FT:=λσ=>(Ôa).bind λk=>match k with
 |Ã=>b σ|Ä=>À Ä
nonrec def ZA(a b:FT):FT:=λσ=>(Ôa).bind λk=>match k with
 |Ã=>À Ã|Ä=>b σ
nonrec def g9(a:FT):FT:=λσ=>(Ôa).bind λk=>À (!k)
def Zc(a b:FE):FE:=λσ=>(Ôa).bind λx=>(Śg).bind λk=>match k with
 |Ã=>b σ|Ä=>À û
def IN(a b:FE):FE:=λσ=>(Ôa).bind λx=>(Śg).bind λk=>match k with
 |Ã=>À Ķ|Ä=>b σ
def MZ(a:FE):FE:=λσ=>(Ôa).bind λx=>(Śg).bind λk=>À Ϗi
nonrec def pU(c:FT)(a b:FE):FE:=λσ=>(ϲc).bind λk=>match k with
 |Ã=>a σ|Ä=>b σ
nonrec def wP(a:FA):FE:=λσ=>(Ôa).bind λb=>À (.tup b)
nonrec def xv(a:FA):FE:=λσ=>(Ôa).bind λb=>À Āg
nonrec def xU:D->D->É D
 |.int i,.int j=>À ťf|.int i,.bl b=>À (Δ (i+ñf))|.str x,.str y=>if ϯb+Įe<=yX then À (.str ĵg)else Å|.lst x,.lst y=>if ϯb+Įe<=yX then À řp else Å|.tup x,.tup y=>if x.isEmpty=Ä/\ϯb+Įe<=yX then À (.tup ĵg)else Å|_,_=>Å
nonrec def fI(C:Æ->Æ->Ð)(g:Æ->Æ->Æ):D->D->É D
 |.int i,.int j=>match C i j with
  |Ã=>À ðp|Ä=>Å
 |_,_=>Å
nonrec def pW:D->D->É D
 |.int i,.int j=>À (Δ (i-j))|_,_=>Å
nonrec def Yl(i:Æ):Ð:=decide (-úg<i)&&decide (i<2 ^ 64)
def VU:D->D->É D:=fI (λi _=>Yl i) (·*·)
def IQ:D->D->É D:=fI (λ_ j=>Yl j) (·*·)
def xE:D->D->É D:=fI (λ_ j=>decide (0<j)) (· % ·)
def vC:D->D->É D:=fI (λ_ j=>decide (0<j)&&decide (j<2 ^ 64)) (· / ·)
nonrec def pp(i j:Æ):Ð:=decide (0<=j)&&(decide (j<=1000000)&&decide (Ŀd<2 ^ 64))
def hU:D->D->É D:=fI pp λi j=>i ^ Åa
def uA:D->D->É D:=fI pp λi j=>i*2 ^ Åa
def Ta:D->D->É D:=fI (λ_ j=>decide (0<=j)) λi j=>i/2 ^ Åa
nonrec def vX(g:Æ->Æ->Æ):D->D->É D
 |.int i,.int j=>À ðp|_,_=>Å
nonrec def YZ:D->É D
 |.int i=>À (Δ (-i))|_=>Å
nonrec def TY:D->É D
 |.int i=>À (Δ ŭj)|_=>Å
nonrec def pV(g:Æ->Æ->Ð):D->D->É D
 |.int i,.int j=>À (.bl ϸa)|_,_=>Å
nonrec def Ye:D->Ð
 |.zO=>Ã|_=>Ä
def Ze:D->D->É D
 |x,.zO=>À (.bl (Ye x))|_,_=>Å
def IS:D->D->É D
 |x,.zO=>À (.bl (!Ye x))|_,_=>Å
nonrec def xw:D->Ð
 |.zO=>Ã|.bl _=>Ã|.int _=>Ã|.str _=>Ã|_=>Ä
nonrec def pT(f:D->D->Ð):Á D->Á D->Ð
 |x::xs,y::ys=>f x y&&pT f xs ys|_,_=>Ã
def u8:Â->D->D->Ð
 |0,_,_=>Ä|n+1,x,y=>match x,y with
  |.tup xs,.tup ys=>pT ϯc xs ys|.lst xs,.lst ys=>pT ϯc xs ys|x,y=>xw x&&xw y
def Zd:D->D->É Ð
 |.int _,.bl _=>Å|.bl _,.int _=>Å|x,y=>match u8 6 x y with
  |Ã=>À (xh x y)|Ä=>Å
def zh(x y:D):É D:=(Zd x y).bind λk=>À Šd
def wp(x y:D):É D:=(Zd x y).bind λk=>À Ϗi
nonrec def ua:D->É ľ
 |.int i=>À ĺj|.str x=>À ăg|_=>Å
nonrec def ĉ{α:Type}:Á ľ->Á α->Sum Æ Ç->É α
 |k'::ks,v::vs,k=>if k'=k then À v else ĉ ks vs k|_,_,_=>Å
nonrec def yx(ks:Á ľ)(k:Sum Æ Ç):Ð:=ks.any λj=>decide (j=k)
def wE(ks:Á ľ)(k:Sum Æ Ç):Á ľ:=if yx ks k=Ã then ks else ks++[k]
def wG(ks:Á ľ)(vs:Á α)(k:Sum Æ Ç)(v:α):Á α:=if yx ks k=Ã then ûc (λa x=>if a=k then v else x) ks vs else vs++[v]
def Gi(x:D):D->É Ð
 |.lst ys=>match xw x&&ϡc xw with
  |Ã=>À ðf|Ä=>Å
 |.tup ys=>match xw x&&ϡc xw with
  |Ã=>À ðf|Ä=>Å
 |.str j=>match x with
  |.str i=>À ïl|_=>Å
 |.dic ks _=>(Źe).bind λk=>À (yx ks k)|_=>Å
def xV(x y:D):É D:=(Gi x y).bind λk=>À Šd
def Xv(x y:D):É D:=(Gi x y).bind λk=>À Ϗi
nonrec def um(xs:Á α)(i:Æ):É α:=if 0<=i then xs[ĝc]? else if -(ë:Æ)<=i then xs[(i+ë).toNat]? else Å
def zJ:D->D->É D
 |.lst xs,.int i=>um xs i|.tup xs,.int i=>um xs i|.str z,.int i=>(Ðp).bind λc=>À ïi|.dic ks vs,k=>(ua k).bind λk=>ĉ ks vs k|_,_=>Å
nonrec def vk:Á D->É D
 | [.lst xs]=>À òp| [.tup xs]=>À òp| [.str z]=>À ñp|_=>Å
nonrec def h9:Á D->É D
 | [.int i]=>À Ϩ| [.bl k]=>À (Δ (if k then 1 else 0))|_=>Å
inductive qy where
 |int|bool|str|list|tuple
nonrec def qy.nm:qy->îa
 |.int => ĭc|.bool => Ũe|.str => ϐe|.list => Ī|.tuple => ώ
nonrec def ZC:D->É (Ð×Ð×Ð×Ð×Ð)
 |.zO=>À (Ä,Ä,Ä,Ä,Ä)|.bl _=>À (Ã,Ã,Ä,Ä,Ä)|.int _=>À (Ã,Ä,Ä,Ä,Ä)|.str _=>À (Ä,Ä,Ã,Ä,Ä)|.tup _=>À (Ä,Ä,Ä,Ä,Ã)|.lst _=>À (Ä,Ä,Ä,Ã,Ä)|.dic _ _=>Å|.exc _=>Å|.obj _ _ _=>Å
nonrec def qy.sel:qy->Ð×Ð×Ð×Ð×Ð->Ð
 |.int,k=>k.1|.bool,k=>k.2.1|.str,k=>k.2.2.1|.list,k=>k.2.2.2.1|.tuple,k=>k.2.2.2.2
def Iv(T:qy)(d:D):É Ð:=(ZC d).bind λk=>À (T.sel k)
def Xu(T:qy)(a:FE):FE:=λτ=>(a τ).bind λd=>(Iv T d).bind λb=>À ıb
nonrec def vm(a:FE):FA:=λσ=>(Ôa).bind λd=>match d with
 |.lst xs=>À xs|.tup xs=>À xs|.str z=>À (ϛm λc=>.str {#[c]})|_=>Å
nonrec def p6(lo hi:FE):FA:=λσ=>(lo σ).bind λx=>(hi σ).bind λy=>match x,y with
 |.int i,.int j=>if Ŀd<=yX/\Ĵe<=yX/\(j-i).toNat<=yX then À ((ϡ (j-i).toNat).map λk:Â=>.int Ϻc)else Å|_,_=>Å
nonrec def yA(i:Â):FG:=λd σ=>À (Ν éc)
nonrec def vO(i j:Â):FG:=λd σ=>match d with
 |.tup Ïc=>À ((Ν (À (Ä,x))).set j (À (Ä,y)))|_=>Å
nonrec def xM:FS:=λσ=>À ÿg
nonrec def zR(a b:FS):FS:=λσ=>(Ôa).bind λf=>match f with
 |.nx σ'=>b σ'|f=>À f
nonrec def zm(i:Â)(e:FE):FS:=λσ=>(ϱc).bind λd=>À Đn
nonrec def qK(i:Â)(e:FE):FS:=λσ=>(ϱc).bind λd=>À (.nx (Ν ϒb))
nonrec def yb(e:FE):FS:=λσ=>(ϱc).bind λd=>À ϋo
nonrec def vS(e:FE):FS:=λσ=>(ϱc).bind λd=>À ϊo
nonrec def p_(i:Â):FS:=λσ=>match σ[i]? with
 |À ϒb=>À ϊo|_=>Å
nonrec def ya(c:FT)(a b:FS):FS:=λσ=>(ϲc).bind λk=>match k with
 |Ã=>a σ|Ä=>b σ
nonrec def Yk(g:FG)(b:FS):Á D->zx->É Fl
 | [],σ=>À ÿg|d::r,σ=>(ϸb).bind λσ1=>(b σ1).bind λf=>match f with
  |.nx σ2=>Yk g b r σ2|.ct σ2=>Yk g b r σ2|.bk σ2=>À âj|.rt o d=>À ϔc
def jS(it:FA)(g:FG)(b:FS):FS:=λσ=>(it σ).bind λa=>Yk g b a σ
nonrec def uz(c:FT)(b:FS):Â->zx->É Fl
 |0,_=>Å|n+1,σ=>(ϲc).bind λk=>match k with
  |Ä=>À ÿg|Ã=>(Ŷd).bind λf=>match f with
   |.nx σ2=>uz c b n σ2|.ct σ2=>uz c b n σ2|.bk σ2=>À âj|.rt o d=>À ϔc
nonrec def YL:Â:=100000000
def Zw(c:FT)(b:FS):FS:=λσ=>uz c b YL σ
nonrec def Yw(i:Â):FS:=λσ=>match σ[i]? with
 |À ŝo=>À Đn|_=>Å
nonrec def rf(i:Â)(F:D->É D):FS:=λσ=>match σ[i]? with
 |À ϒb=>(F d).bind λa=>À ģl|_=>Å
nonrec def qJ(i:Â)(F:D->D->É D)(e:FE):FS:=λσ=>match σ[i]? with
 |À ϒb=>(ϱc).bind λx=>(F d x).bind λa=>À ģl|_=>Å
nonrec def tS:D->D->É D
 |.lst xs,y=>if ë<yX then À én else Å|_,_=>Å
def j_(i:Â)(k v:FE):FS:=λσ=>(v σ).bind λy=>match σ[i]? with
 |À (À (Ã,.dic ks ds))=>(Ŗg).bind λx=>(Źe).bind λx=>if Ō<yX then À (.nx (Ν (À (Ã,.dic ύp Ŀn))))else Å|_=>Å
def VS(ks:Á ľ)(x:D):É D:=(Źe).bind λk=>À đn
def GV(d k e:FE):FE:=λσ=>(d σ).bind λx=>match x with
 |.dic ks ds=>(Ŗg).bind λy=>(ϱc).bind λz=>(ua y).bind λy=>À ((ĉ ks ds y).getD z)|_=>Å
nonrec def wB(g:FG)(c:FT)(e:FE)(σ:zx):Á D->É ϓa
 | []=>À []|d::r=>(ϸb).bind λσ1=>(ϑj).bind λk=>match k with
  |Ã=>(Şd).bind λx=>(wB g c e σ r).bind λa=>À (x::a)|Ä=>wB g c e σ r
nonrec def xc:FT:=λ_=>À Ã
def wO(n:Â)(it:FA)(g:FG)(c:FT)(e:FE):FE:=λσ=>(it σ).bind λa=>(wB g c e ϛh a).bind λb=>À Āg
nonrec def yJ(n:Â)(b:FS)(ds:Á D):É ä:=(b ŋk).bind λf=>match f with
 |.rt o d=>À (o,d)|.nx _=>À (Ä,.zO)|_=>Å
nonrec def zf(F:Á D->É ä)(a:FA):FE:=λσ=>(Ôa).bind λb=>(F b).bind λr=>À r.2
nonrec def wA(F:Á D->É ä)(a:FA):FE:=λσ=>(Ôa).bind λb=>(F b).bind λr=>match r with
 |(Ã,d)=>À d|_=>Å
def MY(F:Á D->É ä)(a:FA):FE:=λσ=>(zf F a σ).bind λd=>if xw d=Ã then À d else Å
open Ş Ŋ L2
abbrev St:=L2.St
def z3k(_:Ô)(H:Hp)(a:Ë)(kvs:Á Æa):È:=Rd H a ũ
mutual
def zZ(K:Ô)(H:Hp):D->V->È
 |.zO,v=>v=.zO|.bl b,v=>v=.bl b|.int i,v=>v=.int i|.str x,v=>v=.str x/\ϯb<=å|.tup ds,v=>∃a vs,v=.ref a/\xR K H a vs/\ê K H ds vs/\þ<=å|.lst ds,v=>∃a vs,v=.ref a/\yZ K H a vs/\ê K H ds vs/\þ<=å|.dic ks ds,v=>∃a vs,v=.ref a/\z3k K H a àb/\Ō=ē/\ê K H ds vs/\þ<=å|.exc x,v=>∃a C,v=.ref a/\Ϙ K ġ x=À ğa/\H a=À (.ext (z3h a C))|.obj x fs ds,v=>∃a C dx vs,v=.ref a/\Ϙ K ġ x=À ğa/\H a=À íh/\ŕa=ē/\ê K H ds vs
def ê(K:Ô)(H:Hp):Á D->Á V->È
 | [],vs=>vs=[]|d::ds,vs=>∃v r,vs=v::r/\zZ K H d v/\ê K H ds r
end
section
variable{K:Ô}{H H':Hp}
def Âc{a:Ë}{u:HO}(s:yF H H')(h:Rd H a u):Rd H' a u:=by rcases h with h|⟨o,h⟩;show .inl (s _ _ h);show .inr {o,s _ _ h}
def tH(s:yF H H')(h:xR K H a xs):xR K H' a xs:=by rcases h with h|h;show .inl ŏp;show .inr h
def ux(s:yF H H')(h:yZ K H a xs):yZ K H' a xs:=by rcases h with h|h;show .inl ŏp;show .inr h
theorem òb:∀{ds:Á D}{vs:Á V},(∀d∈ds,∀v,zZ K H d v->zZ K H' d v)->ê K H ds vs->ê K H' ds vs
 | [],_,_,h=>h|d::ds,vs,f,h=>by let{v,r,rfl,c,b}:=h;show{v,r,rfl,f d ÿ v c,òb (λa m=>f a (ŏ _ m)) b}
theorem zZ.mono(s:yF H H'):∀{d:D}{v:V},zZ K H d v->zZ K H' d v:=λ{d}=>by show Ůg (P:=λd=>∀v,zZ K H d v->zZ K H' d v) Ϻo Úo Öo Õo ?_ ?_ ?_ ?_ ?_ d _;rintro g f v ⟨a,c,e,q,r,l⟩;show{a,c,e,tH s q,òb f r,l};rintro g f v ⟨a,c,e,q,r,l⟩;show{a,c,e,ux s q,òb f r,l};rintro m g f v ⟨a,c,e,q,z,r,l⟩;show{a,c,e,Âc s q,z,òb f r,l};rintro x v ⟨a,C,e,n,h⟩;show{a,C,e,n,s _ _ h};rintro x k g f v ⟨a,C,j,c,e,n,h,l,r⟩;show{a,C,j,c,e,n,s _ _ h,l,òb f r}
theorem Reps.mono(s:yF H H'){ds:Á D}{vs:Á V}(h:ê K H ds vs):ê K H' ds vs:=òb (λ_ _ _=>zZ.mono s) h
theorem łi:∀{ds:Á D}{vs:Á V},ê K H ds vs->ē=þ
 | [],_,h=>by rw[Įq];rfl|d::ds,_,h=>by let{v,r,rfl,_,a}:=h;rw[Ć,Ć,łi a]
theorem Reps.get:∀{ds:Á D}{vs:Á V}{i:Â}{d:D},ê K H ds vs->ds[i]?=À d->∃v,vs[i]?=À v/\zZ K H d v
 | [],_,_,_,_,e=>by cases e|d::ds,_,0,_,h,e=>by rw[ģq];cases e;show{v,rfl,b}
 |d::ds,_,i+1,d',h,e=>by rw[ģq];show Reps.get (i:=i) a ōa
theorem Reps.at{ds:Á D}{vs:Á V}{i:Â}{v:V}(h:ê K H ds vs)(e:vs[i]?=À v):∃d,ds[i]?=À d/\zZ K H d v:=by
 let l:=ϖc;have a:i<þ:=by rw[<-l];show Še.1
 let{c,b,r}:=h.get (đ a);rw[e]at b;cases b;show{_,đ a,r}
theorem īo:∀{ds es:Á D}{vs us:Á V},ê K H ds vs->ê K H es us->ê K H (ds++es) (vs++us)
 | [],_,_,_,h,g=>by rw[Įq];show g|d::ds,_,_,_,h,g=>by rw[ģq];show{v,_,rfl,b,īo a g}
def Ľe(h:zZ K H d v):ê K H [d] [v]:={v,[],rfl,h,rfl}
theorem ğp:∀{ds:Á D}{vs:Á V}(n:Â),ê K H ds vs->ê K H (ds.take n) (vs.take n)
 |_,_,0,_=>by rw[åe,åe];rfl| [],_,n+1,h=>by rw[Įq];rfl|d::ds,_,n+1,h=>by rw[ģq];show{v,_,rfl,b,ğp n a}
theorem Ģp:∀{ds:Á D}{vs:Á V}(n:Â),ê K H ds vs->ê K H (Ďg n) (vs.drop n)
 |_,_,0,h=>h| [],_,n+1,h=>by rw[Įq];rfl|d::ds,_,n+1,h=>by rw[ģq];show Ģp n a
theorem ıd:∀{ns:Á Æ},ê K H Ϲ Ϯa
 | []=>rfl|n::ns=>{_,_,rfl,rfl,ıd}
#print a
structure zS(G H G' H':Hp):È where
 g:yF G G'
 h:yF H H'
 gh:yF G' H'
 new:∀p,G' p≠Å->G p≠Å\/H p=Å
section
variable{G H G0 H0 G1 H1 G2 H2:Hp}{p:Ë}{o:HO}
theorem őa(s:yF G H):zS G H G H:={Ša _,Ša _,s,λ_ h=>.inl h}
theorem zS.trans(a:zS G H G1 H1)(b:zS G1 H1 G2 H2):zS G H G2 H2:={ϭi b.g,a.h.trans b.h,b.gh,λp h=>by rcases b.new p h with z|z;show a.new p z;show .inr (a.h.free z)}
def zS.rebase(a:zS G0 H0 G1 H1)(b:zS G1 H0 G2 H2):zS G0 H0 G2 H2:={ϭi b.g,b.h,b.gh,λp h=>by rcases b.new p h with z|z;show a.new p z;rw[ıq]}
def zS.Wl(a:zS G0 H0 G1 H1):zS G1 H0 G1 H1:={Ša _,a.h,a.gh,λ_ h=>.inl h}
def z13(h:ze H p o q≠Å):q=p\/H q≠Å:=by by_cases e:q=p;show .inl e;rw[yH e]at h;show .inr h
def Rv(s:yF G H):yF Èp źc:=λb u e=>by by_cases hb:b=p;subst hb;rw[yt]at e ⊢;show e;rw[yH hb]at e ⊢;show s _ _ e
def ġc(s:yF G H)(h:H p=Å):zS G H Èp źc:={tF (s.free h) o,tF h o,Rv s,λq z=>by rcases z13 z with e|e;show .inr (e▸h);show .inl e}
def Ńa(s:yF G H)(h:H p=Å):zS G H G źc:={Ša _,tF h o,s.trans (tF h o),λ_ z=>.inl z}
def zS.yj(a:zS G H G1 H1)(h:H p=Å)(g:G1 p=Å)(e:H1 p=À o):zS G H (ze G1 p o) H1:=⟨ϭi (tF g o),a.h,λb u q=>by
 by_cases hb:b=p;subst hb;rw[yt]at q;cases q;show e;rw[yH hb]at q;show a.gh _ _ q,λq z=>by
 rcases z13 z with w|w;show .inr (w▸h);show a.new q w⟩
#print a
def vx(K:Ô)(G H:Hp)(d:D)(p:Ë):È:=match d with
 |.lst ds=>∃vs,H p=À Ϸp/\ê K G ds vs/\þ<=å|.dic ks ds=>∃vs,H p=À īi/\Ō=ē/\ê K G ds vs/\þ<=å|_=>Ā
section
variable{K:Ô}{G H G' H':Hp}{d:D}{p:Ë}
def vx.some(h:vx K G H d p):H p≠Å:=by
 cases d with
 |lst ds=>let{a,e,_}:=h;rw[e];show λz=>nomatch z
 |dic ks ds=>let{a,e,_}:=h;rw[e];show λz=>nomatch z
 |_=>show Ϩc
theorem vx.mono(g:yF G G')(h:yF H H')(o:vx K G H d p):vx K G' H' d p:=by
 cases d with
 |lst ds=>let{a,e,r,l}:=o;show{a,h _ _ e,ēa g,l}
 |dic ks ds=>let{a,e,z,r,l}:=o;show{a,h _ _ e,z,ēa g,l}
 |_=>show ħc
def vx.rep(s:yF G H)(o:vx K G H d p):zZ K H d Ŷ:=by
 cases d with
 |lst ds=>let{a,e,r,l}:=o;show{p,a,rfl,ŧa e,ēa s,l}
 |dic ks ds=>let{a,e,z,r,l}:=o;show{p,a,rfl,.inl e,z,ēa s,l}
 |_=>show ħc
def vx.yj(o:vx K G H d p)(g:G p=Å):∃u,H p=Option.some u/\zZ K Çp d Ŷ:=by
 cases d with
 |lst ds=>let{a,e,r,l}:=o;show{_,e,p,a,rfl,ŧa yt,ēa íg,l}
 |dic ks ds=>let{a,e,z,r,l}:=o;show{_,e,p,a,rfl,.inl yt,z,ēa íg,l}
 |_=>show ħc
#print a
structure zw(K:Ô)(n:Â)(G0 H0 G H:Hp)(τ:zx)(σ:St):È where
 ext:zS G0 H0 G H
 l1:σ.length=n
 l2:τ.length=n
 fr:∀(i:Â)(d:D),τ[i]?=À éc->∃v,σ[i]?=À Äa/\zZ K G d v
 ow:∀(i:Â)(d:D),τ[i]?=À ϒb->∃p,σ[i]?=À Üe/\G p=Å/\H0 p=Å/\vx K G H d p
 ap:∀(i j:Â)(d e:D)(p:Ë),i≠j->τ[i]?=À ϒb->τ[j]?=À ðe->σ[i]?=À Üe->σ[j]?=À Üe->Ā
section
variable{K:Ô}{n:Â}{G0 H0 G H G' H':Hp}{τ:zx}{σ:St}
def zw.go(E:zw K n G0 H0 G H τ σ)(x:zS G H G' H'):zw K n G0 H0 G' H' τ σ:=⟨ĸo x,Ŵ,ų,λi d h=>by
 let{v,e,r}:=ūa i d h;show{v,e,ēa x.g},λi d h=>by
 let{p,e,g,z,o}:=Ūa i d h;show{p,e,?_,z,Ľg x.g x.h};cases q:G' p with
 |Å=>rfl|À u=>rcases ϵc p (by rw[q];show λz=>nomatch z)with w|w;show Þ g w;show Þ w o.some,ĉb⟩
theorem zw.Wl(E:zw K n G0 H0 G H τ σ):zw K n G H0 G H τ σ:={E.ext.Wl,Ŵ,ų,ūa,Ūa,ĉb}
def zw.near(a:zS G0 H0 Ga Ha)(E:zw K n Ga H0 G H τ σ):zw K n G0 H0 G H τ σ:={a.rebase Űb,Ŵ,ų,ūa,Ūa,ĉb}
def zw.lt{i:Â}{s:É Sl}(E:zw K n G0 H0 G H τ σ)(h:τ[i]?=À s):i<n:=by rw[<-ų];show ϻa.1
def vz{α:Type}{xs:Á α}{i j:Â}{x y:α}(h:Ŗf[j]?=À y):(j=i/\y=x)\/(j≠i/\xs[j]?=À y):=by
 rw[ôd]at h;by_cases e:i=j;subst e;rw[Ï rfl]at h
 rw[ìq];cases h;show .inl {rfl,rfl};cases h;rw[Ñ e]at h;show .inr {λz=>e įb,h}
def Ya{α:Type}{xs:Á α}{i:Â}{x:α}(h:i<ë):Ŗf[i]?=À x:=by rw[ôd,Ï rfl,Ï h]
theorem uZ{α:Type}{xs:Á α}{i j:Â}{x:α}(h:j≠i):Ŗf[j]?=xs[j]?:=by rw[ôd,Ñ (λz=>h įb)]
theorem zw.set{i:Â}{d:D}{v:V}(E:zw K n G0 H0 G H τ σ)(hi:i<n)(r:zZ K G d v):zw K n G0 H0 G H Ϻh ďc:=⟨Űb,by rw[ϟq],by rw[Ġq],λj e h=>by
 rcases vz h with⟨rfl,z⟩|⟨a,z⟩;cases z;show{v,Ya çf,r};rw[uZ a];show ūa j e z,λj e h=>by
 rcases vz h with⟨rfl,z⟩|⟨a,z⟩;cases z;rw[uZ a];show Ūa j e z,λj k e f p g m l=>by
 rcases vz m with⟨rfl,z⟩|⟨a,z⟩;cases z;rcases vz l with⟨rfl,c⟩|⟨b,c⟩;cases c;rw[uZ a,uZ b];show ĉb j k e f p g z c⟩
def zw.z3d{i:Â}{d:D}{p:Ë}(E:zw K n G0 H0 G H τ σ)(hi:i<n)(u:G p=Å)(v:H0 p=Å)(o:vx K G H d p)(s:∀(j:Â)(e:D),j≠i->τ[j]?=À ðe->σ[j]?=À Üe->Ā) :zw K n G0 H0 G H (τ.set i ϒb) ïf:=⟨Űb,by rw[ϟq],by rw[Ġq],λj e h=>by
 rcases vz h with⟨rfl,z⟩|⟨b,z⟩;cases z;rw[uZ b];show ūa j e z,λj e h=>by
 rcases vz h with⟨rfl,z⟩|⟨b,z⟩;cases z;show{p,Ya çf,u,v,o};rw[uZ b];show Ūa j e z,λj k e f q m t r g c=>by
 rcases vz t with⟨rfl,z⟩|⟨b,z⟩;rcases vz r with⟨rfl,l⟩|⟨a,l⟩;show m rfl;rw[Ya çf]at g;rw[uZ a]at c;cases g;show s k f a l c;rcases vz r with⟨rfl,l⟩|⟨a,l⟩;rw[Ya çf]at c;rw[uZ b]at g;cases c;show s j e b z g;rw[uZ b]at g;rw[uZ a]at c;show ĉb j k e f q m z l g c⟩
def zw.z35(E:zw K n G0 H0 G H τ σ)(b:H p=Å):∀(j:Â)(e:D),j≠i->τ[j]?=À ðe->σ[j]?=À Üe->Ā:=λj e _ c a=>by let{q,e1,_,_,o}:=Ūa j e c;rw[a]at e1;cases e1;show o.some b
def zw.freeze{i:Â}{b:Ð}{d:D}(E:zw K n G0 H0 G H τ σ)(hi:τ[i]?=À ąe):∃G',zw K n G0 H0 G' H Ϻh σ/\yF G G':=by
 let t:=E.lt hi;cases b with
 |Ä=>
  show{G,?_,Ša _}
  let e:τ.set i éc=τ:=by apply ìc;intro j;by_cases hj:j=i;subst hj;rw[Ya (by rw[ų];show t),hi];rw[uZ hj]
  rw[e];show E
 |Ã=>let{p,e,g,z,o}:=Ūa i d hi;let{u,F,r}:=o.yj g;let x:zS G0 H0 Çp H:=E.ext.yj z g F;refine{ze G p u,{x,Ŵ,by rw[Ġq],λj a h=>?_,λj a h=>?_,λj k e1 f q y I L=>?_},tF g _};rcases vz h with⟨rfl,w⟩|⟨s,w⟩;cases w;show{_,e,r};let{v,l,B}:=ūa j a w;show{v,l,ŋg íg};rcases vz h with⟨rfl,w⟩|⟨s,w⟩;cases w;let{q,l,J,C,N}:=Ūa j a w;show{q,l,?_,C,N.mono íg Ũj};rw[yH Ïj];show J;subst c;show ĉb i j d a q (λc=>s ţd) hi w e l;rcases vz I with⟨rfl,w⟩|⟨s,w⟩;cases w;rcases vz L with⟨rfl,m⟩|⟨A,m⟩;cases m;show ĉb j k e1 f q y w m
#print a
section
variable(X:Cx)
structure SE(e:Ö)(f:FE):È where
 h:∃t,PE X e t/\∀{G0 H0 G H:Hp}{τ:zx}{σ:St}{d:D}{Q:VK},zw X.K ò G0 H0 G H τ σ->f τ=À d->(∀v G' H',zS G H G' H'->zZ X.K G' d v->Q v H')->t σ H Q
structure SB(e:Ö)(f:FE):È where
 h:∃t,PE X e t/\∀{G0 H0 G H:Hp}{τ:zx}{σ:St}{d:D}{Q:VK},zw X.K ò G0 H0 G H τ σ->f τ=À d->(∀v G' H',zS G H G' H'->zZ X.K H' d v->Q v H')->t σ H Q
structure SF(e:Ö)(f:FE):È where
 h:∃t,PE X e t/\∀{G0 H0 G H:Hp}{τ:zx}{σ:St}{d:D}{Q:VK},zw X.K ò G0 H0 G H τ σ->f τ=À d->(∀p G' H',zS G H G' H'->H p=Å->G' p=Å->vx X.K G' H' d p->Q Ŷ H')->t σ H Q
structure ST(e:Ö)(f:FT):È where
 h:∃t,PT X e t/\∀{G0 H0 G H:Hp}{τ:zx}{σ:St}{d:Ð}{Q:Ð->Hp->È},zw X.K ò G0 H0 G H τ σ->f τ=À d->(∀G' H',zS G H G' H'->Q d H')->t σ H Q
structure SW(e:Ö)(f:FT):È where
 h:∃t,PW X e t/\∀{G0 H0 G H:Hp}{τ:zx}{σ:St}{d:Ð}{Q:Ð->Hp->È},zw X.K ò G0 H0 G H τ σ->f τ=À d->(∀G' H',zS G H G' H'->Q d H')->t σ H Q
structure SA(es:Á Ö)(f:FA):È where
 h:∃t,PA X es t/\∀{G0 H0 G H:Hp}{τ:zx}{σ:St}{ds:Á D}{Q:Á V->Hp->È},zw X.K ò G0 H0 G H τ σ->f τ=À ds->(∀vs G' H',zS G H G' H'->ê X.K G' ds vs->Q vs H')->t σ H Q
structure Jn(es:Á Ö)(f:FA):È where
 h:∃t,PA X es t/\∀{G0 H0 G H:Hp}{τ:zx}{σ:St}{ds:Á D}{Q:Á V->Hp->È},zw X.K ò G0 H0 G H τ σ->f τ=À ds->(∀vs G' H',zS G H G' H'->ê X.K H' ds vs->Q vs H')->t σ H Q
#print a
def qP(K:Ô)(n:Â)(b a:Hp)(E:t6):Fl->È
 |.nx τ=>∀σ G H,zw K n b a G H τ σ->E.nx σ H|.bk τ=>∀σ G H,zw K n b a G H τ σ->E.bk σ H|.ct τ=>∀σ G H,zw K n b a G H τ σ->E.ct σ H|.rt Ä d=>∀v G H,zS b a G H->zZ K G d v->E.rt v H|.rt Ã d=>∀p G H,zS b a G H->a p=Å->G p=Å->vx K G H d p->E.rt Ŷ H
section
variable(X:Cx)
structure SS(st:Ü)(f:FS):È where
 h:∃t,PS X st t/\∀{G0 H0 G H:Hp}{τ:zx}{σ:St}{fl:Fl}{E:t6},zw X.K ò G0 H0 G H τ σ->f τ=À fl->qP X.K ò G0 H0 E fl->t E σ H
structure t_(st:Á Ü)(f:FS):È where
 h:∃t,ul X st t/\∀{G0 H0 G H:Hp}{τ:zx}{σ:St}{fl:Fl}{E:t6},zw X.K ò G0 H0 G H τ σ->f τ=À fl->qP X.K ò G0 H0 E fl->t E σ H
#print a
structure kK(K:Ô)(J:It)(G:Hp)(ds:Á D):È where
 go:∀i G2 H,yF G G2->yF G2 H->i<þ->J.go i H
 tm:∀i G2 H x H',yF G G2->yF G2 H->i<þ->J.tm i H x H'->∃G3 d,zS G2 H G3 H'/\ds[i]?=À d/\zZ K G3 d x
 Ϡ:∀i G2 H,yF G G2->yF G2 H->þ<=i->ŉg i H
structure SI(X:Cx)(tg ż:Ö)(f:FA):È where
 h:∃wi,PI X tg ż wi/\∀{G0 H0 G H:Hp}{τ:zx}{σ:St}{ds:Á D}{R:It->Hp->È},zw X.K ò G0 H0 G H τ σ->f τ=À ds->(∀J G' H',zS G H G' H'->þ<=å->kK X.K J G' ds->R J H')->wi σ H R
nonrec def uR(K:Ô)(F:Á D->É ä):Sp:=λa H Q _=>∃G ds o d,yF G H/\ê K G ds a/\F ds=À (o,d)/\
 match o with
 |Ä=>∀v G' H',zS G H G' H'->zZ K G' d v->Q v H'|Ã=>∀p G' H',zS G H G' H'->H p=Å->G' p=Å->vx K G' H' d p->Q Ŷ H'
def zK{α β:Type}{o:É α}{f:α->É β}{b:β}(h:ϡj f=À b):∃a,o=À a/\f a=À b:=by
 cases o with
 |Å=>cases h|À a=>show{a,rfl,h}
def GW(h:z7 i τ=À d):τ[i]?=À éc:=by
 unfold z7 at h
 rw[ìq];rename_i e;cases h;show e;cases h
def fR(h:qX i τ=À d):∃b,τ[i]?=À ąe:=by
 unfold qX at h
 rw[ìq];rename_i b a e;cases h;show{_,e};cases h
section
variable{X:Cx}{x:Ç}{p pos:Pos}{e a b c o:Ö}{es yB:Á Ö}{f fa fb:FE}{ft fu:FT}{fs:FA}{F:D->D->É D}{r:R2}
def SE.sb(h:SE X e f):SB X e f:={let ⟨t,p,k⟩:=h.h;{t,p,λE b q=>k E b λv a c x r=>q v a c x (ēa Ĺb)}}
def SF.se(h:SF X e f):SE X e f:={let ⟨t,p,k⟩:=h.h;{t,p,λE d q=>k E d λp g i x b a o=>by let{u,c,r}:=o.yj a;show q _ _ _ (x.yj b a c) r}}
def zM(h:SE X e f):SB X e f:=h.sb
def yO(h:SF X e f):SE X e f:=h.se
def zA(i:Â)(d:Î ăd q12)(hv:Î Ĭd q13)(b:Î ō q10)(a:Î ŷb q10):SE X öa Âk:={{_,Vz d hv b a,λE c q=>by let{v,e,r}:=ūa _ _ (GW c);show{v,e,q v _ _ ϥb r}}}
def Q6(i:Â)(g:Î ăd q12)(hv:Î Ĭd q13)(d:Î ō q10)(a:Î ŷb q10):SB X öa (qX i):=⟨⟨_,Vz g hv d a,λE f q=>by
 let{b,c}:=fR f;cases b with
 |Ä=>let{v,e,r}:=ūa _ _ c;show{v,e,q v _ _ ϥb (ēa źa)}
 |Ã=>let{p,e,_,_,o}:=Ūa _ _ c;show{_,e,q _ _ _ ϥb (o.rep źa)}⟩⟩
def Op(h:PE X e źe)(r:∀H,zZ X.K H d v):SE X e (eC d):={{_,h,λE a q=>by cases a;show q v _ _ ϥb (r _)}}
def zI{i k pos}:SE X (.Constant Ϩ k pos) (eC Ϩ):=Op nR λ_=>rfl
def g7{i k pos}:SE X (.Constant (.bool i) k pos) (eC (.bl i)):=Op y8n λ_=>rfl
def jT{k pos}:SE X (.Constant .none k pos) Ϸa:=Op y96 λ_=>rfl
def z_{x k pos}(h:Î (ϯb<=1000) q10):SE X (.Constant Ϻb k pos) (eC Ϻb):=Op y9c λ_=>{rfl,Ăb h}
def vG(h:v7 ð x v)(r:∀H,zZ X.K H d v)(a:Gl X x)(b:Î ō q10):SE X öa (eC d):=Op (OL h a b) r
def tu(K:Ô)(r:R2)(F:D->D->É D):È:=∀G H x y u v d (Q:VK),yF G H->zZ K G x u->zZ K G y v->F x y=À d->(∀w G' H',zS G H G' H'->zZ K G' d w->Q w H')->r u v H Q
def ZZ(K:Ô)(r:R2)(F:D->D->É D):È:=∀H x y u v d (Q:VK),zZ K H x u->zZ K H y v->F x y=À d->∃k,d=.bl k/\(Q Šd H->r u v H Q)
def zW(s:xG X (ϭa op) r)(I:tu X.K r F)(G:SE X a fa)(t:SE X b fb):SE X (.BinOp a op b pos) řf:=by
 let{L,i,H}:=G.h;let{J,A,m}:=t.h;show{{_,NX s i A,λE c q=>?_}};let{x,l,c}:=zK c;let{y,j,c}:=zK c;show H E l λv O N e p=>?_
 show m Śe j λu f B d z=>?_
 show I f B x y v u _ _ d.gh (p.mono d.g) z c λw o k n C=>q w o k (ĕc (Ϛb n)) C
def zX(j:jd X r)(J:tu X.K r F)(H:SE X a fa)(z:SE X b fb)(p:Î ßp q12):SE X Ñm řf:=by
 let{N,i,I}:=H.h;let{L,B,n}:=z.h;show{{_,BO j i B (BS p),λE c q=>?_}};let{x,m,c}:=zK c;let{y,k,c}:=zK c;show I E m λv P O e t=>?_
 show n Śe k λu f C d A=>?_
 show J f C x y v u _ _ d.gh (t.mono d.g) A c λw s l o G=>q w s l (ĕc (Ϛb o)) G
def tV(m:xG X (ķa op) r)(B:ZZ X.K r F)(w:SB X a fa)(n:SB X b fb)(t:ťc op b=Ä):SE X Ħl řf:=by
 let{H,f,A}:=w.h;let{G,p,j}:=n.h;show{{_,y8z m f p t,λE c q=>?_}};let{x,i,c}:=zK c;let{y,g,c}:=zK c;show A E i λv J I d l=>?_
 show j (âa d) g λu C s e o=>?_
 let{k,rfl,z}:=B s x y v u _ _ (ϧc e.h) o c;show z (q _ _ _ (Ϛb e) rfl)
def yK(n:xG X (ķa op) r)(C:ZZ X.K r F)(A:SB X a fa)(o:SB X b fb)(w:ťc op b=Ä):ST X Ħl (tE řf):=by
 let{I,g,B}:=A.h;let{H,s,l}:=o.h;show{{_,oH n g s w,λE d q=>?_}};let{z,c,d}:=zK d;let{x,j,c}:=zK c;let{y,i,c}:=zK c;show B E j λv L J e m=>?_
 show l Śe i λu G t f p=>?_
 let{k,rfl,z}:=C t x y v u _ _ (Ŭd f.h) p c;cases d;show z {_,rfl,q _ _ Ţj}
def tJ(h:SE X e f)(b:Î âp q12):ST X e (tE f):=by
 rw[íq];show{{_,oI p (nc b),λE a q=>?_}};let{z,c,a}:=zK a;show k E c λv d g x r=>?_
 cases z<;>first|cases a|skip
 cases r;show{_,rfl,q _ _ x}
def D8(h:ST X a ft):SW X øh ft:={let ⟨t,p,k⟩:=h.h;{t,oY p,k}}
def QM(h:ST X a ft):SW X Ϡl ft:={let ⟨t,p,k⟩:=h.h;{t,x0k p,k}}
def D7(l:ST X a ft)(g:SW X ïe fu):SW X ġe (X6 ft fu):=by
 rw[Ϧq];show{{_,oX e i,λE c q=>?_}};let{k,j,c}:=zK c;show m E j λu t d=>?_
 cases k with
 |Ã=>show kT ſk|Ä=>cases c;show kS ϓp
def UG(l:ST X a ft)(g:SW X łf fu):SW X ϸf (ZA ft fu):=by
 rw[Ϧq];show{{_,x0j e i,λE c q=>?_}};let{k,j,c}:=zK c;show m E j λu t d=>?_
 cases k with
 |Ä=>show kS ſk|Ã=>cases c;show kT ϓp
def Z_(h:SW X e ft):ST X e ft:={let ⟨t,p,k⟩:=h.h;{t,p.pt,k}}
def X4(h:ST X a ft):ST X èf (g9 ft):=by let{g,c,f}:=h.h;show{{_,x08 c,λE b q=>?_}};let{k,e,b}:=zK b;cases b;show f E e λj i d=>q _ _ d
def WF{op}(h:SE X a f):SE X Óm f:={let ⟨t,p,k⟩:=h.h;{t,y98 p,k}}
def Bg{K:Ô}{G:Hp}{z:D}{v:V}{k:Ð}(r:zZ K G z v)(h:Xq z=À k):v=.bl k:=by
 cases z<;>first|cases h|skip
 show r
def QC(o:SE X a fa)(i:SE X ïe fb):SE X ġe (Zc fa fb):=by
 rw[ϥq];show{{_,y8m e l,λE c q=>?_}};rw[ύq];show p E n λv y x d g=>{k,Bg g m,?_}
 cases k with
 |Ã=>show kT ľk|Ä=>cases c;show kS ón
def sK(o:SE X a fa)(i:SE X łf fb):SE X ϸf (IN fa fb):=by
 rw[ϥq];show{{_,y99 e l,λE c q=>?_}};rw[ύq];show p E n λv y x d g=>{k,Bg g m,?_}
 cases k with
 |Ä=>show kS ľk|Ã=>cases c;show kT ón
def x3t(i:SE X a fa):SE X èf (MZ fa):=by let{l,c,j}:=i.h;show{{_,y97 c,λE b q=>?_}};let{z,f,b}:=zK b;let{k,g,b}:=zK b;cases b;show j E f λv n m e d=>{k,Bg d g,q _ _ _ e rfl}
def Zx(j:ST X c ft)(t:SE X a fa)(p:SE X b fb):SE X ōm (pU ft fa fb):=by
 let{x,pc,o}:=j.h;let{y,i,u}:=t.h;let{w,r,m}:=p.h;show{{_,y93 pc i r,λE d q=>?_}};let{k,s,d}:=zK d;show o E s λA z e=>?_
 cases k with
 |Ã=>show kT (u Śe d λv n l f g=>q v _ _ Ţj g)|Ä=>show kS (m Śe d λv n l f g=>q v _ _ Ţj g)
def zP:SA X [] zE:={{_,Q0,λE a q=>by rw[ľq]}}
def zD(r:SE X e f)(j:SA X es fs)(h:Î Ĉa q12):SA X Ę Ŷp:=by
 let{y,i,s}:=r.h;let{w,p,m}:=j.h;show{{_,Vx i p h,λE a q=>?_}};let{x,l,a}:=zK a;let{u,b,a}:=zK a;cases a;show s E l λv A z c n=>m (âa c) b λk t B d o=>?_
 show q _ _ _ (ϋa d) {v,k,rfl,n.mono d.g,o}
def uC:Jn X [] zE:={{_,Q0,λE a q=>by rw[ľq]}}
def vy(p:SB X e f)(i:Jn X es fs)(h:Î Ĉa q12):Jn X Ę Ŷp:=by
 let{w,g,r}:=p.h;let{u,o,l}:=i.h;show{{_,Vx g o h,λE a q=>?_}};let{x,k,a}:=zK a;let{t,b,a}:=zK a;cases a;show r E k λv z y c m=>l (âa c) b λj s A d n=>?_
 show q _ _ _ (ϋa d) {v,j,rfl,Ŭd d.h,n}
def Oe(h:ϕa es=À is):SA X es (λ_=>À öo):={{_,nM h,λE a q=>by cases a;show q _ _ _ ϥb ıd}}
def wx{x1}(h:SA X es fs)(i:∀τ ds,fs τ=À ds->þ<=1000):SE X Ōm (wP fs):=by
 let{t,e,k}:=h.h;show{{_,y9d e,λE a q=>?_}};let{g,b,a}:=zK a;cases a;let l:Ča<=å:=Ăb (i _ _ b);refine k E b λf m j x1 d=>{by rw[ϰ];show l,λp c=>?_}
 show q _ _ _ (x1.trans (ġc x1.gh c)) {p,f,rfl,ϴc yt,d.mono (tF (x1.gh.free c) _),l}
def wT(h:SA X es fs)(j:∀τ ds,fs τ=À ds->þ<=1000):SF X Şn (xv fs):=by
 let{t,f,k}:=h.h;show{{_,nT f,λE b q=>?_}};let{i,d,b}:=zK b;cases b;let l:ϰb<=å:=Ăb (j _ _ d);refine k E d λg n m a e=>{by rw[e.length];show l,λp c=>?_}
 show q _ _ _ (a.trans (Ńa a.gh c)) (a.h.free c) (a.gh.free c) {g,yt,e,l}
def yV:∀(τ:zx) ds,zE τ=À ds->þ<=0:=λ_ _ h=>by cases h;show Ĭ _
def zd(h:∀τ ds,fs τ=À ds->þ<=n):∀τ ds,zC f fs τ=À ds->þ<=n+1:=λτ ds e=>by let{x,_,e}:=zK e;let{b,a,e}:=zK e;cases e;show õa (h _ _ a)
def Jx{is:Á Æ}{n:Â}(h:is.length<=n):∀(τ:zx) ds,(À öo)=À ds->þ<=n:=λ_ _ e=>by cases e;rw[ã];show h
def yP(h:∀τ ds,fs τ=À ds->þ<=m)(a:m<=n):∀τ ds,fs τ=À ds->þ<=n:=λτ ds e=>ý (h τ ds e) a
variable{ps:Á Ç}{j k:Â}{FF:Á D->É ä}{FL:Á D->É D}{id T:îa}
def vH(h:v8 ö X.w X.K ð ŀ x ps k Će)(f:ym j X.A)(z:Gl X x)(C:SA X Ę fs)(hk:Î Åb q10)(c:Î ō q10)(B:Î ôa q12):SF X ůa (wA FF fs):=by
 let{t,g,r}:=C.h;show{{_,BP h f z g hk c B,λE a q=>?_}};let{m,l,a}:=zK a;rw[ϣq];cases o with
 |Ä=>cases a|Ã=>
  cases a;refine r E l λG y H b v=>{y,m,Ã,_,b.gh,by rw[Œ];show v,f,λp u n F s i o=>?_}
  show q p u n (Ϙc F) (þj s) i o
def yG(h:v8 ö X.w X.K ð ŀ x ps k Će)(f:ym j X.A)(H:Gl X x)(J:SA X Ę fs)(hk:Î Åb q10)(c:Î ō q10)(I:Î ôa q12):SE X ůa (zf FF fs):=by
 let{t,n,B}:=J.h;show{{_,BP h f H n hk c I,λE a q=>?_}};let{z,s,a}:=zK a;rw[ϣq];cases a;refine B E s λL G N b F=>{G,z,o,d,b.gh,by rw[Œ];show F,f,?_}
 cases o with
 |Ä=>show λv m l g r=>q v m l (Ϙc g) r|Ã=>intro p m l g C i o;let{u,y,r}:=o.yj i;show q _ _ _ (Ϙc (g.yj C i y)) r
def x3o(h:v8 ö X.w X.K ð ŀ x ps k Će)(i:ym j X.A)(I:Gl X x)(L:Jn X Ę fs)(hk:Î Åb q10)(g:Î ō q10)(J:Î ôa q12):SE X ůa (MY FF fs):=by
 let{t,s,B}:=L.h;show{{_,BP h i I s hk g J,λE a q=>?_}};let{Q,b,a}:=zK a;let{y,u,b}:=zK b;obtain⟨⟨o,d⟩,i,b⟩:=zK b;cases b;by_cases fl:xw d=Ã;rw[Ï fl]at a;cases a;refine B E u λO H C m F=>{C,y,o,d,Ša _,by rw[Œ];show F,i,?_}
 let c:∀{G f:Hp}{v:V},zZ X.K G d v->zZ X.K f d v:=λ{G f v} r=>by cases d<;>first|show r|show Þ fl Ħ
 cases o with
 |Ä=>show λv f n l r=>q v H n (Œe {Ša _,l.h,m.gh.trans l.h,λ_ z=>.inl z}) (c r)|Ã=>intro p f n l P N o;cases d<;>first|show ħc|show Þ fl Ħ
 rw[Ñ fl]at a;cases a
def Jk(K:Ô)(r:Á V->Hp->VK->È)(F:Á D->É D):È:=∀G H ds vs d (Q:VK),yF G H->ê K H ds vs->F ds=À d->(∀w G' H',zS G H G' H'->zZ K G' d w->Q w H')->r vs H Q
def dI(K:Ô)(r:Á V->Hp->VK->È)(F:Á D->É D):È:=∀G H ds vs d (Q:VK),yF G H->ê K G ds vs->F ds=À d->(∀w G' H',zS G H G' H'->zZ K G' d w->Q w H')->r vs H Q
def uP(j:vg X Þb rc)(C:Jk X.K rc FL)(s:Gl X x)(y:ð x=Å)(hv:ϔ x=À Þb)(A:Jn X Ę fs)(v:Î Ĕb q10)(b:Î ō q10)(z:Î ôa q12):SE X ůa Ùp:=by let{t,d,l}:=A.h;show{{_,(OW j s y hv {d} v b z).h,λE a q=>?_}};let{i,f,a}:=zK a;show l E f λg r n c o=>C r n i g _ _ ĸc o a λw m k B u=>q w m k (ϋa B) u
def sJ(j:vg X ϩb rc)(C:dI X.K rc FL)(s:Gl X x)(y:ð x=Å)(hv:ϔ x=À ϩb)(A:SA X Ę fs)(v:Î Ĕb q10)(b:Î ō q10)(z:Î ôa q12):SE X ůa Ùp:=by let{t,d,l}:=A.h;show{{_,(U1 j s y hv {d} v b z).h,λE a q=>?_}};let{i,f,a}:=zK a;show l E f λg r n c o=>C r n i g _ _ ĸc o a λw m k B u=>q w m k (ϋa B) u
def WG(j:Jq X (ćg op) ru)(o:∀(G H:Hp) x u d (Q:VK),zZ X.K G x u->F1 x=À d->∃w,(∀G,zZ X.K G d w)/\(Q w H->ru u H Q))(n:SE X a fa):SE X (.UnaryOp op a pos) (e1 F1 fa):=by
 let{t,e,g}:=n.h;show{{_,y9e j e,λE b q=>?_}};let{x,i,b}:=zK b;show g E i λv m k f l=>?_
 let{w,c,z}:=o m k x v _ _ l b;show z (q w _ _ f (c _))
#print a
section
variable{X:Cx}{x:Ç}{p pos ϓ:Pos}{e a b c tg ż:Ö}{f fa:FE}{ft:FT}{fs:FA}{st:Ü}{sts Ćb:Á Ü}{g g':FS}
def xm:t_ X [] xM:={{_,oG,λ{_ _ G H τ σ b E} K a q=>by cases a;show q σ G H K}}
theorem őe{K:Ô}{n:Â}{c b:Hp}{E e:t6}{a:Fl}(h:qP K n c b E a)(k:∀τ,a=.nx τ->qP K n c b e (.nx τ))(i:∀τ,a=.bk τ->qP K n c b e (.bk τ))(m:∀τ,a=.ct τ->qP K n c b e (.ct τ))(f:e.rt=E.rt):qP K n c b e a:=by
 cases a with
 |nx τ=>show k τ rfl|bk τ=>show i τ rfl|ct τ=>show m τ rfl|rt o d=>
  cases o with
  |Ä=>intro v G H x r;rw[f];show h v G H x r|Ã=>intro v G H x g j l;rw[f];show h v G H x g j l
def zc(b:SS X st g)(f:t_ X sts g'):t_ X Öj (zR g g'):=by
 let{t,p,k}:=b.h;let{n,c,i}:=f.h;show{{_,OO p c,λ{u r G H τ σ l E} K a q=>?_}};let{j,b,a}:=zK a;show k K b ?_;cases j with
 |nx τ'=>show λσ' s m e=>i e a q|bk τ'=>cases a;show q|ct τ'=>cases a;show q|rt o d=>cases a;show őe q äa äa äa rfl
def zb(a:SS X st g):t_ X [st] g:={let ⟨t,p,k⟩:=a.h;{t,Nh p,k}}
def L6(i:Â)(h:t_ X sts g):t_ X sts (zR (Yw i) g):=by
 rw[íq];show{{t,p,λ{n j G H τ σ f E} K b q=>?_}};let{o,a,b}:=zK b;unfold Yw at a
 rw[æq];rename_i m d c;cases a;let{l,e,_}:=K.freeze c;show k e b q;cases a
def yT(l:êa)(hi:X.N[i]?=À x)(c:qR ϻ x)(j:SE X e f)(g:Î ēe q12)(a:Î Ŭa q7) :SS X Ľc (zm i f):=by let{t,p,k}:=j.h;show{{_,(OX l hi c {p} g a).h,λ{u o G H τ σ m E} K a q=>?_}};rw[ïq];show k K b λv s n x r=>q _ _ _ Ϣl
def j3(n:êa)(hi:X.N[i]?=À x)(j:qR ϻ x)(m:SF X e f)(l:Î ēe q12)(a:Î Ŭa q7) :SS X Ľc (qK i f):=by
 let{t,p,k}:=m.h;show{{_,(OX n hi j {p} l a).h,λ{w u G H τ σ r E} K a q=>?_}};let{d,g,a}:=zK a;cases a;show k K g λp v s x b c o=>q _ _ _ ((Şj).z3d îb.1 c (Ŏf b) o ?_)
 show K.z35 b
def yr(c:SE X e f):SS X êf (yb f):=by let{t,p,k}:=c.h;show{{_,ON p,λ{m j G H τ σ g E} K a q=>?_}};rw[ïq];show k K b λv l i x r=>q v _ _ ċn r
def v_(i:SF X e f):SS X êf (vS f):=by let{t,p,k}:=i.h;show{{_,ON p,λ{r m G H τ σ j E} K a q=>?_}};let{d,c,a}:=zK a;cases a;show k K c λp n l x g b o=>q p _ _ ċn (Ŏf g) b o
def Z8(i:Â)(h:Î ăd q12)(hv:Î Ĭd q13)(c:Î ō q10)(b:Î ŷb q10):SS X Ŏl (p_ i):=by
 show{{_,ON (Vz h hv c b),λ{l k G H τ σ j E} K a q=>?_}};unfold p_ at a
 rw[æq];rename_i d f;cases a;let{p,e,g,z,o}:=K.ow _ _ f;show{_,e,q p _ _ K.ext z g o};cases a
def xH(e:ST X c ft)(n:t_ X sa g)(j:t_ X sb g'):SS X (.If c sa sb pos) (ya ft g g'):=by
 let{t,pc,i}:=e.h;let{u,d,o}:=n.h;let{r,l,f}:=j.h;show{{_,oA pc d l,λ{x s G H τ σ p E} K a q=>?_}};let{k,m,a}:=zK a;show i K m λw v b=>?_
 cases k with
 |Ã=>show kT (o (Öa b) a q)|Ä=>show kS (f (Öa b) a q)
def L0:t_ X sts Ĉc:={{_,x07,λ_ a=>by cases a}}
def L5{ft:FT}(u:Ϥb Ą X.A Û İ)(s:ST X c ft)(x:t_ X Ćb g):SS X Ŭl (Zw ft g):=by
 let{J,pc,v}:=s.h;let{I,y,t}:=x.h;show{{_,oE u pc y,λ{p l G H τ σ f E} K a q=>?_}};show{λm σ H=>∃τ G,zw X.K ò p l G H τ σ/\uz ft g m τ=À f,{YL,τ,G,K,a},?_};rintro m σ H ⟨τ,G,K,a⟩;cases m with
 |ň=>cases a|Ŝ n=>
  let{k,C,a}:=zK (show(ft τ).bind _=_ from a);show v K C λO L i=>?_
  cases k with
  |Ä=>cases a;show kS (q _ _ _ şj)|Ã=>
   let{F,r,a}:=zK (show(g τ).bind _=_ from a);show kT {λσ' j=>∃τ G,zw X.K ò p l G j τ σ'/\uz ft g n τ=À f,λσ' j z=>{n,Čb n,z},t şj r ?_};cases F with
   |nx τ2=>show λσ2 b B e=>{τ2,b,e,a}|ct τ2=>show λσ2 b B e=>{τ2,b,e,a}|bk τ2=>cases a;show q|rt o d=>cases a;show őe q äa äa äa rfl
theorem qP.near{K:Ô}{n:Â}{e a c g:Hp}{E:t6}{b:Fl}(x:zS e a c g)(h:qP K n e a E b):qP K n c a E b:=by
 cases b with
 |nx τ=>show λσ G H z=>h σ G H èi|bk τ=>show λσ G H z=>h σ G H èi|ct τ=>show λσ G H z=>h σ G H èi|rt o d=>
  cases o with
  |Ä=>show λv G H y r=>h v G H ği r|Ã=>show λp G H y f i j=>h p G H ği f i j
structure SG(X:Cx)(tg:Ö)(fg:FG):È where
 h:∃t,PG X tg t/\∀{G0 H0 G H:Hp}{τ τ':zx}{σ:St}{d:D}{v:V}{Q:St->Hp->È},zw X.K ò G0 H0 G H τ σ->zZ X.K G d v->fg d τ=À τ'->(∀σ',zw X.K ò G0 H0 G H τ' σ'->Q σ' H)->t v σ H Q
def Yz(h:QG X öa ŭb)(hi:X.N[i]?=À x):SG X öa (yA i):={{_,h.h,λK r a q=>by cases a;show q _ Ċn}}
def sV(h:QG X Űk Ϯe)(hi:X.N[i]?=À x)(n:X.N[j]?=À y):SG X Űk (vO i j):=⟨⟨_,h.h,λ{w s G H τ τ' σ d v Q} K r b q=>by
 unfold vO at b
 rw[Ťq];rename_i u p;cases b;let{a,o,rfl,f,{c,t,rfl,e,{k,l,rfl,g,m}},_}:=r;cases(show l=[]from m);show{a,_,rfl,tH ώa f,rfl,c,_,rfl,k,_,rfl,rfl,?_};show q _ ((K.set îb.1 e).set (ĵ n).1 g);cases b⟩⟩
def Z7{c:FG}(O:Ϥb Ą X.A Û İ)(Z:ŷ=Ã)(hi:SI X tg ż fs)(Q:SG X tg c)(R:t_ X Ćb g)(hs:Î (∀x,Úb ż Û x=pure x) q11):SS X Ñh (jS fs c g):=by
 let{ti,C,ki}:=ķc;let{T,I,kg}:=Q.h;let{tb,S,F}:=R.h;show{{_,BW O Z C I S hs,λ{G0 t G H τ σ r E} K a q=>?_}};let{b,W,a}:=zK a;show ki K W λJ k Ha P _ p=>?_
 let u:=Öa P;let l:=qP.near u.ext q;show{λi m σ H=>m=ëa-i/\i<=ëa/\∃τ G,zw X.K ò k t G H τ σ/\Yk c g (ďg i) τ=À r,{ëa,rfl,ŵ _,τ,k,u.Wl,a},?_};rw[Ěq];show .inr {p.go i G H Ŗd ώa hlt,λσ' f=>∃τ G,zw X.K ò k t G f τ σ'/\Yk c g Ľp τ=À r,λσ' f z=>{ëa-í,ìf _ _ hlt,rfl,hlt,z},λx f y=>?_};let{G3,d,L,s,v}:=p.tm i G H x f Ŗd ώa hlt y;rw[Žb hlt]at a;rw[đ hlt]at s;cases s;let{τ1,Y,a}:=zK (show(c _ τ).bind _=_ from a);let{U,h2,a}:=zK a;show kg (Öa L) v Y λσ1 B=>F B h2 ?_
 cases U with
 |nx τ2=>show λσ2 j H2 n=>{τ2,j,n,a}|ct τ2=>show λσ2 j H2 n=>{τ2,j,n,a}|bk τ2=>cases a;show l|rt o d=>cases a;show őe l äa äa äa rfl
 let e:ďg i=[]:=àd ńp;rw[e]at a;cases a;show .inl {p.stop i G H Ŗd ώa Ê,l _ _ _ K}
def y0f{K:Ô}{G:Hp}{lo:Æ}{n:Â}:kK K ϩp G ((İb).map λk:Â=>Ě Ůb) where
 go:=λi b H _ _ a=>by exact i<n;simpa using a
 tm:=λi b H x d _ c a y=>by let{rfl,rfl}:=y;show{b,.int Äb,őa c,by simp at a;simp[a],rfl}
 Ϡ:=λi b H _ _ a=>by exact n<=i;simpa using a
def Z5(o:Gl X Ţa)(s:ð Ţa=Å)(u:SE X a fa)(d:Î Ēe q12):SI X tg äm (p6 ı fa):=by
 let{t,f,k}:=(zD u zP d).h;show{{_,y9n o s f (qf d),λ{I A G H τ σ ds R} K b q=>?_}};let{x,m,b}:=zK b;cases m;let{y,i,b}:=zK b;refine k K (ds:=[y]) (by unfold zC;rw[i];rfl) λz C B l n=>?_
 cases y<;>first|cases b|skip
 rename_i j;let{v,r,rfl,g,w}:=n;cases(show r=[]from w);cases(show v=.int j from g)
 change (if(0:Æ).natAbs<=yX/\Ĵe<=yX/\(j-0).toNat<=yX then _ else _)=_ at b
 by_cases c:(0:Æ).natAbs<=yX/\Ĵe<=yX/\(j-0).toNat<=yX;rw[ßq];let F:Ĵe<=16777216:=c.2.1;let E:(j-0).toNat<=16777216:=c.2.2;refine{j,rfl,by omega,by omega,q _ _ _ l ?_ ?_};rw[ã,Úa,Ů];omega;let e:(j-0).toNat=Åa:=by omega
 rw[e];show y0f;rw[Þq]
def y2g{K:Ô}{G:Hp}{a:Ë}{vs:Á V}{ds:Á D}(h:yZ K G a vs)(r:ê K G ds vs):kK K ĭj G ds where
 go:=λi g H c b f=>by let{v,e,_}:=Éb Ĥg;show{vs,v,ux řd h,e}
 tm:=λi g H x l c b f y=>by let{rfl,y}:=y;let e:=y vs (ux řd h);let{d,k,j}:=r.at e;show{g,d,őa b,k,Ϥj c}
 Ϡ:=λi g H c b f=>{vs,ux řd h,by rw[ϯ];show f}
def x7u{K:Ô}{G:Hp}{a:Ë}{vs:Á V}{ds:Á D}(h:xR K G a vs)(r:ê K G ds vs):kK K Ĭj G ds where
 go:=λi g H c b f=>by let{v,e,_}:=Éb Ĥg;show{vs,v,tH řd h,e}
 tm:=λi g H x l c b f y=>by let{rfl,y}:=y;let e:=y vs (tH řd h);let{d,k,j}:=r.at e;show{g,d,őa b,k,Ϥj c}
 Ϡ:=λi g H c b f=>{vs,tH řd h,by rw[ϯ];show f}
def x5m{K:Ô}{G:Hp}{z:Ç}:kK K śg G (ϛm λc=>Òa {#[c]}) where
 go:=λi b H _ _ a=>by rw[ã,ļ]at a;show a
 tm:=λi b H x f _ e a y=>by let{rfl,c,d,rfl}:=y;show{b,.str {#[c]},őa e,?_,rfl,Ăb (n:=1) Ò};rw[ė,Ōa,d];rfl
 Ϡ:=λi b H _ _ a=>by rw[ã,ļ]at a;show a
def PI.or(c:PI X tg e w1)(b:PI X tg e w2):PI X tg e (λσ H R=>w1 σ H R\/w2 σ H R):=λa s σ H R I q=>by rcases q with q|q;show c a s σ H R I q;show b a s σ H R I q
def uQ(h:SE X e f):SI X tg e (vm f):=by
 rw[íq];show{{_,PI.or (y9m p) (PI.or (nV p) (y9o p)),λ{u s G H τ σ o R} K j q=>?_}};let{d,c,j}:=zK j;cases d<;>first|cases j|skip
 rename_i z;show .inr (.inr êh);let{rfl,l}:=r;show{z,rfl,q _ _ _ x (by rw[ã,ļ];show l) x5m};show .inr (.inl êh);let{a,i,rfl,b,g,l}:=r;show{a,rfl,{i,tH Ĺb b},q _ _ _ x l (x7u b g)};show .inl êh;let{a,i,rfl,b,g,l}:=r;show{a,rfl,{i,ux Ĺb b},q _ _ _ x l (y2g b g)}
#print a
nonrec def Se(K:Ô)(n:Â)(f:FE):TE:=λσ H Q=>∃G0 H0 G τ d,zw K n G0 H0 G H τ σ/\f τ=À d/\∀v G' H',zS G H G' H'->zZ K G' d v->Q v H'
nonrec def DF(K:Ô)(n:Â)(f:FT):TT:=λσ H Q=>∃G0 H0 G τ d,zw K n G0 H0 G H τ σ/\f τ=À d/\∀G' H',zS G H G' H'->Q d H'
structure TK(X:Cx)(es:Á Ö)(f:FT):È where
 h:VG X es (DF X.K ò f)
section
variable{X:Cx}{e c:Ö}{f:FE}{ft:FT}
def SE.pe(h:SE X e f):PE X e (Se X.K ò f):=λb s σ H Q I q=>by rw[íq];let{g,c,G,τ,d,K,a,z}:=q;show p b s σ H Q I ϗp
def ST.pt(h:ST X e ft):PT X e (DF X.K ò ft):=λb s σ H Q I q=>by rw[íq];let{f,c,G,τ,d,K,a,z}:=q;show p b s σ H Q I ϗp
def tZ:TK X [] xc:={λa s σ H Q I q=>by let{e,c,G,τ,d,K,b,z}:=q;cases b;show oJ a s σ H Q I (z _ _ ŝp)}
def Zz(h:ST X c ft):TK X [c] ft:={x09 h.pt}
#print a
def zw.more{K:Ô}{n:Â}{q m G H:Hp}{τ:zx}{σ:St}(k:Â)(E:zw K n q m G H τ σ):zw K ώd q m G H Şc ĥf:=by
 let a:∀{i:Â}{s:Sl},Şc[i]?=À (À s)->τ[i]?=À (À s)/\ĥf[i]?=σ[i]?:=λ{i s} h=>by let b:=Ml h;let r:i<n:=E.lt b;show{b,Ůa (by rw[Ŵ];show r)}
 refine{Űb,by rw[ì,Įa,Ŵ],by rw[ì,Įa,ų],λi d h=>?_,λi d h=>?_,λi j d e p g t u o l=>?_};let{b,e}:=a h;rw[e];show ūa i d b;let{b,e}:=a h;rw[e];show Ūa i d b;let{f,e1}:=a t;let{c,e2}:=a u;rw[e1]at o;rw[e2]at l;show ĉb i j d e p g f c o l
def N0{K:Ďi}{n k:Â}{B E b h:Hp}{τ:zx}{σ:St}{J:It}{ds out:Á D}{g:TG}{j:FG}{s:FT}{f:FE}{l:Á V->Hp->È}(C:kK K J b ds)(hl:þ<=å)(N:zw K n B E b h τ σ)(a:wB j s f Şc ds=À out)(kg:∀G H d v τ' (Q:St->Hp->È),zw K ώd B E G H Şc ĥf->zZ K G d v->j d Şc=À τ'->(∀ρ,zw K ώd B E G H τ' æg->Q æg H)->g v ĥf H Q)(t:∀ys G H,zS b h G H->ê K G out ys->out.length<=å->l ys H) :∃W:Â->Â->Á V->Hp->È,(∃m,W 0 m [] h)/\O5 σ k J g (DF K ώd s) (Se K ώd f) W l:=by
 show{λi m ys H=>m=þ-i/\i<=þ/\ů<=i/\∃G done yB,zS b h G H/\ê K G done ys/\wB j s f Şc (Ďg i)=À yB/\done++yB=out,{þ,rfl,ŵ _,Ĭ _,b,[],out,őa N.ext.gh,rfl,a,rfl},?_};rintro i m ys H ⟨rfl,hle,A,G,done,yB,x,q,a,r⟩;by_cases hlt:i<þ
 .refine .inr {C.go i G H x.g Ĺb hlt,by omega,λys H=>ů<=i+1/\∃G done yB,zS b h G H/\ê K G done ys/\wB j s f Şc (Ďg í)=À yB/\done++yB=out,λU w z=>{þ-í,ìf _ _ hlt,rfl,hlt,z.1,z.2},λv w y=>?_};let{G3,d,c,L,rv}:=C.tm i G H v w x.g Ĺb hlt y;rw[Žb hlt]at a;rw[đ hlt]at L;cases L;let{τ1,Y,a}:=zK (show(j _ _).bind _=_ from a);let{F,h2,a}:=zK a;let T:=((N.go x).go c).more k;show kg G3 w _ v τ1 _ T rv Y λρ I=>{{ρ,rfl},_,_,_,_,F,I,h2,λP H5 p=>?_}
  cases F with
  |Ä=>show kS {by omega,P,done,yB,Őe (ϋa p),q.mono (Ĝp p.g),a,r}|Ã=>let{z,S,a}:=zK (show(f _).bind _=_ from a);let{o,R,a}:=zK a;cases a;refine kT {_,_,_,_,z,I.go p,S,λu X H6 O Z=>{by rw[ì];show õa A,X,done++[z],o,Őe (ϋa (ōj O)),(q.mono (Ĝp (p.g.trans O.g))).append (Ľe Z),R,?_}};rw[Ţ];show r
 let e:Ďg i=[]:=àd ńp;rw[e]at a;cases a;rw[Œ]at r;subst r;refine .inl {C.stop i G H x.g Ĺb Ê,t ys G H x q ?_};rw[<-q.length];omega
section
variable{X:Cx}{tg ż elt:Ö}{ifs:Á Ö}{Ń:ða}{cl:Á ϲa}{own:Á Ç}{pos:Pos}{fs:FA}{fg:FG}{ft:FT}{f:FE}{g:TG}
def S9(xs:Á α)(y:α)(ys:Á α)(h:n=ë)(z:α):(xs++y::ys).set n z=xs++z::ys:=by subst h;rw[þh _ _ Ď,úc];rfl
structure BG(X:Cx)(Ń:ða)(cl:Á ϲa)(own:Á Ç)(tg:Ö)(g:TG)(fg:FG):È where
 q:∀C s H fp pn,QG òa tg g
 k:∀{G0 H0:Hp}{τ:zx}{σ:St},τ.length=ò->σ.length=ò->∀G H d v τ' (Q:St->Hp->È),zw X.K Ág G0 H0 G H Šh öd->zZ X.K G d v->fg d Šh=À τ'->
  (∀ρ,zw X.K Ág G0 H0 G H τ' æg->Q æg H)->g v öd H Q
def u7(q:∀C s H fp pn,QG (vj X Ń cl [x] C s H fp pn) tg ŭb)(hi:i=ò):BG X Ń cl [x] tg ŭb (yA i):={q,λ{h f τ σ} g c G H d v τ' Q E r b k=>by cases b;let e:=E.set (i:=i) (v:=v) (by rw[hi];show Čb _) r;let a:(ín).set i Äa=σ++[À v]:=S9 σ Å [] (hi.trans ţd) Äa;exact Q ((ín).set i Äa) H;rw[a];show k [À v] ?_;rw[<-a];show e}
def IC(q:∀C s H fp pn,QG (vj X Ń cl Ïc C s H fp pn) tg Ϯe)(hi:i=ò)(h:j=ò+1):BG X Ń cl Ïc tg Ϯe (vO i j):=⟨q,λ{I z τ σ} B g G H d v τ' Q E r e k=>by
 unfold vO at e
 rw[Ϛq];rename_i F w;cases e;let{a,u,rfl,m,{b,A,rfl,l,{c,p,rfl,o,t}},_}:=r;cases(show p=[]from t);let n:=(E.set (i:=i) (v:=b) (by rw[hi];show Nat.lt_add_of_pos_right (Đi _)) l).set (i:=j) (v:=c) (by rw[h];show Čb _) o
 let f:(Êl).set j ďa=σ++[À b,À c]:=by
  let e1:(σ++Ő 2 Å).set i ħg=σ++[À b,Å]:=S9 σ Å [Å] (hi.trans g.symm) ħg;rw[e1];let e2:σ++[À b,Å]=ύn++[Å]:=by simp
  rw[e2,S9 ύn Å [] (by rw[ì,h,g];rfl) ďa];simp
 show{a,_,rfl,tH źa m,rfl,b,_,rfl,c,_,rfl,rfl,?_};exact Q ((Êl).set j ďa) H;rw[f];show k [À b,À c] ?_;rw[<-f];show n;cases e⟩
def e9(X:Cx)(own:Á Ç):(wD X.N own).length=ò+Ùb:=by unfold wD;rw[ì,ã]
theorem GC(h:SE òa elt f):PE òa elt (Se X.K Ág f):=by let q:=h.pe;rw[Ĥq]
def GD(h:TK òa ifs ft):VG òa ifs (DF X.K Ág ft):=by let q:=h.h;rw[Ĥq]
def uD(a:ŷ=Ã)(B:XT X Ń cl own)(hi:SI X tg ż fs)(j:BG X Ń cl own tg g fg)(t:∀C s H fp pn,TK òa ifs ft)(A:∀C s H fp pn,SE òa elt f)(v:Î (∀x,Úb ż Û x=pure x) q11) :SF X ľb ĥh:=by
 let{S,m,y}:=ķc;show{{_,nS a B m (Εc (j.q C s H fp pn)) (λC s H fp pn=>GD (t C s H fp pn)) (Βc Ďn) v,λ{N P G H τ σ d Q} K b q=>?_}};let{O,r,b}:=zK b;let{E,o,b}:=zK b;cases b;show y K r λJ F L i l u=>N0 u l şj o (j.k K.l2 K.l1) λn I R c w z p e=>?_
 show q p _ _ (i.trans ĥm) (ùj (ýj e)) (ϫi e) {n,yt,w,z}
def SX(b:ŷ=Ã)(S:êa)(c:X.N[i]?=À x)(w:Ðd x=À .local)(B:XT X Ń cl own)(m:Ŵc ľb (À (.Name x px)) Ăp Û=pure Ã)(hi:SI X tg ż fs)(u:BG X Ń cl own tg g fg)(A:∀C s H fp pn,TK òa ifs ft)(R:∀C s H fp pn,SE òa elt f)(L:Î (∀x,Úb ż Û x=pure x) q11) :SS X (.Assign [.Name x px] ľb spos) (zm i ĥh):=by
 let{ti,v,P}:=ķc;show{{_,oC b S c w B m v (Εc (u.q C s H fp pn)) (λC s H fp pn=>GD Ďn) (Βc (R C s H fp pn)) L,λ{G0 H0 G H τ σ W E} K e q=>?_}};let{d,a,e}:=zK e;cases e;let{ds,z,a}:=zK a;let{T,y,a}:=zK a;cases a;show P K z λJ U Z t l I=>N0 I l (Öa t) y (u.k K.l2 K.l1) λn Y H1 j O Q p r=>?_
 let F:=((Öa t).go j).go (ġc (o:=.lst n) j.gh r);show q _ _ _ (F.set (ĵ c).1 {p,n,rfl,ŧa yt,ňg (tF Ϟn _),Q})
#print a
section
variable{K:Ô}{n:Â}{G0 H0 G H:Hp}{τ:zx}{σ:St}
def zw.J6(E:zw K n G0 H0 G H τ σ)(hi:τ[i]?=À ϒb)(x:σ[i]?=À ŵp)(y:vx K G źc d' p):zw K n G0 H0 G źc ėl σ:=by
 let{S,e,g,z,_}:=Ūa i d hi;rw[x]at e;cases e
 let l:∀{m:Hp},m p=Å->yF m H->yF m źc:=λ{m} h s b u q=>by rw[yH (p7 q h)];show s _ _ q
 refine{{Řj,l z Ře,l g źa,ϱf},Ŵ,by rw[Ġq],λj e h=>?_,λj e h=>?_,λj k e f q a O Q R I=>?_};rcases vz h with⟨rfl,w⟩|⟨C,w⟩;cases w;show ūa j e w;rcases vz h with⟨rfl,w⟩|⟨C,w⟩;cases w;show{p,x,g,z,y};let{q,F,N,L,v}:=Ūa j e w;show{q,F,N,L,?_}
 let a:q≠p:=λc=>by subst c;show ĉb i j d e q (λc=>C ţd) hi w x F
 cases e with
 |lst ds=>let{A,B,r}:=v;show{A,by rw[yH a];show B,r}
 |dic ks ds=>let{A,B,r}:=v;show{A,by rw[yH a];show B,r}
 |_=>show v.elim
 let t:∀{j:Â}{e:D},ėl[j]?=À ðe->∃e,τ[j]?=À ðe:=λ{j e} h=>by rcases vz h with⟨rfl,_⟩|⟨_,w⟩;show{_,hi};show{_,w}
 let{e1,P}:=t O;let{e2,J}:=t Q;show ĉb j k e1 e2 q a P J R I
#print a
section
variable{X:Cx}{x:Ç}{xp pos Èa Ϭ:Pos}{e:Ö}{f:FE}
def Z6(J:QE X ž ýb)(R:SE X e f)(n:Î (Ėb ž Ôg Û Łf=ĩ ž Û) q12)(m:Î Ŀb q12)(C:Î Ĉa q12) :SS X (Ζe (.Attribute ž Ôg Èa)) (qJ i tS f):=by
 let{t,p,k}:=(zD R zP C).h;refine{{_,(Nu (OV Ùf ĭl īl mJ J {p} n m (by rw[Ź,C];rfl) Ϭd) rfl).h,λ{U W G H τ σ S E} K j q=>?_}};unfold qJ at j
 split at j;rename_i d A;let{y,P,j}:=zK j;let{L,b,j}:=zK j;cases j;let{a,w,g,z,o}:=K.ow _ _ A;cases d with
 |lst ds=>
  let{s,I,B,l}:=o;refine{_,w,.inl {rfl,s,ŧa I},k K (ds:=[y]) (by unfold zC;rw[P];rfl) λZ T Y v Q=>?_};let{u,r,rfl,O,N}:=Q;cases(show r=[]from N)
  change (if þ<yX then À (όd ϟp)else Å)=À L at b
  by_cases c:þ<yX;rw[ßq];refine{a,s,u,rfl,rfl,v.h _ _ I,by rw[Ąj,Ů];show c,?_};show q _ _ _ ((Öa v).J6 A w {s++[u],yt,(ŋg v.g).append (Ľe O),?_});rw[ì,Ů];show c;rw[Þq]
 |_=>cases b
 cases j
#print a
section
variable{P:ï}{w:æ}{K:Ô}{mg:Ç->É Value}{Ì:Heap}
def BD{α β:Type}{ds:Á α}{k i:Â}{h:α->É β}{y:β}(e:(ůe h++Ő k Å)[i]?=À (À y)):∃d,ds[i]?=À d/\h d=À y:=by
 let a:=Ml e;rw[ė]at a;cases q:ds[i]? with
 |Å=>rw[q]at a;cases a|À d=>rw[q]at a;show{d,rfl,Ϣ a}
def ff{N:Á Ç}{G H:Hp}{ds:Á D}{vs:Á V}(s:yF G H)(r:ê K G ds vs)(g:þ<=ŕ):zw K ŕ G H G H (ůe (λd=>À (Ä,d))++Ő (ŕ-þ) Å) Ŷi:=by let l:=ϯ;show{őa s,?_,?_,λi d h=>?_,λi d h=>?_,λi j d e p _ c=>?_};unfold ĉe;rw[ğq];rw[ğq];let{b,e,z}:=BD h;cases z;let{v,a,f}:=Éb e;show{v,?_,f};unfold ĉe;rw[Ůa (by rw[ã];show(ĵ a).1),ė,a];rfl;let{b,e,z}:=BD h;cases z;let{b,e,z}:=BD c;cases z
def Def.z39{x:Ç}{st:Ü}{N ps:Á Ç}{k:Â}{F:Á D->É ä}{b:FS}(d:Def K mg x st ps)(S:zn N ps ŗ)(J:ħ<=ŕ)(i:∀ds r,F ds=À r->þ=ħ/\yJ ŕ b ds=À r)(C:∀(f:Ë)(c:Value)(A:ù)(ċ:Á Env)(s:Í)(H:Hp)(E:XK),ym k Úh->t_ (qW xT P w K mg Ì N x ŗ f c A ċ s H E).qk ßa b):v8 P w K mg Ì x ps Ĩ Ņe:=by
 show d.ok S (λm H Q E h=>?_) λf c A ċ s H m Q E I h=>?_;let{G,ds,o,v,_,r,e,_}:=h;rw[ϯ,(i _ _ e).1];let{G,ds,o,v,B,r,e,q}:=h;let{l,a}:=i _ _ e;let{t,p,u}:=(C f c A ċ s H E I).h;let{j,g,a}:=zK a;refine{t,p,u (ff (N:=N) B r Ê) g ?_};cases j with
 |nx τ=>cases a;show λσ y n z=>q .zO y n z.ext rfl|rt o' d'=>
  cases o' with
  |Ä=>cases a<;>show q|Ã=>cases a<;>show q
 |_=>cases a
#print a
section
variable{X:Cx}{K:Ô}
def Vw(h:∀i j,Cb i j=Ã->C i j):tu K ţl (fI Cb g):=λG H x y u v d Q s b e a q=>by
 cases x<;>first|(cases a;done)|skip
 cases y<;>first|(cases a;done)|skip
 rename_i i j
 change (match Cb i j with|Ã=>À (Ě ϸa)|Ä=>Å)=À d at a
 cases c:Cb i j with
 |Ä=>rw[c]at a;cases a|Ã=>rw[c]at a;cases a;show{i,j,b,e,h i j c,q _ _ _ þa rfl}
def qc:tu K ŕp (vX g):=λG H x y u v d Q s b c a q=>by
 cases x<;>first|(cases a;done)|skip
 cases y<;>first|(cases a;done)|skip
 rw[Ăq]
def Zr:tu K őo pW:=λG H x y u v d Q s b c a q=>by
 cases x<;>first|(cases a;done)|skip
 cases y<;>first|(cases a;done)|skip
 rw[Ăq]
def m7(h:Yl i=Ã) : -úg<i/\i<2 ^ 64:=by unfold Yl at h;rw[Đ]at h;show{ţ h.1,ţ h.2}
def NP:tu K Ûh VU:=Vw λ_ _ h=>.inl (m7 h)
def n5:tu K Ûh IQ:=Vw λ_ _ h=>.inr (m7 h)
def xX:tu K İl xE:=Vw λ_ _ h=>ţ h
def ud:tu K ϛk vC:=Vw λ_ _ h=>by rw[Đ]at h;show{ţ h.1,ţ h.2}
def x02(h:pp i j=Ã):Fn i j:=by unfold pp at h;rw[Đ,Đ]at h;show{ţ h.1,ţ h.2.1,ţ h.2.2}
def k_:tu K Âl uA:=Vw λ_ _ h=>x02 h
def n9:tu K ϴk Ta:=Vw λ_ _ h=>ţ h
def kz:ZZ K þm (pV g):=λH x y u v d Q b c a=>by
 cases x<;>first|(cases a;done)|skip
 cases y<;>first|(cases a;done)|skip
 cases a;show{_,rfl,λq=>{_,_,b,c,q}}
def iu(r:zZ K H x u):Ye x=decide (u=.zO):=by
 cases x with
 |zO=>cases r;rfl|bl b=>cases r;rfl|int b=>cases r;rfl|str b=>let{rfl,_}:=r;rfl
 |tup b=>let{a,d,rfl,_}:=r;rfl
 |lst b=>let{a,d,rfl,_}:=r;rfl
 |dic b c=>let{a,d,rfl,_}:=r;rfl
 |exc b=>let{a,C,rfl,_}:=r;rfl
 |obj b c e=>let{a,C,f,d,rfl,_}:=r;rfl
def BL:ZZ K èm Ze:=λH x y u v d Q b c a=>by
 cases y<;>first|(cases a;done)|skip
 let e:=iu b;show{Ye x,(Ϣ a).symm,λq=>{c,?_}};rw[<-e];show q
def n8:ZZ K çm IS:=λH x y u v d Q b c a=>by
 cases y<;>first|(cases a;done)|skip
 let e:=iu b;show{!Ye x,(Ϣ a).symm,λq=>{c,?_}};rw[<-e];show q
def QN:∀(G H:Hp) x u d (Q:VK),zZ K G x u->YZ x=À d->∃w,(∀G,zZ K G d w)/\(Εd (-i)):=λG H x u d Q r a=>by
 cases x<;>first|(cases a;done)|skip
 rw[ūq]
def z0y:∀(G H:Hp) x u d (Q:VK),zZ K G x u->TY x=À d->∃w,(∀G,zZ K G d w)/\(Εd ŭj):=λG H x u d Q r a=>by
 cases x<;>first|(cases a;done)|skip
 rw[ūq]
def oj(K:Ô):R2:=λx y H Q=>∃l b xs zs,x=.ref l/\y=.ref b/\yZ K H l xs/\yZ K H b zs/\ë+üp<=å/\∀p,H p=Å->Q Ŷ (Ρb (xs++zs))
def nD:xG X ĩd (oj X.K):=by
 intro P s σ H x y v u Q I A t h;let{l,b,T,R,rfl,rfl,N,z,n,q}:=h;cases A;cases t;let{c,o,G,_}:=ϙ N;let{a,p,J,_}:=ϙ z;obtain⟨⟨O,B,S,k⟩,w,j,e,C,g⟩:=G;obtain⟨⟨W,r,U,m⟩,L,f,i,E,d⟩:=J;simp only at e g i d;subst e g i d
 refine Ċi {_,j,rfl} {_,f,rfl} noFill_list_add seq_list_add PySem.F.slot_list_add PySem.F.entry_list_add (PySem.F.args_list_add_2 _ _)
  (list_addW l b ϩi ϴa w L B r k m (by rw[ĭ,ĭ,<-ęc,<-ój];show n)) {j,f,?_}
 rw[show ϩi++ϴa=(c++a).toArray by simp];show{.ref _,_,I.bc (t':=ĕ) (o.append p) (by rw[ì];show n),rfl,q _ Ϟc}
def oh(K:Ô):R2:=λx y H Q=>pq (λi j=>.int (i+j)) x y H Q\/(∃i k,x=.int i/\y=.bl k/\Q än H)\/(∃i j,x=.str i/\y=.str j/\ϰb+Şa<=å/\Q ϭn H)\/oj K x y H Q\/ot K x y H Q
def wS:xG X ĩd (oh X.K):=y7u.or (y7v.or (y7w.or (nD.or y7x)))
def wR:tu K (oh K) xU:=λG H x y u v d Q s w r f q=>by
 cases x<;>first|(cases f;done)|skip
 all_goals (cases y<;>first|(cases f;done)|skip)
 rename_i i b;cases w;cases r;cases f;show .inr (.inl {i,b,rfl,rfl,?_});let e:i+b2i b=i+ñf:=by cases b<;>rfl
 rw[e];rw[Ņq];cases f;show .inl {_,_,w,r,q _ _ _ þa rfl};rename_i i j;let{rfl,F}:=w;let{rfl,I}:=r
 change (if ϰb+Şa<=yX then _ else _)=_ at f
 by_cases c:ϰb+Şa<=yX;rw[Ï c]at f;cases f;let n:ϰb+Şa<=å:=by rw[Ů];show c
 show .inr (.inr (.inl {i,j,rfl,rfl,n,q _ _ _ þa {rfl,by rw[strLen_append];show n}}));rw[Ñ c]at f;rw[čq]
 change (if ėp=Ä/\Ča+ϖc<=yX then _ else _)=_ at f
 by_cases c0:ėp=Ä/\Ča+ϖc<=yX;rw[Ï c0]at f;let c:=c0.2;rw[įq]
 let E:m≠[]:=λe=>by
  let l:=ľd;rw[e]at l;cases g with
  |nil=>cases c0.1|ñ=>cases l
 refine .inr (.inr (.inr (.inr {a,b,m,A,rfl,rfl,tH s B,tH s C,E,by rw[ľd,ęc,Ů];show c,λe=>?_,λe p t=>?_})));subst e
 let e2:h=[]:=by
  cases h with
  |nil=>rfl|ñ=>let{_,_,z,_}:=o;cases z
 subst e2;show q _ _ _ þa {a,m,rfl,B,by rw[Œ];show k,n};show q _ _ _ ŉp {p,m++A,rfl,ϴc yt,(óo).mono źm,n};rw[Ñ c0]at f;rw[čq]
 change (if Ča+ϖc<=yX then _ else _)=_ at f
 by_cases c:Ča+ϖc<=yX;rw[Ï c]at f;rw[įq]
 refine .inr (.inr (.inr (.inl {a,b,m,A,rfl,rfl,ux s B,ux s C,by rw[ľd,ęc,Ů];show c,λp t=>?_})));show q _ _ _ ŉp {p,m++A,rfl,ŧa yt,(óo).mono źm,n};rw[Ñ c]at f;cases f
def z42(h:pS xs i=À x):∃j:Â,xs[j]?=À x/\∀{β:Type}(ys:Á β),ů=ë->pS ys i=ys[j]?:=by
 unfold pS at h;cases e:ixN ë i with
 |Å=>rw[e]at h;cases h|À j=>rw[e]at h;show{j,h,λys l=>by unfold pS;rw[l,e];rfl}
def de(xs:Á α)(i:Æ):pS xs i=um xs i:=by
 unfold pS um ixN;by_cases h:0<=i;rw[Ï h,Ï h];by_cases h2:i<ë;rw[Ï h2];rfl;rw[Ñ h2];show(Ùa Ê).symm;rw[Ñ h,Ñ h]
 split<;>rfl
def N_(r:ê K H ds vs)(h:um ds i=À d):∃v,pS vs i=À v/\zZ K H d v:=by rw[<-de]at h;let{j,e,k}:=z42 h;let{v,a,b}:=Éb e;show{v,by rw[k vs ϯ];show a,b}
def z7c:D->D->É D
 |.lst xs,.int i=>um xs i|.tup xs,.int i=>um xs i|.str z,.int i=>(Ðp).bind λc=>À ïi|_,_=>Å
def NO:tu K (Nx K) z7c:=λG H x y u v d Q s k h b q=>by
 cases x<;>first|(cases b;done)|skip
 all_goals (cases y<;>first|(cases b;done)|skip)
 rename_i z i;let{rfl,l}:=k;cases h;let{c,o,b}:=zK b;cases b;rw[<-de]at o;show .inr (.inr {z,i,c,rfl,rfl,l,o,q _ _ _ þa {rfl,Ăb (n:=1) Ò}});rw[ďq];show .inr (.inl {a,f,i,w,rfl,rfl,tH s g,m,q _ _ _ þa e});rw[ďq];show .inl {a,f,i,w,rfl,rfl,ux s g,m,q _ _ _ þa e}
def t8:vg X þd (Τc ϳg ώi):=z56.or z57
def tD:Jk K (Τc (yZ K H p ys\/xR K H p ys) ώi) vk:=λG H i j d Q s r b q=>by
 match i,b with
 | [.lst xs],b=>cases b;let{v,c,rfl,{a,h,rfl,f,g,_},e}:=r;cases(show c=[]from e);show .inl {a,h,rfl,.inl f,by rw[Ča];rw[Ņq]}
 | [.tup xs],b=>cases b;let{v,c,rfl,{a,h,rfl,f,g,_},e}:=r;cases(show c=[]from e);show .inl {a,h,rfl,.inr f,by rw[Ča];rw[Ņq]}
 | [.str z],b=>cases b;let{v,c,rfl,{rfl,l},e}:=r;cases(show c=[]from e);show .inr {z,rfl,l,q _ _ _ þa rfl}
#print a
theorem fE:∀xs ys:Á D,(((ģh).all λj=>xh ϝh Ϝh)&&ë==ů)=Ϟa xs ys
 | [],[]=>rfl| [],_::_=>rfl|_::_,[]=>rfl|x::xs,y::ys=>by
  let a:=fE xs ys;exact _=Ėh;rw[<-a,Ć,Ć,Nat.succ_min_succ,List.range_succ_eq_map,Ź,List.all_map,Bool.and_assoc]
  congr 1
  congr 1
  rw[Ŝc];simp
theorem eZ:∀{xs ys:Á D},pT f xs ys=Ã->∀(j:Â) x y,xs[j]?=À x->ys[j]?=À y->f x y=Ã
 | [],_,_,j,x,y,e,_=>by cases e|x::xs,[],_,j,_,y,_,e=>by cases e|x::xs,y::ys,h,0,_,_,e1,e2=>by cases e1;cases e2;let c:Ĩh=Ã:=h;rw[Đ]at c;show c.1|x::xs,y::ys,h,j+1,a,b,e1,e2=>by let c:Ĩh=Ã:=h;rw[Đ]at c;show eZ c.2 j a b ąm Ąm
section
variable{X:Cx}{z8:Á õ}{σ:St}{H:Hp}{s:Í}{K:Ô}
theorem Ge(d:∀d1 d2 v,u8 n d1 d2=Ã->zZ K H d1 v->zZ K H d2 v->xh d1 d2=Ã):∀{xs ys:Á D}{vs:Á V},pT ϯc xs ys=Ã->ê K H xs vs->ê K H ys vs->Ϟa xs ys=Ã
 | [],[],_,_,_,_=>rfl| [],_::_,_,_,r1,r2=>by cases(show _=[]from r1);let{_,_,e,_}:=r2;cases e
 |_::_,[],_,_,r1,r2=>by cases(show _=[]from r2);let{_,_,e,_}:=r1;cases e
 |x::xs,y::ys,_,h,r1,r2=>by let{v,r,rfl,a,b}:=r1;let{i,j,e,g,f}:=r2;cases e;let c:(u8 n x y&&pT ϯc xs ys)=Ã:=h;rw[Đ]at c;exact Ėh=Ã;rw[d x y v c.1 a g,Ge d c.2 b f];rfl
def GL(h:u8 Ĝ x y=Ã):(∃xs ys,x=.tup xs/\y=.tup ys/\pT ϯc xs ys=Ã)\/(∃xs ys,x=.lst xs/\y=.lst ys/\pT ϯc xs ys=Ã)\/(xw x=Ã/\xw y=Ã):=by
 unfold u8 at h
 rw[ìq];show .inl {_,_,rfl,rfl,h};show .inr (.inl {_,_,rfl,rfl,h});rw[Đ]at h;show .inr (.inr h)
def U2(h:xw d=Ã)(r:zZ K H d v):jt v=Ã:=by
 cases d<;>first|show Þ h Ħ|skip
 rw[ŋq];rw[ŋq];rw[ŋq];cases(show v=_/\_ from r).1;rfl
def Oa(d:xw d1=Ã)(c:xw d2=Ã)(a:zZ K H d1 x)(b:zZ K H d2 y):jI x y=xh d1 d2:=by
 cases d1<;>first|show Þ d Ħ|skip
 all_goals (cases d2<;>first|show Þ c Ħ|skip)
 all_goals first
  |(cases(show x=_ from a);cases(show y=_ from b);rfl)
  |(cases(show x=_ from a);cases(show y=_/\_ from b).1;rfl)
  |(cases(show x=_/\_ from a).1;cases(show y=_ from b);rfl)
  |(cases(show x=_/\_ from a).1;cases(show y=_/\_ from b).1;rfl)
theorem Md(I:Inv X z8 σ H s):∀(n:Â)(d1 d2:D)(v:V),u8 n d1 d2=Ã->zZ X.K H d1 v->zZ X.K H d2 v->xh d1 d2=Ã
 |0,_,_,_,h,_,_=>by cases h|n+1,d1,d2,v,h,r1,r2=>by rcases GL h with⟨j,k,rfl,rfl,h⟩|⟨j,k,rfl,rfl,h⟩|⟨g,o⟩;rw[Ĳq];cases I.Fk d c;show Ge öl h b f;rw[Ĳq];cases I.Ln d c;show Ge öl h b f;rw[<-Oa g o r1 r2];show z76 (U2 g r1)
def iD{α:Type}{xs:Á α}{j:Â}{x d:α}(h:xs[j]?=À x):Ňj j d=x:=by rw[ő,h];rfl
def Bf{A:ù}{n:Â}{a c:Ë}{xs ys:Á D}{vs us:Á V}(I:Inv X z8 σ H s)(o:Ťa<Ϛ)(p:dQ X.K H a c vs us)(f:ê X.K H xs vs)(m:ê X.K H ys us)(h:pT ϯc xs ys=Ã)(E:∀(d b:D)(x y:V)(u v:Value),u8 n d b=Ã->zZ X.K H d x->zZ X.K H b y->yC x u->yC y v->ŝb Ìb s u v (xh d b)):ŭi A s Ŗ Ŋd (Ϟa xs ys)/\Či A s Ŗ Ŋd (!dEqs xs ys):=by
 let z:=x1h (A:=A) (e:=λj=>xh ϝh Ϝh) I o p λj q t g l e1 e2 B r=>by let{d,k,w}:=f.at e1;let{b,i,C}:=m.at e2;exact ŝb Ìb s g l (xh ϝh Ϝh);rw[iD k,iD i];show E d b q t g l (eZ h j d b k i) w C B r
 rw[ϱb,Ùg,fE]at z;show z
theorem Mc(I:Inv X z8 σ H s):∀(n:Â)(A:ù)(d1 d2:D)(x y:V)(u v:Value),Ťa+n<Ϛ->u8 n d1 d2=Ã->zZ X.K H d1 x->zZ X.K H d2 y->yC x u->yC y v->ŝb A s u v Ép
 |0,_,_,_,_,_,_,_,_,h,_,_,_,_=>by cases h|n+1,A,d1,d2,x,y,u,v,hu,h,r1,r2,rx,ry=>by let q:=h;let o:=r1;let m:=r2;rcases GL h with⟨w,z,rfl,rfl,h⟩|⟨w,z,rfl,rfl,h⟩|⟨r,p⟩;rw[ŝq];show ěm hac (Υc Čo Ďf).1;rw[ŝq];show ěm hac (Υc Ċo Ďf).1;rw[<-Oa r p r1 r2];show fj rx ry (U2 r r1) (U2 p r2)
#print a
def OY(K:Ô)(a:Ð):R2:=λx y H Q=>∃d1 d2 k,zZ K H d1 x/\zZ K H d2 y/\Zd d1 d2=À k/\Q (.bl (if a then !k else k)) H
def yh(a:ym k A):Ťa+7<Ϛ:=Öb (åc (by decide:7<=64) _) a.units
section
variable{X:Cx}{K:Ô}
def Gh(h:Zd d1 d2=À k):u8 6 d1 d2=Ã/\k=xh d1 d2:=by
 unfold Zd at h
 rw[ìq];cases h;cases h;rw[ìq];rename_i e;cases h;show{e,rfl};cases h
def sI(h:Zd d1 d2=À k)(d:xw d1=Ã)(c:xw d2=Ã)(a:zZ K H d1 x)(b:zZ K H d2 y):S8 x y=Ã/\decide (x=y)=k:=by
 let{_,e}:=Gh h;subst e;cases d1<;>first|show Þ d Ħ|skip
 all_goals (cases d2<;>first|show Þ c Ħ|(cases h;done)|skip)
 all_goals first
  |(cases(show x=_ from a);cases(show y=_ from b);show⟨rfl,by first|rfl|show GP|show GO⟩)
  |(cases(show x=_ from a);cases(show y=_/\_ from b).1;show⟨rfl,rfl⟩)
  |(cases(show x=_/\_ from a).1;cases(show y=_ from b);show⟨rfl,rfl⟩)
  |(cases(show x=_/\_ from a).1;cases(show y=_/\_ from b).1;show⟨rfl,GQ⟩)
def fq(I:Inv X z8 σ H s)(G:Ťa+7<Ϛ)(h:u8 6 d1 d2=Ã)(r:¬ (xw d1&&xw d2)=Ã)(n:zZ X.K H d1 x)(o:zZ X.K H d2 y)(p:yC x u)(m:yC y v) :ŭi A s u v Ép/\Či A s u v (!xh d1 d2):=by rcases GL h with⟨t,w,rfl,rfl,h⟩|⟨t,w,rfl,rfl,h⟩|⟨F,B⟩;rw[àq];show Bf I Ê Čo b l h λd1 d2 x y u v j e k i g=>Mc I 5 Ìb d1 d2 x y u v Ďf j e k i g;rw[àq];show Bf I Ê Ċo b l h λd1 d2 x y u v j e k i g=>Mc I 5 Ìb d1 d2 x y u v Ďf j e k i g;show Þ (by rw[F,B];rfl) r
def xY(j:ŗa+7<Ϛ):xG X Ŝp (OY X.K Ä):=by rw[Óq];show y7y n s σ H x y v u Q I f d {a,by rw[b];show q};let{l,rfl}:=Gh i;show ϕl.1 _ _ _ _ {.bl _,H,I,rfl,q}
def gc(j:ŗa+7<Ϛ):xG X ęi (OY X.K Ã):=by rw[Óq];show y86 n s σ H x y v u Q I f d {a,by rw[b];show q};let{l,rfl}:=Gh i;show ϕl.2 _ _ _ _ {.bl _,H,I,rfl,q}
def xW:ZZ K (OY K Ä) zh:=λH x y u v d Q b e a=>by rw[Ţq]
def gZ:ZZ K (OY K Ã) wp:=λH x y u v d Q b e a=>by rw[Ţq]
#print a
def y1j{K:Ô}:Ű K òd áb=À Ä/\Ű K òd Ěa=À Ä/\Ű K òd ża=À Ä/\
  Ű K ϧa áb=À Ä/\Ű K ϧa Ěa=À Ä/\Ű K ϧa ża=À Ä/\
  Ű K ϩa áb=À Ä/\Ű K ϩa Ěa=À Ä/\Ű K ϩa ża=À Ä:=by show{?_,?_,?_,?_,?_,?_,?_,?_,?_}<;>kernel_rfl
def y1k{K:Ô}:Ű K áb ϩa=À Ä/\Ű K áb ϧa=À Ä/\Ű K áb Ěa=À Ä/\Ű K áb ża=À Ä/\
  Ű K Ěa ϩa=À Ä/\Ű K Ěa ϧa=À Ä/\Ű K Ěa áb=À Ä/\Ű K Ěa ża=À Ä/\Ű K Ěa Ěa=À Ã:=by show{?_,?_,?_,?_,?_,?_,?_,?_,?_}<;>first|kernel_rfl|rfl
def y1l{K:Ô}:Ű K ża ϩa=À Ä/\Ű K ża ϧa=À Ä/\Ű K ża Ěa=À Ä/\Ű K ża áb=À Ä:=by show{?_,?_,?_,?_}<;>kernel_rfl
nonrec def x87:D->îa
 |.zO => "NoneType"|.bl _ => Ũe|.int _ => ĭc|.str _ => ϐe|.tup _ => ώ|.lst _ => Ī|.dic _ _ => Ña|.exc _ => "x"|.obj _ _ _ => "x"
def Tj{K:Ô}{T:qy}{d:D}{b:Ð}(h:Iv T d=À b):Ű K (.type (x87 d)) ąo=À b:=by
 let{f,w,n,i,t,r,q,s,g}:=y1j (K:=K);let{p,a,x,c,u,k,j,y,o}:=y1k (K:=K);let{l,m,e,v}:=y1l (K:=K);cases T<;>cases d<;>cases h
 all_goals first|show y1e|show y1c|show y1d|show y1b|show y1g|show y1f|show y1i|show y1h|assumption
def x10(K:Ô)(T:qy):Á V->Hp->VK->È:=λa H Q=>∃x d b,a=[x,.ty T.nm]/\zZ K H d x/\Iv T d=À b/\Q ıb H
def z54(T:qy):vg X Éi (x10 X.K T):=by
 intro t s σ H A B Q I r h;let{x,d,b,rfl,g,e,q}:=h;let{u,c,rfl,i,w}:=A0 r;cases(show c=ϟb T.nm from w);let f:∀l,EP X t σ Q Ñg { s with Ė:=l }:=λl=>{.bl b,H,Óa l,rfl,q}
 cases d with
 |zO=>cases(show x=_ from g);show Mt I i .zO (Tj (d:=.zO) e) f|bl y=>cases(show x=_ from g);show Mt I i (.bl _) (Tj (d:=.bl y) e) f|int y=>cases(show x=_ from g);show Mt I i (.int _) (Tj (d:=.int y) e) f|str y=>cases(show x=_/\_ from g).1;show Mt I i (.str _) (Tj (d:=.str y) e) f|tup ds=>let{a,v,rfl,j,_}:=g;cases(show u=ę a from i);let{k,_,{o,m,p,_},_}:=àa j;show ϵa Äo Ϝ {o,m,p} (Tj (d:=.tup ds) e) æa f
 |lst ds=>let{a,v,rfl,j,_}:=g;cases(show u=ę a from i);let{k,_,{o,n,m,p,_},_}:=ϙ j;show ϵa ľi Ϝ {o,m,p} (Tj (d:=.lst ds) e) æa f
 |dic ks ds=>cases T<;>cases e|exc _=>cases T<;>cases e|obj _ _ _=>cases T<;>cases e
def Oq(T:qy)(n:Gl X řc)(e:Gl X x)(s:ð řc=Å)(g:ð x=Å)(hv:ϔ x=À ąo)(w:SB X a f)(i:Î Ēe q12)(o:Î Ĕb q10)(l:Î ō q10):SE X (.Call (.Name řc p) [a,.Name x p1] [] pos) (Xu T f):=by let{t,j,k}:=w.h;refine{{_,(OW (z54 T) n s z4s (Bc {j} (Bc (x0o e g hv o l) Nt rfl) i) Ò Ò (by rw[Ź,i];rfl)).h,λ{C A G H τ σ d Q} E c q=>?_}};let{z,u,c}:=zK c;let{b,m,c}:=zK c;cases c;show k E u λv B y x r=>{v,z,b,rfl,r,m,q _ _ _ x rfl}
#print L3
namespace L3
open Ł
theorem A7{c:FT}{b:FS}:∀{n:Â}{σ:zx}{fl:Fl}(k:Â),uz c b n σ=À fl->uz c b ώd σ=À fl
 |0,_,_,_,h=>by cases h|n+1,σ,fl,k,h=>by
  rw[Nat.succ_add];unfold uz at h ⊢;cases hc:c σ with
  |Å=>rw[hc]at h;cases h|À kk=>
   rw[hc]at h;cases kk with
   |Ä=>show h|Ã=>
    change (Ŷd).bind _=_ at h
    exact(Ŷd).bind _=_;cases hb:b σ with
    |Å=>rw[hb]at h;cases h|À f=>
     rw[hb]at h;cases f with
     |nx τ=>show A7 k h|ct τ=>show A7 k h|bk τ=>show h|rt o d=>show h
def U7(n:Â)(h:uz c b n σ=À fl)(a:Î (n<=YL) q10):Zw c b σ=À fl:=by let e:=A7 (YL-n) h;rw[Śm a]at e;show e
def QX(a:c σ=À Ã)(d:b σ=À ãj):uz c b Ĝ σ=uz c b n σ':=by rw[Ŕq];rw[a];exact(Ŷd).bind _=_;rw[d];rfl
def UN(a:c σ=À Ä):uz c b Ĝ σ=À ÿg:=by rw[Ŕq];rw[a];rfl
theorem kX(P:Â->zx->È):∀{ds:Á D}{σ:zx}(n:Â),P n σ->(∀i d σ,ds[i]?=À d->P (n+i) σ->∃σ1 σ2,g d σ=À σ1/\(b σ1=À âj\/b σ1=À (.ct σ2))/\P Žj σ2)->
  ∃σ',Yk g b ds σ=À ãj/\P żj σ'
 | [],σ,n,h,_=>{σ,rfl,h}|d::ds,σ,n,h,Ŋa=>by
  let{σ1,σ2,e1,e2,m}:=Ŋa 0 d σ rfl h
  let{σ',c,p}:=kX P (ds:=ds) (σ:=σ2) Ĝ m λi q τ k f=>by let{a,e,j,l,o}:=Ŋa í q τ ŀh (by rw[Ĺq];show f);show{a,e,j,l,by rw[ęq];show o}
  show{σ',?_,by rw[Ēq];show p};rw[Úq];exact(b σ1).bind _=_;rcases e2 with e2|e2;rw[e2];show c;rw[e2];show c
def tW(h:a σ=À ãj):zR a b σ=b σ':=by exact(Ôa).bind _=_;rw[h];rfl
def x3w(h:a σ=À ϔc):zR a b σ=À ϔc:=by exact(Ôa).bind _=_;rw[h];rfl
def y0b(h:c σ=À Ã):ya c a b σ=a σ:=by rw[Ŕq];rw[h];rfl
def y0a(h:c σ=À Ä):ya c a b σ=b σ:=by rw[Ŕq];rw[h];rfl
abbrev wt(j:Â):Á D:=(ϡ j).map λk:Â=>Ě k
def Z4(h:f τ=À ōd)(a:öj<=1000000):p6 ı f τ=À (wt n.toNat):=by unfold p6;rw[h];exact(if(0:Æ).natAbs<=yX/\öj<=yX/\(n-0).toNat<=yX then _ else _)=_;rw[Ï {by decide,by rw[åq],by rw[åq]},Int.sub_zero];simp only[Int.zero_add]
#print L3
namespace L3
def shx:=
 é yJ.eq_1<|é zR.eq_1<|é zm.eq_1<|é qK.eq_1<|é yb.eq_1<|é vS.eq_1<|é p_.eq_1<|é ya.eq_1<|é xM.eq_1<|é Yw.eq_1 <|
 é rf.eq_1<|é qJ.eq_1<|é jS.eq_1<|é Yk.eq_1<|é Yk.eq_2<|é e1.eq_1<|é e2.eq_1<|é eL.eq_1<|é eC.eq_1<|é z7.eq_1<|é qX.eq_1 <|
 é zC.eq_1<|é zE.eq_1<|é tE.eq_1<|é Xq.eq_def<|é X6.eq_1<|é ZA.eq_1<|é g9.eq_1<|é Zc.eq_1<|é IN.eq_1<|é MZ.eq_1<|é pU.eq_1 <|
 é wP.eq_1<|é xv.eq_1<|é Xu.eq_1<|é Iv.eq_1<|é ZC.eq_1<|é ZC.eq_2<|é ZC.eq_3<|é ZC.eq_4<|é ZC.eq_5<|é ZC.eq_6<|é ZC.eq_7<|é ZC.eq_8<|é ZC.eq_9<|é qy.sel.eq_1<|é qy.sel.eq_2<|é qy.sel.eq_3<|é qy.sel.eq_4<|é qy.sel.eq_5<|é fI.eq_def<|é pW.eq_def<|é pV.eq_def<|é VU.eq_1<|é IQ.eq_1<|é xE.eq_1<|é vC.eq_1 <|
 é hU.eq_1<|é uA.eq_1<|é Ta.eq_1<|é vX.eq_def<|é YZ.eq_def<|é vk.eq_def<|é h9.eq_def<|é Ze.eq_def<|é IS.eq_def<|é Ye.eq_def <|
 é yA.eq_1<|é vO.eq_1<|é vm.eq_1<|é zf.eq_1<|é wA.eq_1<|é wO.eq_1 <|
 é @Option.bind_some.{0,0} <| é @Option.bind_none.{0,0} <| é @List.getElem?_cons_zero.{0} <| é @List.getElem?_cons_succ.{0} <| é @List.set_cons_zero.{0} <| é @List.set_cons_succ.{0} <| é @List.map_cons.{0,0} <| é @List.map_nil.{0,0} <|
 é @List.cons_append.{0} <| é @List.nil_append.{0} <| é @List.length_cons.{0} <| é @List.length_nil.{0} <| é @List.replicate_zero.{0} <| é @List.replicate_succ.{0} <| é ài<|é Bool.not_false <|
 é @decide_true<|é @decide_false<|é Bool.and_self<|é Ŵn ļf
open Ł Ş Ŋ L2
section
variable{α:Type}
theorem z1z:∀{ks:Á zY}{vs:Á α}(k:zY),Ō=ē->((àb).any λkv=>decide ĥj)=yx ks k
 | [],[],_,_=>rfl|k'::ks,v::vs,k,h=>by let a:=z1z (ks:=ks) (vs:=vs) k Ća;exact(decide Òk||((àb).any λkv=>decide ĥj))=(decide Òk||yx ks k);rw[a]
theorem UQ(k:zY):∀{ks:Á zY}{vs:Á V},Ō=ē->pG àb k=ĉ ks vs k:=by
 intro ks
 induction ks with
 |nil=>intro vs _;cases vs<;>rfl|ñ k' ks ih=>
  intro vs h;cases vs with
  |nil=>cases h|ñ v vs=>by_cases e:k'=k;rw[ēb,DM (p:=(k',v)) e];exact _=Æf;rw[Ï e];rw[ēb,DL (p:=(k',v)) e,ih Ŧj];exact _=Æf;rw[Ñ e]
theorem w1j(k:zY)(v:V):∀(ks:Á zY)(vs:Á V),((àb).map λkv=>if kv.1=k then(kv.1,v)else kv)=ŀg όg:=by
 intro ks
 induction ks with
 |nil=>intro vs;rfl|ñ k' ks ih=>
  intro vs;cases vs with
  |nil=>rfl|ñ u vs=>rw[ēb,Ļ,ih,ðh,ēb];by_cases e:k'=k;rw[Ï e,Ï e];rw[Ñ e,Ñ e]
theorem Ab(h:Ō=ē):qG àb k v=(Ħe).zip æe:=by unfold qG wE wG;rw[z1z k h];by_cases c:yx ks k=Ã;rw[Ï c,Ï c,Ï c,w1j k v];rw[Ñ c,Ñ c,Ñ c,List.zip_append h];rfl
def W9(h:Ō=ē):(Ħe).length=(æe).length:=by
 unfold wE wG
 split;rw[Ϸd,h,œb];rw[ì,ì,h];rfl
def Nj(h:Ō=ē):(æe).length<=ē+1:=by
 unfold wG
 split;rw[Ϸd,h,œb];show šf _;rw[ì];show Ĭ _
#print a
section
variable{K:Ô}{H:Hp}
theorem Ġp:∀{ks:Á zY}{ds:Á D}{vs:Á V}{k:zY}{d:D},ê K H ds vs->ĉ ks ds k=À d->∃v,ĉ ks vs k=À v/\zZ K H d v
 | [],_,_,_,_,_,e=>by cases e|_::_,[],_,_,_,_,e=>by cases e|k'::ks,d'::ds,_,k,d,r,e=>by
  let{v,h,rfl,a,f}:=r
  change (if k'=k then À d' else L3.getK ks ds k)=À d at e
  rw[âq];show{v,by exact Æf=_;rw[Ï c],a};rw[Ñ c]at e;let{u,b,g}:=Ġp f e;show{u,by exact Æf=_;rw[Ñ c];show b,g}
theorem iG{α β:Type}:∀{ks:Á zY}{ds:Á α}{vs:Á β}{k:zY},þ=ē->ĉ ks ds k=Å->ĉ ks vs k=Å
 | [],_,_,_,_,_=>by unfold ĉ;rfl|_::_,[],[],_,_,_=>rfl|k'::ks,d'::ds,v::vs,k,h,e=>by
  change (if k'=k then À d' else ĉ ks ds k)=Å at e
  exact žk=Å;rw[âq];rw[Ñ c]at e;rw[Ñ c];show iG Ća e
theorem HJ:∀{ks:Á zY}{vs:Á α}(k:zY),Ō=ē->(ĉ ks vs k).isSome=yx ks k
 | [],[],_,_=>rfl|k'::ks,v::vs,k,h=>by let a:=HJ (ks:=ks) (vs:=vs) k Ća;exact(žk).isSome=(decide Òk||_);by_cases c:k'=k;rw[Ï c,ú c];rfl;rw[Ñ c,Ē c,a];rfl
theorem œj(hv:zZ K H d v):∀{ks:Á zY}{ds:Á D}{vs:Á V},ê K H ds vs->ê K H (ûc (λk' x=>if k'=k then d else x) ks ds) όg
 | [],_,_,_=>rfl|_::_,[],_,r=>by rw[ĭq];rfl|k'::ks,d'::ds,_,r=>by let{u,e,rfl,b,a}:=r;show{_,_,rfl,?_,œj hv a};exact zZ K H (if k'=k then d else d') (if k'=k then v else u);rw[Ĵq];show hv;rw[Ñ c,Ñ c];show b
def Reps.put(r:ê K H ds vs)(hv:zZ K H d v):ê K H (wG ks ds k d) æe:=by
 unfold wG
 split;show œj hv r;show ϕc (Ľe hv)
def Yg(h:ua x=À k)(r:zZ K H x u):u=kV k:=by
 cases x<;>first|(cases h;done)|skip
 cases h;show r;cases h;show(show u=_/\_ from r).1
#print a
section
variable{X:Cx}{K:Ô}
def oy:R2:=λx y H Q=>∃a kvs k v,x=.ref a/\y=kV k/\Rd H a ũ/\pG kvs k=À v/\Q v H
def y0q:jd X oy:=by
 intro f b n s σ H x y v u Q I p j h B;let{a,d,k,z,rfl,rfl,e,l,q}:=h;cases p;let{_,_,w,c,A}:=kN ĝ e;let{i,t,g}:=źf (v:=z) (o:=Ĝc w k) (by rw[<-l];show c.val k)
 show ϰe (x:=i) (z6l I (.inl {d,k,e,rfl,rfl})) ϧk
  (ϝm (Q:=λr m=>r=i/\EP X n σ Q r m) (Zi j) A.mapOf t {rfl,z,H,Óa _,g,q}) B
def ox(K:Ô):R2:=λx y H Q=>Nx K x y H Q\/oy x y H Q
def zU(_:ŗa+1<Ϛ):jd X (ox X.K):=y0r.or y0q
def zV:tu K (ox K) zJ:=λG H x y u v d Q s f e c q=>by
 cases x with
 |dic ks ds=>let{a,n,rfl,h,l,g,_}:=f;let{k,j,c}:=zK c;let{z,m,i}:=g.getK c;show .inr {a,_,k,z,rfl,Yg j e,Âc s h,by rw[UQ k l];show m,q _ _ _ þa i}
 |zO=>cases c|bl b=>cases c|int b=>cases c|str z=>show .inl (ξb (.str z))|tup z=>show .inl (ξb (.tup z))|lst z=>show .inl (ξb (.lst z))|exc z=>cases c|obj z _ _=>cases c
def x3r(S:ŗa+1<Ϛ)(e:QE X ϓb ýb)(K:SE X b fb)(T:Î ßp q12):SE X (.Subscript ϓb b pos) (e2 zJ (qX i) fb):=by
 let{Z,L,s}:=K.h;show{{_,BO (zU S) e.h L (BS T),λ{G0 H0 G H τ σ d Q} E a q=>?_}};let{x,I,a}:=zK a;let{y,B,a}:=zK a;let{o,e}:=fR I;cases o with
 |Ä=>let{v,n,Y}:=ūa _ _ e;show{v,n,s E B λu r C c f=>zV r C x y v u _ _ ĸc (Y.mono c.g) f a λw U F J N=>q w U F (ϋa J) N}
 |Ã=>
  let{p,n,_,_,o}:=Ūa _ _ e;show{_,n,s E B λu r C c f=>?_};cases x with
  |lst ds=>
   let{t,e1,m,_}:=o;cases y<;>first|(cases a;done)|skip
   rename_i i;let{w,R,j}:=N_ m a;cases f;show .inl (.inl {p,t,i,w,rfl,rfl,ŧa ûo,R,q _ _ _ c (Ϥj c.g)})
  |dic ks ds=>let{t,e1,l,m,_}:=o;let{k,O,a}:=zK a;let{z,P,W}:=m.getK a;show .inr {p,_,k,z,rfl,Yg O f,.inl ûo,by rw[UQ k l];show P,q _ _ _ c (W.mono c.g)}
  |_=>show ħc
def Nw(b:Ð):R2:=λx y H Q=>∃a kvs k,y=.ref a/\x=kV k/\Rd H a ũ/\Q (.bl (if b then !(pG kvs k).isSome else(Ϗf).isSome)) H
def y81(d:ŗa+1<Ϛ):xG X Ģe (Nw Ä):=by rw[Ąq];show z6d d I ūl g λi c=>{.bl _,H,c,rfl,q}
def y88(d:ŗa+1<Ϛ):xG X œf (Nw Ã):=by rw[Ąq];show z6f d I ūl g λi c=>{.bl _,H,c,rfl,q}
def OZ(K:Ô)(a:Ð):R2:=λx y H Q=>Nv K a x y H Q\/(∃i j,x=.str i/\y=.str j/\Q (.bl (if a then !(!(Ϻe j i 0 Şa 1).isEmpty)else !(Ϻe j i 0 Şa 1).isEmpty)) H)\/Nw a x y H Q
def pf(a:ŗa+1<Ϛ):xG X Ģe (OZ X.K Ä):=y82.or (y83.or (y81 a))
def NU(a:ŗa+1<Ϛ):xG X œf (OZ X.K Ã):=y89.or (y8a.or (y88 a))
theorem Bh(e:xw x=Ã)(d:zZ K H x u):∀{ys:Á D}{vs:Á V},ê K H ys vs->ϡc xw=Ã->vs.all jt=Ã/\Mr u vs=ys.any λy=>xh y x
 | [],_,r,_=>by rw[ĭq];show{rfl,rfl}|y::ys,_,r,h=>by let{v,f,rfl,c,g}:=r;rw[Ź,Đ]at h;let{a,b}:=Bh e d g h.2;refine{by rw[Ź,U2 h.1 c,a];rfl,?_};exact(jI v u||Mr u f)=(xh y x||_);rw[Oa h.1 e c d,b]
theorem iX(d:zZ K H x u)(h:zZ K H y v)(b:Gi x y=À k)(q:Q (.bl (if neg then !k else k)) H):OZ K neg u v H Q:=by
 cases y with
 |lst ys=>
  let{a,g,rfl,e,f,_}:=h
  rw[Đq]
  cases c:Ľn with
  |Ä=>rw[c]at b;cases b|Ã=>rw[c]at b;cases b;rw[Đ]at c;let{m,o}:=Bh c.1 d f c.2;show .inl {a,g,rfl,.inl e,U2 c.1 d,m,by rw[o];show q}
 |tup ys=>
  let{a,g,rfl,e,f,_}:=h
  rw[Đq]
  cases c:Ľn with
  |Ä=>rw[c]at b;cases b|Ã=>rw[c]at b;cases b;rw[Đ]at c;let{m,o}:=Bh c.1 d f c.2;show .inl {a,g,rfl,.inr e,U2 c.1 d,m,by rw[o];show q}
 |str j=>
  cases x<;>first|(cases b;done)|skip
  rename_i i;cases b;show .inr (.inl {i,j,(show u=_/\_ from d).1,(show v=_/\_ from h).1,q})
 |dic ks ds=>let{n,p,b}:=zK b;cases b;let{a,g,rfl,e,l,f,_}:=h;show .inr (.inr {a,_,n,rfl,Yg p d,e,?_});rw[UQ n l,HJ n l];show q
 |_=>cases b
def pY:ZZ K (OZ K Ä) xV:=λH x y u v d Q b e a=>by rw[Ÿq]
def NQ:ZZ K (OZ K Ã) Xv:=λH x y u v d Q b e a=>by rw[Ÿq]
def QD:SF X ϔm Ϲe:={{_,y91,λ{e c G H τ σ d Q} E b q p a=>by cases b;show q p G _ (Ńa źa a) a (E.ext.gh.free a) {[],yt,rfl,rfl,ŵ _}}}
def QK(F:ŗa+1<Ϛ)(C:QE X ž ýb)(hk:SE X k fk)(hv:SE X v fv)(N:Î (εb ŭl) q12) :SS X Ēm (j_ i fk fv):=by
 let{Z,t,B}:=Äd;let{Y,r,L}:=Ãd;show{{_,o7 F C.h t r N,λ{W H0 G H τ σ T E} K b q=>?_}};let{y,I,b}:=zK b;show L K I λw U H1 J O=>?_
 rw[Ťq];rename_i ks p o;let{S,s,b}:=zK b;let{d,e,b}:=zK b;by_cases c:Ō<yX;rw[ßq];let j:=Öa J;let{a,n,g,z,vs,Q,l,m,hl}:=j.ow _ _ o;show{_,n,B j s λu R H2 f P=>{a,_,rfl,.inl {_,d,f.h _ _ Q,Yg e P,?_,rfl},?_}};rw[óc,l,œb,Ů,<-l];show c;show q _ _ _ ((j.go f).J6 o n {wG ks vs d w,?_,W9 l,(Ŭd f.g).put (ňg f.g),?_});rw[yt,Ab l];let h1:=Nj (ks:=ks) (vs:=p) (k:=d) (v:=y) (by rw[l,Ùg]);have h2:ój<16777216:=by rw[<-Ùg,<-l];show c
 rw[Ů];omega;rw[Þq];cases b
inductive YK(w:æ):Á Ďc->Á Ç->Á Value->È
 |nil:YK w [] [] []
 |ñ {x:Ç} {t:Tok} {v:Value} {es:Á Ďc} {xs:Á Ç} {vs:Á Value} (r:YK w es xs vs):YK w (⟨ģn w.params x,.str x t,v⟩::es) ϔa (v::vs)
def YK.pairs:∀{es:Á Ďc}{xs:Á Ç}{vs:Á Value},YK w es xs vs->Pairs êb es ((ģc Æc).zip vs)/\(∀e∈es,∃k,(êb).is k e.key=Ã/\e.hash=(êb).hash k):=λ{es xs vs} h=>by
 induction h with
 |nil=>show{.nil,λ_ h=>(Śd).elim}|@cons x t _ _ _ _ r ih=>let{a,b}:=ih;show{.cons (NA P w x t) rfl a,λe h=>?_};rcases Ğ h with rfl|h;show{.inr x,NA P w x t,rfl};show b e h
def YK.len{w:æ}{es:Á Ďc}{xs:Á Ç}{vs:Á Value}(h:YK w es xs vs):ë=ē:=by
 induction h with
 |nil=>rfl|ñ _ ih=>rw[Ć,Ć,ih]
theorem y1o(r:zo us vs):∀{ks:Á zY},Ō=éa->KV će àb:=by
 induction r with
 |nil=>intro ks _;rw[Ğm,Ğm];show .nil|ñ r _ ih=>
  intro ks h;cases ks with
  |nil=>show .nil|ñ k ks=>show .cons {rfl,r} (ih Ŧj)
theorem z20:∀{ks:Á zY}{vs:Á Value},Ō=ē->(àb).map (·.1)=ks
 | [],[],_=>rfl|k::ks,v::vs,h=>by rw[ēb,Ļ,z20 Ća]
#print a
nonrec def Bq:D->É ϓa
 |.lst xs=>À xs|.tup xs=>À xs|_=>Å
def Tg(a b:FE):FA:=λσ=>(Ôa).bind λx=>(Ŷd).bind λy=>(Bq x).bind λc=>(Bq y).bind λd=>À (ûc ϱm c d)
section
variable{K:Ô}{G H:Hp}
def sL(h:Bq x=À xs)(r:zZ K G x u):∃t a vs,u=.ref a/\qx K t G a vs/\ê K G xs vs/\ë<=å:=by
 cases x<;>first|(cases h;done)|skip
 cases h;let{a,vs,rfl,c,b,l}:=r;show{Ã,a,vs,rfl,c,b,l};cases h;let{a,vs,rfl,c,b,l}:=r;show{Ä,a,vs,rfl,c,b,l}
def WH(s:yF H H')(h:qx K t H a vs):qx K t H' a vs:=by cases t;show ux s h;show tH s h
def w1k(s1:qx K t1 G a vs)(g:qx K t2 G b us)(h:ê K G xs vs)(j:ê K G ys us):kK K ſh G (ûc ϱm xs ys) where
 go:=λi e H d c f=>by rw[Ϸd]at f;let{v,e1,_}:=h.get (đ (show i<ë by omega));let{u,e2,_}:=šg (đ (show i<ů by omega));show{vs,us,v,u,WH Řd s1,WH Řd g,e1,e2}
 tm:=λi e H x z d c f y=>by let{p,l,rfl,k}:=y;let{v,u,e1,e2,rfl}:=k vs us (WH Řd s1) (WH Řd g);let{s,t,o}:=h.at e1;let{q,r,w}:=j.at e2;refine{ze e p Ćo,.tup [s,q],ġc c l,by rw[Ŷl,t,r],?_};let m:yF G (ze e p Ćo):=Ϛb (tF (c.free l) _);show{p,[v,u],rfl,ϴc yt,{v,_,rfl,Ľg m,{u,_,rfl,w.mono m,rfl}},Ăb (n:=2) Ò}
 Ϡ:=λi e H d c f=>by rw[Ϸd]at f;show{vs,us,WH Řd s1,WH Řd g,?_};rw[ϖc,Şa];omega
#print a
section
variable{X:Cx}{a b e o:Ö}{fa fb f:FE}{p pos:Pos}
def sn(z:Gl X ńa)(B:ð ńa=Å)(Q:SE X a fa)(A:SE X b fb)(o:Î Ēe q12)(d:Î Êp q12):SI X Đm Ϣg (Tg fa fb):=by
 let{t,u,k}:=(zD Q (zD A zP d) o).h;show{{_,(x0q z B {u} o d).h,λ{W H0 G H τ σ ds R} K c q=>?_}};let{x,w,c}:=zK c;let{y,I,c}:=zK c;let{Z,g,c}:=zK c;let{T,f,c}:=zK c;cases c;refine k K (ds:=Ïc) (by unfold zC;rw[w,I];rfl) λY U H1 i O=>?_
 let{v,r,rfl,F,{v2,P,rfl,e,C}}:=O;cases(show P=[]from C);let{J,L,l,rfl,m,s,l1}:=sL g F;let{N,E,j,rfl,n,S,l2}:=sL f e;show{L,E,l,j,J,N,rfl,WH i.gh m,WH i.gh n,q _ _ _ i ?_ (w1k m n s S)};rw[Ϸd];omega
abbrev FO:=zx->É (É Æ)
nonrec def kq:FO:=λ_=>À Å
nonrec def ku(f:FE):FO:=λσ=>(f σ).bind λd=>match d with
 |.int i=>À (À i)|_=>Å
def VP(xs:Á α)(lo hi:É Æ):Á α:=(ĳl).take Úl
def Mf(d:D)(lo hi:É Æ):É D:=match d with
 |.lst xs=>À (Β ìi)|.tup xs=>if Ś ë 0 lo=0/\Ś ë ë hi=ë then Å else À (.tup ìi)|.str z=>À (.str ŏn)|_=>Å
def kQ(a:FE)(lo hi:FO):FE:=λσ=>(Ôa).bind λd=>(lo σ).bind λl=>(hi σ).bind λh=>Mf d l h
structure SO(X:Cx)(e:É Ö)(f:FO):È where
 h:∃t,PO X e t/\∀{G0 H0 G H:Hp}{τ:zx}{σ:St}{d:É Æ}{Q:É Æ->Hp->È},zw X.K ò G0 H0 G H τ σ->f τ=À d->(∀G' H',zS G H G' H'->Q d H')->t σ H Q
def Ov:SO X Å kq:={{_,x00,λE a q=>by cases a;show q _ _ ϥb}}
def Ow(h:SE X e f):SO X (À e) (ku f):=by
 let{t,b,k}:=h.h;show{{_,x01 b,λ{l i G H τ σ d Q} E a q=>?_}};let{x,c,a}:=zK a;cases x<;>first|(cases a;done)|skip
 cases a;show k E c λv j g x r=>{_,r,q _ _ x}
def Reps.cut{K:Ô}{G:Hp}{ds:Á D}{vs:Á V}(r:ê K G ds vs)(lo hi:É Æ):ê K G (VP ds lo hi) (Xs vs lo hi):=by unfold VP Xs;rw[ϯ];show(Ϡj _).take _
def f8(xs:Á α)(lo hi:É Æ):(ìi).length<=ë:=by unfold VP;rw[åa,ŏa];show ý Ϸf Ĵa
def x1b(K:Ô):V->É Æ->É Æ->Hp->VK->È:=λx b a H Q=>rC K x b a H Q\/rE K x b a H Q\/rD x b a H Q
def x4k:YO X (x1b X.K):=x4l.or (x4n.or x4m)
def Os{lo hi:É Ö}{w fh:FO}{p2:Pos}(L:SE X a fa)(u:SO X lo w)(s:SO X hi fh):SE X (.Subscript a ċh pos) (kQ fa w fh):=by
 let{W,y,F}:=L.h;let{T,J,A}:=u.h;let{P,C,I}:=s.h;show{{_,y9b x4k y J C,λ{S U G H τ σ d Q} E b q=>?_}};let{x,B,b}:=zK b;let{l,u,b}:=zK b;let{h,s,b}:=zK b;show F E B λv O Y r K=>A (âa r) u λN H2 n=>I ((âa r).go n) s λZ R e=>?_
 let t:=r.trans (Ŏj e);let m:=K.mono (n.g.trans e.g);cases x with
 |lst xs=>cases b;let{a,o,rfl,k,j,f}:=m;refine .inl {a,o,rfl,ux e.gh k,λp i=>q _ _ _ (t.trans Ðo) {p,_,rfl,ŧa yt,(ůo).mono Ņn,ý (f8 ..) f}}
 |tup xs=>
  change (if Ś ë 0 l=0/\Ś ë ë h=ë then Å else À (ό (VP xs l h)))=À d at b
  by_cases c:Ś ë 0 l=0/\Ś ë ë h=ë;rw[ßq];rw[Þq];let{a,o,rfl,k,j,f}:=m;refine .inr (.inl {a,o,rfl,tH e.gh k,by rw[Şa];show c,λp i=>?_});show q _ _ _ (t.trans Ðo) {p,_,rfl,ϴc yt,(ůo).mono Ņn,ý (f8 ..) f}
 |str z=>cases b;let{rfl,f}:=m;show .inr (.inr {z,rfl,f,q _ _ _ t {rfl,ý (Ŕe ..) f}})
 |_=>cases b
nonrec def VT:Á D->É D
 | [.lst xs]=>À ϧ| [.tup xs]=>À ϧ|_=>Å
nonrec def IT:Á D->É D
 | [.lst xs]=>À Śa| [.tup xs]=>À Śa|_=>Å
def py{K:Ô}{G:Hp}{d:D}{vs:Á V}(r:ê K G [d] vs):∃v,vs=[v]/\zZ K G d v:=by let{v,a,rfl,c,b}:=r;cases(show a=[]from b);show{v,rfl,c}
def SC{fs:FA}(u:Gl X Ī)(w:ð Ī=Å)(x:SA X [e] fs)(s:Î Ĉa q12):SF X (ηb Ϯn) (eL VT fs):=by
 let{t,n,k}:=x.h;refine{{_,(U1 z59 u w ML {n} Ò Ò (by rw[Ź,s];rfl)).h,λ{C z G H τ σ d Q} E c q=>?_}};let{r,o,c}:=zK c;show k E o λy B A b m=>?_
 match r,c with
 | [.lst xs],c=>cases c;let{v,rfl,a,g,rfl,j,i,l}:=py m;show{a,g,rfl,.inl (ux b.gh j),λp f=>q p _ _ ģm (þj f) ϣn {g,yt,i,l}}
 | [.tup xs],c=>cases c;let{v,rfl,a,g,rfl,j,i,l}:=py m;show{a,g,rfl,.inr (tH b.gh j),λp f=>q p _ _ ģm (þj f) ϣn {g,yt,i,l}}
def nA{K:Ô}:dI K (Ιd ((yZ K H p ys/\∀l,H l=Å->Q Ŧb Ûo)\/(xR K H p ys/\Q Ŷ H))) IT:=λG H h i d Q s r b q=>by
 match h,b with
 | [.lst xs],b=>cases b;let{v,rfl,a,c,rfl,e,f,l}:=py r;show{a,c,rfl,.inl {ux s e,λp g=>q _ _ _ (ġc s g) {p,c,rfl,ϴc yt,f.mono (tF (s.free g) _),l}}}
 | [.tup xs],b=>cases b;let{v,rfl,a,c,rfl,e,f,l}:=py r;show{a,c,rfl,.inr {tH s e,q _ _ _ þa {a,c,rfl,e,f,l}}}
def Iy(x:D):Á D->Â->É Â
 | [],_=>Å|y::ys,n=>match xh y x with
  |Ã=>À n|Ä=>Iy x ys Ĝ
def z7b:D->D->É D
 |.lst ys,x=>match xw x&&ϡc xw with
  |Ã=>(Iy x ys 0).bind λn=>À ōd|Ä=>Å
 |_,_=>Å
theorem l5:∀{ys:Á D}{n m:Â},Iy x ys n=À m->∃j y,m=n+j/\ys[j]?=À y/\xh y x=Ã/\∀i z,i<j->ys[i]?=À z->xh z x=Ä
 | [],_,_,h=>by cases h|y::ys,n,m,h=>by
  change (match xh y x with|Ã=>À n|Ä=>Iy x ys Ĝ)=À m at h
  cases c:xh y x with
  |Ã=>rw[c]at h;cases h;show{0,y,rfl,rfl,c,λi z a=>Þ a ëd}|Ä=>
   rw[c]at h;let{j,f,e1,e2,e,d}:=l5 h;refine{j+1,f,by omega,by simpa using e2,e,λi z a b=>?_};cases i with
   |ň=>cases b;show c|Ŝ i=>show d i z Ê łh
def z02(r:M1 X op ti)(I:tu X.K ti F)(B:êa)(hi:X.N[i]?=À x)(j:qR ϻ x)(z:SE X e f)(b:Î Ŭa q7) :SS X (.AugAssign Òe op e pos) (zm i (e2 F Âk f)):=by let{t,l,k}:=z.h;show{{_,n_ B hi j l r b,λ{R P G H τ σ O E} K b q=>?_}};let{d,a,b}:=zK b;cases b;let{x,j,a}:=zK a;let{y,m,a}:=zK a;let{v,A,J}:=K.fr _ _ (GW j);show{v,A,k K m λu p n c o=>I p n x y v u d _ ĸc (J.mono c.g) o a λw L Q C s=>?_};show q _ _ _ (((Öa c).go C).set îb.1 s)
def NM{K:Ô}:tu K ôn Ĩf:=λG H x y u v d Q s b c a q=>by
 cases x<;>first|(cases a;done)|skip
 cases y<;>first|(cases a;done)|skip
 rw[Ăq]
def x5b(l:êa)(hi:X.N[i]?=À x)(c:qR ϻ x)(j:SE X e f)(g:Î ſg q12)(a:Î Ŭa q7):SS X Ľc (zm i f):=by let{t,p,k}:=j.h;show{{_,(x0r l hi c {p} g a).h,λ{u o G H τ σ m E} K a q=>?_}};rw[ïq];show k K b λv s n x r=>q _ _ _ Ϣl
variable{x:Ç}{ps:Á Ç}{j k:Â}{FF:Á D->É ä}
def x3n(h:v8 ö X.w X.K ð ŀ x ps k Će)(e:ym j X.A)(z:Gl X x)(hk:Î Åb q10)(c:Î ō q10):SE X Ϟl (zf FF zE):=by
 let{f,C,B,t,b,F}:=h;show{{_,y8t F (e.mono hk) z B t b .nil Ys c,λ{L J G H τ σ d Q} E a q=>?_}};let{I,n,a}:=zK a;cases n;obtain⟨⟨o,d⟩,e,a⟩:=zK a;cases a;show{G,[],o,d,źa,rfl,e,?_};cases o with
 |Ä=>show λv m l g r=>q v m l g r|Ã=>intro p m l g y i o;let{u,s,r}:=o.yj i;show q _ _ _ (g.yj y i s) r
#print a
def FR(n N:Â)(b:FS)(ds:Á D):É ä:=if þ=n then yJ N b ds else Å
def yQ:∀ds r,FR n N b ds=À r->þ=n/\yJ N b ds=À r:=λds r h=>by
 unfold FR at h
 rw[Ůq]
theorem z0t{M:ſd}{A:ù}{E:Value->Í->È}{z6:Ú Value}{x:Value}{e:Value->Ð}{j:Â}(g:∃ă w,M=model ă w)(k:j<ņ)(a:e z6[j]=Ã)(d:∀m (l:m<ņ),m<j->e z6[m]=Ä){s:Í}(f:∀y∈z6,ŝb A s y x (e y)){Q:É ϵi×ña->Í->È}(h:Q (À (.done ďm),()) { s with Ė:=ĕ+1 }):∀m i:Â,i+m=ņ->i<=j->
  Ù M A (Ĵb (àm i m) ((Å,()):É ϵi×ña) λ(i:Â) (_:É ϵi×ña)=>match z6[i]? with
   |À y=>do
    let ϭf <-eqBool y x
    if ϭf=Ã then do
      let ϭf <-retInt (i:Æ)
      pure (ForInStep.done (À ϭf,()))
     else pure ĳn
   |_=>pure ĳn) Q E s
 |0,i,h1,h2=>by omega|m+1,i,h1,h2=>by
  let{ă,w,rfl}:=g;let b:i<ņ:=by omega
  rw[ϥm,ϔh];show Ó ?_;rw[Łc b];show Ó (f _ (Array.getElem_mem b) ă w E _ ?_);by_cases c:i=j;subst c;rw[a,Ï rfl]
  wp_walk
  show h;rw[d i b Ê,Ñ Ò];show ó ?_;show z0t {ă,w,rfl} k a d f h m í Ê Ê
def x7v(t:Ë)(z6:Ú Value)(x:Value)(e:Value->Ð)(j:Â)(l:j<ņ)(b:e z6[j]=Ã)(f:∀m (z:m<ņ),m<j->e z6[m]=Ä) :Meets (Builtin.«tuple.index» {[.ref t,x],[]}) (λA R s=>Ķb â t z6/\(∀y∈z6,ŝb Ìb s y x (e y))/\R (.ok ďm) { s with Ė:=ĕ+1 }):=by
 intro a w A R s h;let{u,g,d,p,q}:=s;obtain⟨⟨o,v,r,n,c⟩,k,h⟩:=h;unfold Builtin.«tuple.index»
 wp_walk
 skip
 rw[c];show ó ûa;exact Ù _ _ (pure 0 >>= _) _ _ _;show Ó (χ Ëj);rw[Std.Legacy.Range.forIn_eq_forIn_range'];let i:Ųl [0:min ņ ņ]=ņ:=by simp[Ųl]
 rw[i];show z0t {a,w,rfl} l b f k ?_ ņ 0 Ê Ê;show ó h
section
variable{X:Cx}{e o k v:Ö}{f fo fk fv:FE}{x:Ç}{xp p Èa Ϭ:Pos}
def y39:TF X "tuple.index" (λx vs H Q=>∃(a:Ë) (us:Á V) (y:V) (j:Â) (u:V),x=.ref a/\vs=[y]/\xR X.K H a us/\jt y=Ã/\us.all jt=Ã/\us[j]?=À u/\jI u y=Ã/\(∀i z,i<j->us[i]?=À z->jI z y=Ä)/\Q Řn H):=by
 intro Y s σ H x xs v U Q I O R h;let{a,us,y,j,u,rfl,rfl,J,W,B,C,n,G,q}:=h;cases O;let{w,rfl,L}:=qL R;let{b,r,o,Z}:=àa J;let E:=ϯ;let P:j<éa:=(ĵ C).1
 let d:∀(i:Â)(z:V)(g:i<Ĝb),us[i]?=À z->qY y ëb[i]=jI z y:=λi z g p=>by
  let{t,A,S}:=Éb p
  let e:ëb[i]=t:=by let T:b[i]?=À b[i]:=đ (by rw[ĭ]at g;show g);rw[T]at A;simpa using A
  rw[e];show Gb S (ãa B z (Ϸ p))
 have c:j<Ĝb:=by rw[ĭ,<-E];show P
 refine Ŕc Ĭl o.typeIs PySem.F.entry_tuple_index (PySem.F.args_tuple_index_2 _ _) (x7v a ëb w (qY y) j c (by rw[d j u c C];show n) λm k l=>?_) {o,λt N=>?_,{.int j,H,Óa _,{_,rfl},q}};have f:m<éa:=by rw[ĭ,<-E]at k;show k
 rw[d m us[m] k Ĥg];show G m _ l Ĥg;show To L W r B t (by simpa using N)
def CW(K:Ô)(A:Ë):È:=∃o,Ãa A=À o/\Êb=.type ώ/\Ŭe=Å
def hX(ds:Á D)(y:D):É D:=z7b ϸp y
def x3q(h:v7 ð x þg)(r:∀H,zZ X.K H àj þg)(Z:CW X.K A)(O:Gl X x)(he:SE X e f)(U:Î ō q10)(l:Î (Ėb ž "index" Û Łf=ĩ ž Û) q12)(k:Î Ŀb q12)(v:Î Ĉa q12) :SE X (νb (.Attribute ž "index" Èa)) (e1 (hX ds) f):=by
 let{te,N,R}:=(zD he zP v).h;refine{{_,(OV PySem.F.plainAttrs_tuple Ĭl PySem.F.type_tuple_index y39 (x0p h O U) {N} l k (by rw[Ź,v];rfl) Ϭd).h,λ{G0 H0 G H τ σ d Q} E b q=>?_}};let{y,Y,b}:=zK b;refine{.inr (.inl {rfl,Z}),R E (ds:=[y]) (by unfold zC;rw[Y];rfl) λws B H2 t r2=>?_};let{w,rfl,g}:=py r2;let{a,us,S,J,o,_}:=r B;cases S
 change (match xw y&&ds.all xw with|Ã=>(Iy y ds 0).bind λn=>À (Ě n)|Ä=>Å)=À d at b
 cases c:(xw y&&ds.all xw)with
 |Ä=>rw[c]at b;cases b|Ã=>
  rw[c]at b;let{n,P,b}:=zK b;cases b;rw[Đ]at c;let{j,z,e1,e2,T,W}:=l5 P;rw[ĸ]at e1;subst e1;let{u,eu,L}:=o.get e2;let p:∀{i:Â}{z:D},ds[i]?=À z->xw z=Ã:=λ{i z} m=>ãa c.2 z ůj
  refine{A,us,w,n,u,rfl,rfl,tH t.gh J,U2 c.1 g,(Bh c.1 g o c.2).1,eu,by rw[Oa (p e2) c.1 L g];show T,λi z C m=>?_,q _ _ _ t rfl};let{dz,s,I}:=o.at m;rw[Oa (p s) c.1 I g];show W i dz C s
def x3p(O:ŗa+1<Ϛ)(K:SE X o fo)(hk:SE X k fk)(hv:SE X v fv)(m:M2 X o "get" Èa k v Ϭ):SE X (.Call Ľl [k,v] [] Ϭ) (GV fo fk fv):=by
 let{to,Y,T}:=K.h;let{tk,I,J}:=Äd;let{tv,C,S}:=Ãd;show{{_,y90 O Y I C m,λ{G0 H0 G H τ σ d Q} E b q=>?_}};let{x,F,b}:=zK b;show T E F λw G1 H1 f U=>?_
 cases x with
 |dic ks ds=>
  let{y,R,b}:=zK b;let{z,N,b}:=zK b;let{e,i,b}:=zK b;cases b;let{a,P,rfl,t,l,B,_}:=U;show{a,rfl,.inl {_,Âc f.gh t},J (âa f) R λu Z H2 j W=>S ((âa f).go j) N λw' G3 H3 n L=>?_};show{pG (ŀg P) e,.inl {_,e,Âc (f.gh.trans (j.h.trans n.h)) t,Yg i W,rfl},?_};rw[UQ e l];let r:=ŋg (j.g.trans n.g);cases c:ĉ ks ds e with
  |Å=>rw[c]at q;rw[iG (by rw[Ąj]) c];show q _ _ _ Žm L|À d'=>rw[c]at q;let{z',p,s}:=r.getK c;rw[p];show q _ _ _ Žm s
 |_=>cases b
nonrec def vW(i:Æ):Â:=Ϻd i
def Go:D->D->É D:=fI (λi j=>decide (vW i+vW j<=134217728)) (·*·)
def y85:xG X ŉi Śk:=T_ λi j _ _ _ _ _ b q=>mul_int q (by unfold IntMulOk;intro h;rw[Đ]at h;let a:decide (((Ϻd i+Ϻd j:Â):Æ)>(134217728:Â))=Ã:=h.2;let d:=ţ a;let c:Ϻd i+Ϻd j<=134217728:=b;omega)
def y6z{K:Ô}:tu K Śk Go:=Vw λ_ _ h=>ţ h
#print a
open Ŕj
theorem z1m:∀{ns:Á Æ}{m:Æ},m∈ns->vW m<=ād ŉc
 | [],_,h=>by cases h|n::ns,m,h=>by
  let e:ād ((Ĭg).map Ϯi)=vW n+1+ād ŉc:=by exact ād (Ϯi n::ϣ Ϯi)=_;rw[ād];rfl
  rw[e];rcases Ğ h with rfl|h;omega;let:=z1m h;omega
def y22{ns:Á Æ}(h:WData.layableAll [.list ŉc]=Ã):∀m∈ns,vW m<=1048576:=λm b=>by
 let a:ūn œi=Ã:=ãa h _ żg;unfold ūn at a;rw[Đ]at a;let c:ċi œi<=2 ^ 20:=ţ a.2;let d:=z1m b;let e:ċi œi=ād ŉc:=by rw[ċi]
 omega
section
variable{K:Ô}
def Ox(K:Ô):Sp:=λb H Q _=>∃(a:Ë) (ns:Á Æ),b=Ϯ/\yZ K H a Ϯa/\ť<=63/\(∀m∈ns,vW m<=1048576)/\∀H',Q Ķ H'
#print a
def walkB{l:ϲi}{n k:Â}{q:ï}{i:Á Ç}{XP:ŵh->Heap->È}{N:æ->Heap->È}{d:DefRec}{K:ņg->Ô}{sp:Ô->Sp}{x:Ç}(hn:ϣj=À n)(L:n<=å)(J:Ŗm=[])(hr:ym k œd)(hY:∀(w:æ)(h:Heap),N w h->(ŕb).In h)(F:∀(w:æ)(j:Ç->É Value)(C:Ë)(h:Heap),(ŕb).In h->īa ġ j->j d.name=À Ū->
   ∃fd:Ň,(∀(s:Í)(u:Value),Įb s fd {[u],[]} [(x,u)])/\∀Ì:Heap,(ŕb).In Ì->Ŕd ġ j->xg ł w ŕb j Ì xT k C fd [x] (sp ŕb))
  (E:∀(K:Ô)(H:Hp)(a:Ë)(ns:Á Æ),ť<=n->(∀m∈ns,vW m<=1048576)->yZ K H a Ϯa->sp K Ϯ H Ĩm λ_ _ _=>Ā) :
  W.WalkO q i XP N ąi d [] Ęl:=by
 intro w s0 s1 j mb A Y C o pm cd doc dV kV ho hd hcd Q G X O P as B t Z I hlo;let e1:dV=.none:=Dflts.none Q J;let e2:kV=.none:=Dflts.noKw Q;subst e1 e2;let{a,vs,ns,rfl,rfl,p,e,c}:=Att.script_of hn B I;let R:=hY w _ Y;let{fd,hb,hF}:=F w j C _ R A.T.g G;let y:=y1z R A.T.g A.T.b A.T.builtins A.T.nolimit X p e (ý c L) hr hF hb (λH _ hS=>E _ H a ns c (y22 t) hS) (λ_ _ _ z=>z);show enter_call (îd y λr s' S=>?_);let{rfl,h2,h3,U}:=S;show{.inl {.bool Ã,.bool Ã,[],rfl,λ_=>rfl,.bool Ã,Att.post_true l _,λ_=>?_},h2,h3,U};show{ĉf,λ_ hm=>nomatch hm}
#print L3
namespace L3
open Ł Ş Ŋ L2
def z7g{ă:ï}{w:æ}{A:ù}{E:Value->Í->È}{s:Í}{a:Ë}{o:Obj}{xs:Ú Value}{k:Â}{Ĵ:Ç}{Q:É Value->Í->È}(r:ø a=À o)(q:Êb=.type Ī)(f:ϵ=.seq xs k)(n:Ŭe=Å)(i:ϔo Ěa Ĵ=pure Å)(j:(["__module__",Ši,"__qualname__","__doc__","__annotations__"]:Á Ç).contains Ĵ=Ä)(z:Ċa=Å)(h:∀h' tk,(∀b ob,ø b=À ob->č b=À ob)->Q Å { s with ç:=h',Ė:=tk })(hsz:name.length+100<=å) :Ù è A (getAttr? (.ref a) Ĵ) Q E s:=by
 let{c,x,u,t}:=o;simp only at q f n;subst q f n;let{y,g,d,tk,v}:=s;let p:∀m,({y,g,d,m,v}:Í).TypeIs Ŗ Ī:=λ_=>{_,r,rfl}
 let K:=sub_AttributeError;let H:=PySem.F.slot_list_getattribute.lookup;let C:=PySem.F.slot_list_getattribute.bind Ŗ;let B:=am_list_getattr_none;unfold getAttr? getAttrBy? getAttrBy
 repeat (any_goals (first|assumption|show p _|((with_reducible exact Ù _ _ (Ļb (Value.builtin "list.__getattribute__") _ _) _ _ _);show Ŕc PySem.F.slot_list_getattribute (p _) am_entry_list_getattribute (F.args_list_getattribute_2 _ _) (meets_getattribute_miss_list a xs k t Ĵ _ i j hsz) ⟨r,z,λh' m e l=>?_⟩)|wp_step))
 let{I,G,J}:=l.there;exact Ù _ _ (Ęm _ _ _ _ _ _ _) _ _ _;unfold Ęm
 repeat (any_goals (first|assumption|wp_step))
 show h _ _ l.keeps
def BU:plainId ĕm=Ã:=by rw[Îq]
def fX:Üg Şg ĕm=À Builtin.«dict.update.loop»:=entryFor_of_fast ōb
def _root_.PySem.Heap.DictOf.Fd{ă:ï}{w:æ}{h h':Heap}{a:Ë}{kvs:Á œa}(b:Ķe ùa a kvs)(k:∀o,Ģ a=À o->č a=À o):Ϩf ùa a kvs:=
 let ⟨o',es,ep,ho,r⟩:=b;{o',es,ep,k _ ho,r}
def x5l(kvs:Á œa)(k:zY)(v:Value):(ĥc kvs k v).length<=ŋ+1:=by
 unfold ĥc
 split;rw[ã];rw[āq]
def CS(h:Heap)(v:Value)(k:zY)(x:Value):È:=∃b key,v=.ref b/\qE k key=Ã/\Ķb h b #[key,x]
theorem z12{ă:ï}{w:æ}{A:ù}{R:Űd->Í->È}{d it l:Ë}{its:Á Value}(hA:Ċa=Å)(J:d≠l)(B:d≠it)(H:l≠it) :∀(kvs:Á œa) (i:Â) (acc:Á œa) (s:Í),ŕm it l i->Öi l Ϥ->i+ŋ=ϱa->(∀j kv,kvs[j]?=À kv->∃v,its[i+j]?=À v/\CS â v kv.1 kv.2)->
   s.heap.DictOf ùa d acc->Ϣo+ŋ<=å->(∀h' tk,Ϩf ùa d (ďp (λa kv=>ĥc a kv.1 kv.2) acc)->(∀b o,b≠d->b≠it->ø b=À o->č b=À o)->R ϴp { s with ç:=h',Ė:=tk })->
   Ù è Ìb (Builtin.«dict.update.loop» {[.ref d,.ref it,ϑ i,.none],[]}) (λfin s'=>match fin with|.done f=>R (.ok f) s'|.again c'=>c'.quiet=Ã/\ĭb è A c' R s') (λe s'=>R (.error e) s') s
 | [],i,acc,s,st,hl,hn,hp,hd,hz,h=>by unfold Builtin.«dict.update.loop»;refine Ó (Çh (by show hA) st hl ğl λh' eb=>?_);exact Ù _ _ (Builtin.Dict.addKeywords d [] >>= _) _ _ _;show Ó Ìj;show h h' ĕ (hd.Fd λo e=>eb d o B e) (λb o _ hb e=>eb b o hb e)|kv::kvs,i,acc,s,st,hl,hn,hp,hd,hz,h=>by
  let{v,hv,b,key,rfl,hk,ht}:=hp 0 kv rfl;unfold Builtin.«dict.update.loop»;refine Ó (Áh st hl (x:=.ref b) ĩh λh1 U sb=>?_);let m:∀c o,c≠it->ø c=À o->Őj c=À o:=λc o L e=>(sb.2 c L).trans e
  let p:∀{c:Ë}{y:Ú Value},Ķb â c y->c≠it:=λ{c y} t e=>by subst e;let{o,e1,Q,_}:=t;let{o',e2,N,_}:=st;rw[e1]at e2;cases e2;rw[Q]at N;show Þ (Ģn N) Ò
  let G:∀{c:Ë}{y:Ú Value},Ķb â c y->c≠d:=λ{c y} t e=>by subst e;let{o,e1,Q,_}:=t;let{o',es,ep,e2,N,_}:=hd;rw[e1]at e2;cases e2;let c3:=N.1;rw[Q]at c3;show Þ (Ģn c3) Ò
  let{o,ho,L,n,C}:=ht;let K:=m b o (p {o,ho,L,n,C}) ho;let W:h1.DictOf ùa d acc:=hd.Fd λo e=>m d o B e
  show Ó (Ϣa (Ó (wpAny_tryCatch ?_)));unfold Builtin.Dict.pairItems;show Ó (íd (T := ώ) {o,K,L} ?_);rw[Ï õg];show Ó (Đb K C ûa);show Ϣa (wpAny_dictSet_pairs (knd:=xi ă w) (k:=kv.1) hk W (λh2 X E=>?_) Ê);show ó {ϵd BU _,ßc fX ?_};rw[Öd BU _];let g:∀c o,c≠d->c≠it->ø c=À o->h2.get? c=À o:=λc o u q e=>(E.2 c u).trans (m c o q e)
  let I:∀{c:Ë}{y:Ú Value},Ķb â c y->Ķb h2 c y:=λ{c y} t=>by let a1:=G t;let a2:=p t;let{o,e1,r}:=t;show{o,g c o a1 a2 e1,r}
  show z12 (its:=its) hA J B H kvs í (ĥc acc kv.1 kv.2) _ ?_ ?_ (by rw[Ć]at hn;omega) (λj Y e=>?_) X ?_ λh' tk Z kp=>?_;show U.at λo e=>(E.2 it (λz=>B įb)).trans e;let{o,e,r}:=hl;show{o,g l o (λz=>J įb) H e,r};let{v',O,b',F,rfl,S,P}:=hp ϫ Y ōa;show{_,by rw[show i+1+j=i+ϫ by omega];show O,b',F,rfl,S,I P};let:=x5l acc kv.1 kv.2;rw[Ć]at hz;omega;show h h' tk Z λc o u q e=>kp c o u q (g c o u q e)
def z53{ă:ï}{w:æ}{A:ù}{E:Value->Í->È}{s:Í}{l:Ë}{o:Obj}{its:Á Value}{n:Â}{kvs:Á œa}{Q:Value->Í->È}(N:Ċa=Å)(C:ø l=À o)(x:Êb=.type Ī)(B:Ŭe=Å)(f:ϵ=.seq Ϥ n)(S:ŋ=ϱa)(R:∀(j:Â)(g:zY×Value),kvs[j]?=À g->∃v,its[j]?=À v/\CS â v g.1 g.2)(hz:ŋ<=å)(h:∀h' tk,Ϩf ùa Ý (ďp (λa g=>ĥc a g.1 g.2) [])->(∀b o,ø b=À o->č b=À o)->Q Ğa { s with ç:=h',Ė:=tk }) :Ù è A (Ļb ąc ąj) Q E s:=by
 show callType_codes (Q₁:=λu O=>u=.ref Ý/\O={ s with ç:=Üa { cls:=.type Ña,Ċ:=.dict #[] } }) F.kt_called_dict (F.kt_typeCall_dict_1 _) F.entry_dict_init (kt_code_dict_new _ {rfl,rfl}) ?_;rintro u O ⟨rfl,rfl⟩;let d:(Ũk).DictOf ùa Ý []:=Ún â;show{Ýg,F.args_dict_init_2 _ _,?_};unfold Builtin.«dict.__init__»;show Ó ?_;unfold Builtin.Dict.selfAndRest;show Ó (wpAny_notOrdered_dict Ýg ?_);exact Ù _ _ (pure (Ý,[ę l])) _ _ _;show ó ?_;exact Ù _ _ (Ňl "dict.__init__" Ý Ŧb [] .none) _ _ _;unfold Ňl;let t:=Ĥ C;let k:(Ũk).get? l=À o:=ě _ C;show Ó (íd (T := Ī) {o,k,x} ?_);rw[Ï õg];refine Ó (z7g (o:=o) k x f B (am_miss_of_fast ōb) Ò Ŵo (λp H m=>?_) Ò);rw[Ï õg];let q:p.DictOf ùa Ý []:=d.Fd λo e=>m _ _ e
 let z:p.get? l=À o:=m _ _ k;let J:p.IsList l Ϥ:={o,z,x,n,f}
 let c:Ý<p.objs.size:=by let{K,_,_,e,_}:=q;show Ĥ e
 exact Ù _ _ (pure () >>= _) _ _ _;show Ó Ëj;show Ýd (s:={ s with ç:=p,Ė:=H }) J ?_;show ó {ϵd BU _,ßc fX ?_};rw[Öd BU _];let G:∀b i,ø b=À i->(p.push { cls:=.type όh,Ċ:=.fields #[.ref l,.int 0 0] }).get? b=À i:=λb i e=>ě _ (m b i ĳd)
 refine z12 (l:=l) (its:=its) (A:=Ìb) Ŵo (xj (Œa t)) (xj ğg) (xj (Ϟ (Ōf t c))) kvs 0 [] _ {_,Ÿ _ rfl,rfl,rfl} {o,G l o C,x,n,f} (by rw[ĸ];show S) (λj g e=>?_) (q.push _) ām λh' tk I P=>?_;let{v,W,b,y,rfl,U,K,e1,r}:=R j g e;show{_,by rw[ĸ];show W,b,y,rfl,U,K,G b K e1,r};show{rfl,h h' tk I λb i e=>?_};let L:=Ĥ e;show P b i (xj (Ϟ L)) (xj (Ϟ (Ōf L c))) (G b i e)
section
variable{X:Cx}
theorem nN{k:Á õ}{σ:St}{H:Hp}{s:Í}(I:Inv X k σ H s):∀{kvs:Á Æa} {vs:Á V} {its:Á Value},zo vs its->ŋ=ē->(∀(j:Â)(kv:zY×V),kvs[j]?=À kv->∃b,vs[j]?=À (ϛa b)/\xR X.K H b Ϸh)->
  ∃ws:Á œa,KV kvs ws/\∀(j:Â)(kw:zY×Value),ws[j]?=À kw->∃v,its[j]?=À v/\CS â v kw.1 kw.2
 | [],_,_,_,_,_=>{[],.nil,λj kw e=>by cases e}|kv::kvs,[],_,_,h,_=>by cases h|kv::kvs,_::vs,_::its,.cons r t,h,hp=>by
  let{ws,rk,m}:=nN I t Ća λj d e=>by let{b,e1,q}:=hp ϫ d ōa;show{b,by simpa using e1,q}
  let{b,e1,g}:=hp 0 kv rfl;cases e1;let{n,i,f,_}:=àa g;let{c,x,rfl,a,l}:=A0 i;show{(kv.1,x)::ws,.cons {rfl,l} rk,λj kw e=>?_};cases j with
  |ň=>cases e;show{_,rfl,b,c,r,Zi (P:=ö) (w:=X.w) a,f}|Ŝ j=>let{v,e2,q}:=m j kw ōa;show{v,by simpa using e2,q}
def x0x(K:Ô):Á V->Hp->VK->È:=λc H Q=>∃a vs kvs,c=Ϯ/\yZ K H a vs/\ŋ=ē/\(∀(j:Â)(kv:zY×V),kvs[j]?=À kv->∃b,vs[j]?=À (.ref b)/\xR K H b Ϸh)/\∀p,H p=Å->Q Ŷ (Ψ (.dK (Yp [] kvs)))
def z52(c:ŷ=Ã):vg X ąc (x0x X.K):=by
 intro F s σ H J L Q I r h;let{a,G,b,rfl,l,k,t,q}:=h;rw[ëq];let{g,j,{o,n,v,C,f,e},x}:=ϙ l;let{y,rk,z}:=nN I j k t;have d:Įe=Ča:=by rw[<-rk.length,k,Şa]
 refine z53 (ģa c) v C f e d z (by rw[d,<-Şa];show x) λN A E m=>?_
 let i:(ϥp).length<=å:=by let B:=lz b [];rw[śc]at B;omega
 let w:ϸo=Ä:=by let:=I.big;rw[õf];show xj ϳo
 show{.ref Ý,_,ϖa (a:=Ý) (o:=.dK ϥp) (t':=A) m Ď (GR i w (rk.merge .nil) E),rfl,q _ Ϟc}
#print a
def Zk:Á D->É (Á ľ×Á D)
 | []=>À ([],[])|.tup [k,v]::r=>(ua k).bind λk=>(Zk r).bind λp=>À (k::p.1,v::p.2)|_=>Å
def wL{α:Type}:Á ľ->Á α->Á ľ->Á α->Á ľ×Á α
 |ks,ds,k::r,v::q=>wL Ħe (wG ks ds k v) r q|ks,ds,_,_=>(ks,ds)
def YX:Á D->É D
 | [.lst xs]=>(Zk xs).bind λp=>À (.dic ķm.1 ķm.2)|_=>Å
theorem oO:∀{ks:Á zY}{us:Á V}{as:Á zY}{vs:Á V},Ō=éa->Ϭf=ē->Yp Ŷo će=ŗc.1.zip ŗc.2/\ŗc.1.length=ŗc.2.length
 | [],[],as,vs,_,h=>{rfl,h}|k::ks,u::us,as,vs,h1,h2=>by let a:=oO (ks:=ks) (us:=us) (as:=wE as k) (vs:=wG as vs k u) ûf (W9 h2);show{?_,a.2};exact Yp (qG Ŷo k u) će=_;rw[Ab h2];show a.1
theorem oN{K:Ô}{G:Hp}:∀{ks:Á zY}{es:Á D}{us:Á V}{as:Á zY}{ds:Á D}{vs:Á V},ê K G es us->ê K G ds vs->Ō=éa->Ϭf=ē->ê K G Ÿh.2 ŗc.2/\Ÿh.1=ŗc.1
 | [],es,us,as,ds,vs,r1,r2,h1,h2=>by
  let e1:wL as ds [] es=(as,ds):=by unfold wL;rfl
  let e2:wL as vs [] us=(as,vs):=by unfold wL;rfl
  rw[e1,e2];show{r2,rfl}
 |k::ks,es,[],as,ds,vs,r1,r2,h1,h2=>by cases h1|k::ks,[],u::us,as,ds,vs,r1,r2,h1,h2=>by cases(show _=[]from r1)|k::ks,e::es,_::_,as,ds,vs,r1,r2,h1,h2=>by let{v,r,a,c,b}:=r1;cases a;show oN (ks:=ks) (es:=es) (as:=wE as k) b (r2.put c) ûf (W9 h2)
theorem oK{α:Type}:∀{ks:Á zY}{es:Á α}{as:Á zY}{ds:Á α},Ϭf=þ->Ÿh.2.length<=þ+ęp
 | [],es,as,ds,_=>by
  let e:wL as ds [] es=(as,ds):=by unfold wL;rfl
  rw[e];show įa _ _
 |_::_,[],as,ds,_=>by
  let e:∀k ks,wL as ds (k::ks) ([]:Á α)=(as,ds):=λ_ _=>by unfold wL;rfl
  rw[e];show įa _ _
 |k::ks,e::es,as,ds,h=>by let a:=oK (ks:=ks) (es:=es) (as:=wE as k) (ds:=wG as ds k e) (W9 h);let:=Nj (ks:=as) (vs:=ds) (k:=k) (v:=e) h;exact(wL (wE as k) (wG as ds k e) ks es).2.length<=_;rw[Ć];omega
theorem lH{K:Ô}{G:Hp}:∀{xs:Á D}{vs:Á V}{ks:Á zY}{ds:Á D},Zk xs=À (ks,ds)->ê K G xs vs->∃us,ê K G ds us/\Ō=éa/\Ō=ē/\∀(j:Â)(kv:zY×V),će[j]?=À kv->∃b,vs[j]?=À (ϛa b)/\xR K G b Ϸh
 | [],_,_,_,h,r=>by cases h;rw[ĭq];show{[],rfl,rfl,rfl,λj kv e=>by cases e}|x::xs,_,ks,ds,h,r=>by
  let{v,A,rfl,q,o}:=r;unfold Zk at h
  rw[Ĉq];rename_i k y E e;cases e;let{i,n,h}:=zK h;obtain⟨⟨s,g⟩,u,h⟩:=zK h;cases h;let{us,f,z,t,p}:=lH u o;let{b,B,rfl,l,{C,_,rfl,a,{d,_,rfl,c,m}},_}:=q;cases(show _=[]from m);refine⟨d::us,{d,us,rfl,c,f},by rw[Ć,Ć,z],by rw[Ć,Ć,t],λj kv e=>?_⟩;cases j with
  |ň=>cases e;show{b,rfl,?_};rw[<-Yg n a];show l|Ŝ j=>let{w,e1,e2}:=p j kv ōa;show{w,by simpa using e1,e2}
  cases h
def Br{X:Cx}{e:Ö}{fs:FA}{p pos:Pos}(f:ŷ=Ã)(z:Gl X Ña)(A:ð Ña=Å)(hv:ϔ Ña=À ąc)(R:SA X [e] fs)(N:Î Ĉa q12):SF X æm (eL YX fs):=by
 let{t,w,k}:=R.h;refine{{_,(U1 (z52 f) z A hv {w} Ò Ò (by rw[Ź,N];rfl)).h,λ{T W G H τ σ d Q} E c q=>?_}};let{ds,C,c}:=zK c;show k E C λvs S O g P=>?_
 unfold YX at c
 split at c;rename_i U;obtain⟨⟨ks,es⟩,B,c⟩:=zK c;cases c;let{v,rfl,a,o,rfl,y,s,l}:=py P;let{us,n,i,u,F}:=lH B s;let{K,L}:=oO (ks:=ks) (us:=us) (as:=[]) (vs:=[]) i rfl;let{I,r}:=oN (ks:=ks) (as:=[]) (ds:=[]) (vs:=[]) n rfl i rfl;refine{a,o,ŀg us,rfl,ux g.gh y,by rw[óc,i,œb,<-i,u],λj J e=>?_,λp m=>?_};let{b,e1,e2}:=F j J e;show{b,e1,tH g.gh e2};show q p _ _ (g.trans (Ńa g.gh m)) (g.h.free m) (Ęp m) {Ϸm.2,?_,?_,I,?_};exact ze O p (.dK (Yp [] će)) p=À (.dK (Źh.1.zip Ϸm.2));rw[yt,r];show ķ (λx=>À (HO.dK x)) K;exact Źh.1.length=_;rw[r];show L;let:=oK (ks:=ks) (es:=es) (as:=[]) (ds:=[]) rfl;have e1:ęp=ęc:=by rw[<-Ľd,<-i,u]
 rw[Ęc]at e1;exact Źh.2.length<=å;simp only[śc,ĸ]at this;omega;cases c
open Ľa Builtin Ľo
section
variable{X:Cx}{e o a b c:Ö}{f fo:FE}{x:Ç}{xp p pos Èa Ϭ:Pos}
nonrec def UF:Á D->É (Á Ç)
 | []=>À []|.str z::r=>(UF r).bind λa=>À (z::a)|_=>Å
def Gj:D->D->É D
 |.str sep,.lst xs=>(UF xs).bind λa=>if(Ìc (·.length)).sum+ìa*ŵc<=yX then À (.str (glued sep a))else Å|_,_=>Å
theorem z0e{K:Ô}{G:Hp}:∀{xs:Á D}{vs:Á V}{ts:Á Ç},UF xs=À ts->ê K G xs vs->vs=Ĕc Ōg
 | [],_,_,h,r=>by cases h;show r|x::xs,_,ts,h,r=>by
  let{v,g,rfl,b,d}:=r;unfold UF at h
  rw[Ĉq];rename_i z f e;cases e;let{c,a,h}:=zK h;cases h;rw[Ļ,(show v=_/\_ from b).1,z0e a d];cases h
def x3s(s:SE X o fo)(K:SB X e f)(c:Î (Ėb o "join" Û ňi=ĩ o Û) q12)(b:Î Ŀb q12)(m:Î Ĉa q12) :SE X (νb (.Attribute o "join" Èa)) (e2 Gj fo f):=by
 let{U,L,C}:=s.h;let{P,r,t}:=(vy K uC m).h;refine{{_,(OV PySem.F.plainAttrs_str PySem.F.slot_str_join PySem.F.type_str_join y3a {L} {r} c b (by rw[Ź,m];rfl) Ϭd).h,λ{T Y G H τ σ d Q} E a q=>?_}};let{x,p,a}:=zK a;let{y,A,a}:=zK a;show C E p λv R Z k I=>?_
 cases x with
 |str sep=>
  let{rfl,l1}:=I;refine{rfl,t (âa k) (ds:=[y]) (by unfold zC;rw[A];rfl) λS O H2 u J=>?_};let{w,rfl,j}:=py J;cases y with
  |lst xs=>
   let{g,i,a}:=zK a;let{B,W,rfl,n,z,_}:=j;let N:=z0e i z;subst N;by_cases cc:(g.map (·.length)).sum+Ča*ŵc<=yX;rw[Ï cc]at a;cases a;let l:(g.map (·.length)).sum+Ča*ŵc<=å:=by rw[Ů];show cc
   show{sep,B,g,rfl,rfl,n,l,q _ _ _ (k.trans u) {rfl,ý (iP sep g) l}};rw[Ñ cc]at a;cases a
  |_=>cases a
 |_=>cases a
def IE:ϔ Ña=À ąc:=by rw[Îq]
def g6(i:Â)(k v:FE):FS:=λσ=>(v σ).bind λy=>match σ[i]? with
 |À Àe=>(Ŗg).bind λx=>match x with
  |.int j=>(Űo).bind λn=>À (υb Ĥi)|_=>Å
 |_=>Å
theorem ág{K:Ô}{G:Hp}{d:D}{v:V}(hv:zZ K G d v):∀{ds:Á D}{vs:Á V}(n:Â),ê K G ds vs->ê K G (ϩj n d) (vs.set n v)
 | [],_,_,r=>by rw[ĭq];rfl|d'::ds,_,0,r=>by let{u,b,rfl,c,a}:=r;show{v,b,rfl,hv,a}
 |d'::ds,_,n+1,r=>by let{u,b,rfl,c,a}:=r;show{u,_,rfl,c,ág hv n a}
def L4(A:QE X ž ýb)(hk:SE X k fk)(hv:SE X v fv)(t:Î ϑf q12)(P:Î (Ói Àf v İd Û=pure Ä) q12)(C:Î (Ôi Àf v Û=pure Å) q12)(L:Î ((ýe Àf Û).map (·.2)=[Èc ŭl Û]) q12):SS X Ēm (g6 i fk fv):=by
 let{tk,r,s}:=Äd;let{Z,m,N}:=Ãd;show{{_,nv m (og A {r} sP t).h P C L,λ{Y H0 G H τ σ U E} K a q=>?_}};let{y,I,a}:=zK a;show N K I λw W H1 J Q=>?_
 rw[æq];rename_i ds e;let{o,p,a}:=zK a;cases o with
 |int j=>let{n,B,a}:=zK a;cases a;let c:=Öa J;let{O,d,g,z,F,S,f,l}:=c.ow _ _ e;show{_,d,s c p λu T H2 b R=>?_};cases(show u=_ from R);refine{O,F,j,n,rfl,rfl,b.h _ _ S,by rw[ϱb];show B,?_};show q _ _ _ ((c.go b).J6 e d {_,yt,ág (Q.mono b.g) n (f.mono b.g),by rw[Éa];show l})
 |_=>cases a
 cases a
nonrec def WB(j i:Â):FS:=λσ=>match σ[i]? with
 |À Àe=>(ds.getLast?).bind λd=>if j=i then Å else À (Εe (Ν (À (Ã,.lst ģo))))|_=>Å
theorem ůn{K:Ô}{G:Hp}{ds:Á D}{vs:Á V}(r:ê K G ds vs):ê K G ģo vs.dropLast:=by rw[ŷl,ŷl,ϯ];show r.take _
#print a
#print L3
namespace L2
open Ł Ş Ŋ
def CI(K:Ô)(a:Ë):It:=
  ⟨λi H=>∃xs x,yZ K H a xs/\xs[i]?=À x,
   λi H v b=>∃p,H p=Å/\v=.ref p/\∀xs,yZ K H a xs->∃x,xs[i]?=À x/\b=ze H p ϔf,
   λi H=>∃xs,yZ K H a xs/\ë<=i⟩
def x7y{P:ï}{w:æ}{K:Ô}{p:Á Ö}{R:Â}{pos:Pos}(a e it:Ë)(m:e≠it) :YQ P w K (.Tuple p R pos) Įj [e,it] e (λi h=>(∃old,IsEnum h e it (i:Æ) old)/\ći it a i) where
 mem:=by simp
 obj:=λi h st c b=>by obtain⟨⟨old,g⟩,⟨o2,j,_,d2⟩⟩:=st;simp only[ęa,ϝ,Ļa]at b;rcases b with rfl|rfl;show{_,g,λv q=>nomatch q};show{_,j,λv q=>by rw[d2]at q;cases q}
 Ũa:=λi h h' st k=>by obtain⟨⟨old,g⟩,j⟩:=st;show{{old,k e ô _ g},j.at λo x=>k it ô o x}
 ąb:=by
  rw[êq];let{xs,x,A,ex}:=S;rw[ϕq];let{B,F,G}:=J.get ex;let f:ϒo[i]?=À B:=by rw[âd];show F
  let n:e<Ý:=Ĥ g;let lt2:it<Ý:=by let{o,z,_}:=j;show Ĥ z
  show wpAny_pyNext_enum_item g j pl f m λh1 L t N hz1 Z=>?_
  show{_,rfl,wpAny_letOwnedTupleGo_enum (s:={ s with ç:=h1,Ė:=ĕ+1 }) L λC T d=>?_}
  replace d:ŷa e h1 C:=d
  let hTs:ø Ý=Å:=by
   cases q:ø Ý with
   |Å=>rfl|À o=>show Þ ġg Đa
  let l:H Ý=Å:=ğb Ď;let O:C.get? Ý=À { cls:=.type ώ,Ċ:=.seq #[.int i ĕ,B] }:=ĸe _ _ (Œa n) N
  let R:∀c o,c ∉ [e,it]->ø c=À o->C.get? c=À o:=λc o b z=>by simp only[ęa,ϝ,Ļa,ľg]at b;show ĸe _ _ b.1 (Z c o b.1 b.2 z)
  let U:xo ö X.w (ze H Ý ϔf) C Ý ϔf:={ĺl,[.int i ĕ,B],.cons {_,rfl} (.cons G .nil),{_,O,rfl,_,rfl}};show{.ref Ý,ze H Ý ϔf,I.bY (tk:=ĕ+1) y R hTs l U,rfl,{Ý,l,rfl,λxs' f=>?_},{{B,?_},t.at λo z=>ĸe _ _ m.symm z},λc b=>?_};rw[I.Ln f A];show{x,ex,rfl};rw[show((i+1:Â):Æ)=(i:Æ)+1 from rfl];show T;rw[yH];show(y c b).1;intro q
  let r:c<Ý:=by simp only[ęa,ϝ,Ļa]at b;rcases b with rfl|rfl;show n;show lt2
  rw[q]at r;show Þ r Đa
 done:=by
  rw[êq];let{xs,A,hend}:=S;rw[ϕq]
  let f:ϒo[i]?=Å:=by rw[âd];show Ùa (by let:=J.length;omega)
  refine wpAny_pyNext_enum_end (by show ģa b) g j pl f λh1 he1=>?_
  show{rfl,I.but (tk:=ĕ) y λc ob u eb=>?_};simp only[ęa,ϝ,Ļa,ľg]at u;show he1 c ob u.2 eb
 Ðc:=λ_ _ _ _ _ st h=>by obtain⟨⟨old,g⟩,_⟩:=st;show œm g h
section
variable{X:Cx}
def y04(K:Ô)(c:TA):TI:=λσ H R=>c σ H λd b=>∃a xs,d=Ϯ/\yZ K b a xs/\R Įj b
def y9l{a:Ö}{m:TA}{p pos:Pos}{d:Á Ö}{y:Â}{E:Pos}(A:Gl X ϕb)(B:ð ϕb=Å)(N:PA X [a] m)(G:Î ϸk q12) :PI X (.Tuple d y E) åm (y04 X.K m):=by
 intro i s σ H R I h;show Call_ (Tk I A B boot_enumerate (Åf (zy (N pos i s σ H _ I h) λL b ⟨O,l,f,J,t⟩=>?_) (by rw[G];rfl) rfl));let{o,P,rfl,w,q}:=t;let{u,rfl,x}:=qL J;cases(show u=ę o from x);let{L,_,F,_}:=f.list w;show call_enumerate_list F.isList λr g j C v=>?_
 let z:Inv X i σ l { b with ç:=r }:=f.kept (t':=b.toks) v;show œm (s:={ b with ç:=r }) g ?_;generalize hn:ϡm=n at g j C;refine{n+1,[n+1,n],_,_,l,rfl,z,x7y o Ĝ n (xj Ê),{{_,g},j},λc k=>?_,q}
 let e:ϡm<=c:=by rw[hn];simp only[ęa,ϝ,Ļa]at k;rcases k with rfl|rfl;show įa _ _;show Ĭ _
 show f.Wn e (ϝo e)
#print a
#print L2
namespace L3
open Ł Ş Ŋ L2
nonrec def p8(xs:Á D):Á D:=ûc (λ(i:Â) x=>ό ϧg) (ϡ ë) xs
def qD(a:FE):FA:=λσ=>(Ôa).bind λd=>match d with
 |.lst xs=>À īg|_=>Å
def kj(xs:Á D):(īg).length=ë:=by simp[p8]
theorem W4(xs:Á D)(i:Â):īg[i]?=(xs[i]?).map λx=>ό ϧg:=by unfold p8;rw[Ŷl];by_cases h:i<ë;rw[æc h,đ h];rfl;rw[Ùa Ća,Ùa Ê];rfl
section
variable{K:Ô}{G H:Hp}
def z75(s1:yZ K G a vs)(f:ê K G xs vs):kK K Įj G īg where
 go:=λi e H d b c=>by rw[kj]at c;let{v,e1,_}:=f.get (đ c);show{vs,v,ux ũj s1,e1}
 tm:=λi e H x o d b c y=>by let{p,g,rfl,k}:=y;let{v,e1,rfl}:=k vs (ux ũj s1);let{l,m,h}:=f.at e1;refine{ze e p æp,.tup [.int (i:Æ),l],ġc b g,by rw[W4,m];rfl,?_};let j:yF G (ze e p æp):=Ϛb (tF (b.free g) _);show{p,àl,rfl,ϴc yt,{_,_,rfl,rfl,{v,_,rfl,h.mono j,rfl}},Ăb (n:=2) Ò}
 Ϡ:=λi e H d b c=>by rw[kj]at c;show{vs,ux ũj s1,by rw[ϱb];show c}
#print a
def UB(s:Gl X ϕb)(u:ð ϕb=Å)(y:SE X a fa)(f:Î Ēe q12):SI X Đm åm (qD fa):=by
 let{t,i,k}:=(zD y zP f).h;show{{_,y9l s u i (qf f),λ{F B G H τ σ ds R} K b q=>?_}};let{x,n,b}:=zK b;cases x<;>first|(cases b;done)|skip
 cases b;rename_i m;refine k K (ds:=[.lst m]) (by unfold zC;rw[n];rfl) λA E C d o=>?_
 let{v,r,rfl,j,z}:=o;cases(show r=[]from z);let{l,c,rfl,e,g,w}:=j;show{l,c,rfl,ux d.gh e,q _ _ _ d (by rw[kj];show w) (z75 e g)}
#print L3
namespace L2
open Ł Ş Ľa Ŋ
nonrec def Ád(a:Æ):Á Æ->Á Æ
 | []=>[a]|b::r=>if a<=b then a::b::r else b::Ád a r
def Æb:Á Æ->Á Æ
 | []=>[]|a::r=>Ád a (Æb r)
theorem KZ(a:Æ):∀l:Á Æ,(Ļp).Perm (a::l)
 | []=>ľc _|b::r=>by
  unfold Ád
  split;show ľc _;show((KZ a r).cons b).trans (Ħn a b r)
theorem øc:∀l:Á Æ,(Æb l).Perm l
 | []=>ľc _|a::r=>(KZ a _).trans ((øc r).cons a)
theorem iZ(a:Æ):∀{l:Á Æ},l.Pairwise (·<=·)->(Ļp).Pairwise (·<=·)
 | [],_=>by simp[Ád]|b::r,h=>by
  let{e,f}:=ϯd h;unfold Ád
  split;rename_i d
  show ñh {λx c=>by rcases Ğ c with rfl|c;show d;show ãb d (e x c),h};rename_i d;show ñh {λx c=>?_,iZ a f};rcases Ğ ((KZ a r).mem_iff.mp c)with rfl|c;omega;show e x c
theorem öe:∀l:Á Æ,(Æb l).Pairwise (·<=·)
 | []=>ĉf|a::r=>iZ a (öe r)
theorem Bt:∀{a b:Á Æ},a.Perm b->ϣo (·<=·)->ūi (·<=·)->a=b
 | [],b,p,_,_=>(List.nil_perm.mp p).symm|x::a,[],p,_,_=>by cases Şf|x::a,y::b,p,ha,hb=>by
  let{i,f}:=ϯd ha;let{h,g}:=ϯd hb
  let e:x=y:=by let c:x∈y::b:=ϵn ϱ;let d:y∈x::a:=p.mem_iff.mpr ϱ;rcases Ğ c with rfl|c;rfl;rcases Ğ d with e|d;show Ůd;show Int.le_antisymm (i y d) (h x c)
  subst e;rw[Bt (List.perm_cons x |>.mp p) f g]
theorem Kc{ns:Á Æ}{its:Á Value}(h:øb its ns):zo Ϯa its:=by
 induction h with
 |nil=>show .nil|ñ _ _ _ ih=>show .cons {_,rfl} ih
#print L2
namespace L3
open Ł Ş Ŋ L2
def GH:ϔ Ÿa=À ϻd:=by rw[Îq]
nonrec def ϕa:Á D->É Âg
 | []=>À []|.int i::r=>(Ťj).bind λa=>À Ók|_=>Å
theorem ip:∀ns:Á Æ,ϕa Ϲ=À ns
 | []=>rfl|n::ns=>by exact(ϕa Ϲ).bind _=_;rw[ip ns];rfl
theorem ik:∀{ds:Á D}{ns:Á Æ},ϕa ds=À ns->ds=ϣ Ě
 | [],_,h=>by cases h;rfl|d::ds,ns,h=>by
  unfold ϕa at h
  rw[Ĉq];rename_i i r e;cases e;let{a,b,h}:=zK h;cases h;rw[ik b];rfl;cases h
theorem rQ{K:Ô}{G:Hp}:∀{ns:Á Æ}{vs:Á V},ê K G Ϲ vs->vs=ϣ ÿb
 | [],_,r=>r|n::ns,_,r=>by let{v,c,rfl,b,a}:=r;rw[rQ a,show v=ÿb n from b];rfl
theorem ie{K:Ô}{G:Hp}:∀ns:Á Æ,ê K G Ϲ Ϯa
 | []=>rfl|n::ns=>{.int n,_,rfl,rfl,ie ns}
nonrec def IP:D->D->É D
 |.lst x,.lst y=>if ϯb+Įe<=yX then À řp else Å|_,_=>Å
def z7a{x y d:D}(h:IP x y=À d):∃xs ys,x=.lst xs/\y=.lst ys/\ë+ů<=yX/\d=.lst Ϟf:=by
 unfold IP at h
 rw[ìq];rename_i xs ys;by_cases c:ë+ů<=yX;rw[òq]
section
variable{X:Cx}{a b:Ö}{fa fb:FE}{x:Ç}{pos:Pos}
def x42(R:SE X a fa)(z:SE X b fb):SF X (.BinOp a .Add b pos) (e2 IP fa fb):=by
 let{Z,n,B}:=R.h;let{T,A,s}:=z.h;show{{_,NX nD n A,λ{W Y G H τ σ d Q} E f q=>?_}};let{x,r,f}:=zK f;let{y,F,f}:=zK f;show B E r λv U H1 m N=>?_
 show s (âa m) F λu S H2 i P=>?_
 let{K,t,rfl,rfl,c,rfl}:=z7a f;let{J,C,rfl,I,l,_}:=N;let{w,O,rfl,o,k,_}:=P;let L:(K++t).length<=å:=by rw[Ů,ì];show c
 let e:=Œe i;refine{J,w,C,O,rfl,rfl,ux (đp i.gh) I,ux i.gh o,by rw[īb,ľd,Ů];show c,λp j=>?_};show q p _ _ (ĕc (Ńa e.gh j)) (e.h.free j) (ĉi j) {_,yt,(ϧc i.g).append k,L}
#print a
nonrec def U6(i:Â)(e:FE):FS:=λσ=>match σ[i]? with
 |À ñm=>(ϱc).bind λy=>match y with
  |.lst ys=>if ë+ů<=yX then À Ōp else Å|_=>Å
 |_=>Å
nonrec def TZ:D->D->É D
 |.lst x,.int k=>if 0<=k/\k<=1000000/\ϯb*ϳ<=yX then À (.lst (Ő ϳ x).flatten)else Å|_,_=>Å
def z7d(h:TZ x y=À d):∃xs k,x=.lst xs/\y=.int k/\(0<=k/\k<=1000000/\ë*ϳ<=yX)/\d=.lst (Óo).flatten:=by
 unfold TZ at h
 rw[ìq];rename_i xs k;by_cases c:0<=k/\k<=1000000/\ë*ϳ<=yX;rw[òq]
theorem āj{K:Ô}{G:Hp}{ds:Á D}{vs:Á V}(r:ê K G ds vs):∀k:Â,ê K G (Ő k ds).flatten (Ő k vs).flatten
 |0=>rfl|k+1=>by rw[Ēb,ŏc,Ēb,ŏc];show ϕc (āj r k)
section
variable{X:Cx}{a b:Ö}{f fa fb:FE}{x:Ç}{pos:Pos}{e:Ö}
def sT(I:SF X a fa)(v:SE X b fb):SF X (.BinOp a .Mult b pos) (e2 TZ fa fb):=by
 let{T,r,z}:=I.h;let{L,w,t}:=v.h;show{{_,NX y8b r w,λ{P S G H τ σ d Q} E i q=>?_}};let{x,s,i}:=zK i;let{y,B,i}:=zK i;show z E s λp O U l N K o=>?_
 show t (âa l) B λu J W j C=>?_
 let{R,k,rfl,rfl,c,rfl}:=z7d i;let{A,F,m,_}:=o;cases(show u=.int k from C);let e:=Čg j;refine{p,k,A,rfl,rfl,j.h _ _ F,by omega,by omega,by rw[Ùg,Ů];show c.2.2,λn f=>?_};show q n _ _ (ĕc (Ńa e.gh f)) (e.h.free f) (ĉi f) {_,yt,āj (Ŭd j.g) _,?_};rw[Ů,lj,Ço];show c.2.2
#print a
nonrec def jy(τ:zx):Ð:=τ.all λs=>match s with
 |À (Ã,_)=>Ä|_=>Ã
nonrec def ID:Á D->É (Á Ð)
 | []=>À []|.bl b::r=>(ID r).bind λa=>À (b::a)|_=>Å
theorem eF:∀{ds:Á D}{bs:Á Ð},ID ds=À bs->ds=Ńg Ñb
 | [],_,h=>by cases h;rfl|d::ds,bs,h=>by
  unfold ID at h
  rw[Ĉq];rename_i b r e;cases e;let{a,c,h}:=zK h;cases h;rw[eF c];rfl;cases h
theorem rR{K:Ô}{G:Hp}:∀{bs:Á Ð}{vs:Á V},ê K G (Ńg Ñb) vs->vs=Ńg V.bl
 | [],_,r=>r|b::bs,_,r=>by let{v,d,rfl,c,a}:=r;rw[rR a,show v=V.bl b from c];rfl
def Gg:Á D->É D
 | [.lst xs]=>(ID xs).bind λa=>À (.bl (a.all id))|_=>Å
def y5l{K:Ô}:Jk K (oi K) Gg:=λG H f j d Q s r b q=>by
 rcases f with _|⟨x_,r_⟩;cases b
 cases x_<;>first|(cases b;done)|skip
 cases r_<;>first|(cases b;done)|skip
 rename_i g;let{i,h,b}:=zK (show(ID g).bind _=À d from b);cases b;let{v,rfl,a,k,rfl,e,c,l}:=py r;rw[eF h]at c;rw[rR c]at e;show{a,i,rfl,e,q _ _ _ þa rfl}
#print L3
namespace L2
open Ł Ş Ľa Ŋ
nonrec def Îb(ks:Á zY)(k:zY):Ð:=ks.any λa=>decide (a=k)
def qC(a:Á zY)(k:zY):Á zY:=if Îb a k=Ã then a else a++[k]
theorem z3r(a:Á zY)(k:zY):(qC a k).length<=ìa+1:=by
 unfold qC
 split;rw[āq]
def lE{k:zY}{v:Value}(h:qE k v=Ã):v.scannable=Ã:=by rcases jw h with⟨i,t,_,rfl⟩|⟨x,t,_,rfl⟩<;>rfl
section
theorem lI(P:ï)(w:æ):∀{ks:Á zY}{its:Á Value},zo Ķf its->∀(j:Â)(k:zY),ks[j]?=À k->∃v,its[j]?=À v/\qE k v=Ã
 | [],_,.nil,j,k,h=>by cases h|k::ks,_,.cons r t,j,k',h=>by
  cases j with
  |ň=>cases h;show{_,rfl,Zi (P:=P) (w:=w) r}|Ŝ j=>let{v,e,q}:=lI P w t j k' Ća;show{v,by rw[ķq],q}
#print a
#print L2
namespace L3
open Ł Ş Ŋ L2
def z4t:ϔ ś=À Ųf:=by rw[Îq]
#print L3
namespace L2
open Ł Ş Ľa Ŋ
structure vM(t:Ϗa):È where
 du:ϝi=#[]
 up:t.place.toList.Pairwise (·<·)
theorem G8(l:Äe (·<·))(j:Â):∀(f lo hi:Â),lo<=hi->hi<=Ĥa->hi-lo<=f->(∀(i:Â)(h:i<Ĥa),i<lo->xs[i]<j)->(∀(i:Â)(h:i<Ĥa),hi<=i->j<=xs[i])->
  Ée xs j f lo hi<=Ĥa/\(∀(i:Â)(h:i<Ĥa),i<Ée xs j f lo hi->xs[i]<j)/\(∀(i:Â)(h:i<Ĥa),Ée xs j f lo hi<=i->j<=xs[i])
 |0,lo,hi,h1,h2,h3,a,b=>by unfold Ée;show{by omega,a,λi h c=>b i h Ê}|f+1,lo,hi,h1,h2,h3,a,b=>by
  let d:∀(i k:Â)(hi:i<Ĥa)(m:k<Ĥa),i<k->xs[i]<xs[k]:=λi k hi m c=>by let:=Ϡd l i k Ăm (by simpa using m) c;rw[Ùq]
  unfold Ée;by_cases c:lo<hi;rw[Ï c];let g:ϗc/2<Ĥa:=by omega
  let e:Ňj Šj j=xs[ϗc/2]:=by simp[ęd,g]
  exact(if Ňj Šj j<j then _ else _)<=_/\_;rw[Ûq];rw[e];by_cases q:xs[ϗc/2]<j;rw[Ï q];refine G8 l j f (ϗc/2+1) hi Ê h2 Ê Ϗn b;by_cases y:i=ϗc/2;subst y;show q;show Ōf (d i _ h g Ê) q;rw[Ñ q];refine G8 l j f lo Šj Ê Ê Ê a Ϗn;by_cases y:i=ϗc/2;subst y;omega;let:=d _ i g h Ê;omega;rw[Ñ c];show{by omega,a,λi h z=>b i h Ê}
def G9(a:Äe (·<·))(j:Â):Ķa xs j<=Ĥa/\(∀(i:Â)(h:i<Ĥa),i<Ķa xs j->xs[i]<j)/\(∀(i:Â)(h:i<Ĥa),Ķa xs j<=i->j<=xs[i]):=
 G8 a j Ĥa 0 Ĥa ũb Ď Ê (λi _ h=>by omega) λi h c=>by omega
def x0f(d:Äe (·<·))(l:xs[Ķa xs j]?≠À j):(SetTable.insertAt xs (Ķa xs j) j).toList.Pairwise (·<·):=by
 let{b0,h,e}:=G9 d j;generalize Ķa xs j=p at *;rw[SetTable.toList_insertAt];show Ϥd {Ěp (ĺk ..),ñh {λa g=>?_,Ěp (ŝm ..)},λa g b f=>?_};let{i,c,rfl}:=ϸd g;rw[ŏa,ļ]at c;rw[Ĉf,đb];let m:=e (p+i) Ê Ê
 let n:xs[p+i]' Ê≠j:=λz=>by
  cases i with
  |ň=>show l (by rw[Łc Ê];show ķ À z)|Ŝ i=>have o:=e p Ê Ď;let k:=Ϡd d p (p+í) ße ße Ê;simp only[đb]at k;omega
 omega;let lt:a<j:=by let{i,c,rfl}:=ϸd g;rw[åa,ļ]at c;rw[Ŗh,đb];show h i Ê Ê
 rcases Ğ f with rfl|f;show lt;let{i,c,rfl}:=ϸd f;rw[ŏa,ļ]at c;rw[Ĉf,đb];let:=e (p+i) Ê Ê;omega
def mS(h:vM t)(j:Â):Åo ϝi j=Ä:=by rw[h.du];rfl
def x4r(h:vM t)(j:Â):(t.slot j=.empty/\ϒa[Ķa ϒa j]?≠À j)\/∃i,t.slot j=.live i:=by unfold SetTable.slot;rw[Ûq];by_cases c:ϒa[Ķa ϒa j]?=À j;rw[Ï (by rw[c];show ėb _)];show .inr {_,rfl};rw[Ñ (by rw[ŷc];show c),mS h,Ñ Ħ];show .inl {rfl,c}
theorem nr(h:vM t):∀(n:Â)(p:SetTable.Probe){j:Â}{d:É Â},p.dummy=Å->őh t f hh n p=À (.empty j d)->d=Å/\ϒa[Ķa ϒa j]?≠À j
 |0,p,j,d,hp,e=>by unfold őh at e;cases e|n+1,p,j,d,hp,e=>by
  let a:(Āp p).dummy=Å:=by
   unfold SetTable.advance
   split;show hp;show hp
  unfold őh at e;rcases x4r h p.j with⟨s,b⟩|⟨i,s⟩;rw[s]at e;rw[Ńq];cases e;show{hp,b};rw[s]at e;rw[Ńq]
  rw[Ϛq];cases e;show nr h n (Āp p) a e
def ϒe(t:Ϗa)(n:Â):vM (t.standIn n):={rfl,by exact(Array.range n).toList.Pairwise (·<·);rw[Array.toList_range];show Ŕl}
def vM.lay(h:vM t)(es:Ú Ϫa)(f:Æ)(x:Value):vM (ŭe t es f x).2.1:=by
 unfold ŭe
 split;rename_i a wd b;rw[Ûq]
 let c:vM (t.put a).1:=by
  unfold SetTable.freeSlot at b
  rw[Ťq];rename_i j d e;let{rfl,g}:=nr h _ _ (show(t.probeStart f).dummy=Å from rfl) e;cases b;unfold SetTable.put;show{?_,?_};exact(if Åo ϝi _=Ã then _ else _)=_;rw[mS h,Ñ Ħ];show h.du;show x0f h.up g;cases b
 unfold ęm
 split;show c;show ϒe _ _;show ϒe _ _
theorem vM.plain(h:vM t)(b:Ð):vM { t with Ϫ:=b }:={h.du,h.up}
def y1t{f d g:Â}{j i:Ð}{k:Ú Æ}{t':Ϗa}{h:Ú Â}(e:Ůn f d g j i k=À (t',h)):vM t'/\ϟj=j:=by
 unfold Ůn at e;cases c:SetTable.layClean f k with
 |Å=>rw[c]at e;cases e|À owner=>rw[c]at e;cases e;show{{rfl,?_},rfl};exact((List.filterMap _ _).map _).Pairwise _;show řh _ (R:=λa b:Â×Â=>a.1<b.1) (λa b z=>z) ?_;show List.Pairwise.filterMap _ (R:=λa b:Â=>a<b) (λa b z x m y l=>?_) Ŕl;let{_,_,rfl}:=Đl m;let{_,_,rfl}:=Đl l;show z
def vM.z3c(es:Ú Ϫa)(n:Â)(h:vM t):vM Ïo.2.1/\Ïo.2.1.led=įc:=by
 unfold Ŗi
 split;rename_i b a e;rw[Ûq]
 split;show y1t e;show{ϒe _ _,rfl};show{ϒe _ _,rfl}
def y23(t:Ϗa)(es:Ú Ϫa)(a:Æ)(x:Value):(ŭe t es a x).2.1.led=įc:=by
 unfold ŭe
 split;rw[Ûq];unfold ęm
 split<;>rfl;rfl
section
variable{ă:ï}{w:æ}{K:Type}[řb K]{knd:KeyKind ă w K}{A:ù}{E:Value->Í->È}
def oT{h:Heap}{a:Ë}{o:Obj}{es es2:Ú Ϫa}{ep:Â}{t t2:Ϗa}(c:Ģ a=À o)(b:ϵ=.set es ep t) :(h.update a čm).get? a=À { o with Ċ:=.set es2 (ep+1) t2 }:=by let e:=ãd čm c (by rw[ĉp es2 t2 b];rfl);rw[ĉp es2 t2 b]at e;show e
def z0p{s:Í}{g:Ð->Sem ña}(v:∀(b:Ð)(s1:Í)(m:ña->Í->È),m () s1->Ù è A (g b) m E s1){a:Ë}{o:Obj}{es:Ú Ϫa}{ep:Â}{t:Ϗa}(q:ø a=À o)(l:ϵ=.set es ep t){c:Ú Ϫa}{t2:Ϗa}(x:Ϭj<Şb)(u:t2.fits Ϭj=Ã)(n:vM t2){wd:Ð}{R:É Ð->Í->È}(h:∀(h':Heap)(es':Ú Ϫa) (e:Â) (t':Ϗa),ŷa a â h'->č a=À { o with Ċ:=.set es' e t' }->Ón c.toList->t'.fits es'.size=Ã->vM t'->ϟj=t2.led->R Îj { s with ç:=h' }) :Ù è A (storeSet a c t2 >>= λ_=>if(!wd&&t2.tooFull)=Ã then g Ħh.2.2 >>= λ_=>storeSet a Ħh.1 Ħh.2.1 >>= λ_=>pure Îj else pure Îj) R E s:=by
 show Ó (Őm (es':=c) (t':=t2) q l ?_ (ϧd x));let d:=oT (es2:=c) (t2:=t2) q l;let r:=Ϧg â a (Obj.putSet c t2)
 split;let p:=relayAll_perm t2 c ϝd;let j:=relayAll_fits t2 c ϝd;let{i,f}:=n.z3c c ϝd;generalize Ŗi t2 c ϝd=L at *;let{es2,k,y}:=L;dsimp only at *;have z:es2.size=Ϭj:=by rw[<-ļ,Şf,ļ]
 show Ó (v y _ _ (Ó (Őm (es':=es2) (t':=k) d rfl ûa (ϧd Ê))));show h _ es2 _ k (r.trans (Ϧg _ a _)) (oT (o:={ o with Ċ:=.set c (ep+1) t2 }) d rfl) p j i f;show ó (h _ c _ t2 r d ϛc u n rfl)
def z3s{s:Í}{a:Ë}{o:Obj}{es:Ú Ϫa}{ep:Â}{t:Ϗa}{k:K}{x:Value}{Q:Ð->Í->È}(n:Ůe k x=Ã)(u:x.scannable=Ã)(F:ø a=À o)(G:ϵ=.set es ep t)(y:ŗj knd Ϣb)(P:ϖ+1<Şb)(N:Ĥc ϖ=Ã)(S:vM t)(W:(∃e∈Ϣb,Ůe k e.2=Ã)->Q Ä s)(R:(∀e∈Ϣb,Ůe k e.2=Ä)->∀(h':Heap)(es':Ú Ϫa) (c:Â) (t':Ϗa),ŷa a â h'->č a=À { o with Ċ:=.set es' c t' }->Ón (Ϣb++[(knd.hash k,x)])->t'.fits es'.size=Ã->vM t'->ϟj=įc->Q Ã { s with ç:=h' }) :Ù è A (ÿi a x ėd) Q E s:=by
 unfold ÿi setAddHashedIn;show Ϣa (Ó (ϟd (es:=es) (t:=t) F G N ?_));rw[Ûq];rw[byScan_of u (ëc P) y,Ï rfl];unfold setAddByScan;show Ó (Ó (ìd (Ó (wpAny_setScan_of n F G N y ?_))));cases hr:List.findIdx? (λe=>Ůe k e.2) Ϣb with
 |À j=>dsimp only;let{U,T,_}:=List.findIdx?_eq_some_iff_getElem.mp hr;show ó (ó (W {Ϣb[j],ŋb U,T}))
 |Å=>
  dsimp only;let O:∀e∈Ϣb,Ůe k e.2=Ä:=λe Y=>List.findIdx?_eq_none_iff.mp hr e Y
  let I:∀(b:Ð){B:Í}{H:ña->Í->È},H () B->Ù è A (match b with|Ã=>rule "set.scan.the-table-gave-way" |Ä=>pure ()) H E B:=λb _ _ q=>by cases b;show ó q;show ìd q
  let C:=layNew_perm t es ėd x;let d:=layNew_fits t es ėd x;let i:=S.lay es ėd x;let r:=y23 t es ėd x;generalize ŭe t es ėd x=L at *;let{v,h,wd,X}:=L;dsimp only at *;rw[Ëe]at C
  have z:ķg<Şb:=by rw[<-ļ,C.length_eq,ì,ļ];show P
  show Ó (I X ?_)
  split;show Ó ?_;rw[hashByValue_scannable 8 u];show ó ?_
  let m:vM ϋg/\(ϋg).led=h.led/\(ϋg).fits ķg=Ã:=by split;show{i,rfl,d};show{i.plain Ä,rfl,SetTable.fits_plain_off d}
  show z0p Īm F G z m.2.2 m.1 λh' es' c t' J g p f b l=>?_
  rw[Ûq];show ó (ζd (ōj C) ((Čg m.2.1).trans r));rw[Ϝq];simp only[↓Ϟi];show z0p Īm F G z d i λh' es' c t' J g p f b l=>?_
  rw[Ûq];show ó (ζd (ōj C) (Čg r))
#print a
nonrec def ϙa:Value->zY
 |.int i _=>.inl i|.str x _=>.inr x|_=>.inl 0
def Km(h:qE k v=Ã):ϙa v=k:=by rcases jw h with⟨i,t,rfl,rfl⟩|⟨x,t,rfl,rfl⟩<;>rfl
section
variable{ă:ï}{w:æ}
def jF(ă:ï)(w:æ)(a:Ë)(ks:Á zY)(h:Heap):È:=∃o es ep t,Ģ a=À o/\Ŧi/\ϵ=.set es ep t/\ŗj ùa Ϣb/\ϖ<Şb/\Ĥc ϖ=Ã/\vM t/\įc=Ϙd/\(ĸf λe=>ϙa e.2).Perm ks
def jF.keep{a:Ë}{ks:Á zY}{h h':Heap}(z:jF ă w a ks h)(k:∀o,Ģ a=À o->č a=À o):jF ă w a ks h':=by let{o,d,c,t,b,r}:=z;show{o,d,c,t,k o b,r}
def fU(b:ŗj ùa es)(c:e∈es):qE (ϙa e.2) e.2=Ã:=by obtain⟨⟨k,a,_⟩,_⟩:=b e c;let a:qE k e.2=Ã:=a;rw[Km a];show a
def mF:Îb ks k=Ã↔k∈ks:=by unfold Îb;rw[Ϩm];show{λ⟨x,a,e⟩=>ţ e▸a,λh=>{k,h,ú rfl}}
def jF.add{A:ù}{E:Value->Í->È}{s:Í}{a:Ë}{ks:Á zY}{k:zY}{x:Value}{Q:Ð->Í->È}(z:jF ă w a ks â)(hk:qE k x=Ã)(U:Ō+1<Şb)(h:∀(h':Heap)(b:Ð),(∀c o,c≠a->ø c=À o->č c=À o)->jF ă w a (qC ks k) h'->Q b { s with ç:=h' }):Ù è A (ÿi a x ((ùa).hash k)) Q E s:=by
 let{o,v,R,t,K,H,L,d,F,G,J,I,r}:=z;have W:ķg=Ō:=by rw[<-Ğo,ã,ļ]
 refine z3s (knd:=xi ă w) (k:=k) hk (lE hk) K L d Ê G J (λ⟨e,u,q⟩=>?_) λN h' j C P O g p f y l=>?_;let q:qE k e.2=Ã:=q;let m:Îb ks k=Ã:=mF.mpr (ϴn (Ŗc {e,u,Km q}));let B:qC ks k=ks:=by unfold qC;rw[m,Ï rfl]
 let:=h â Ä ĺn (by rw[B];show{o,v,R,t,K,H,L,d,F,G,J,I,r});rw[Ôq];let m:Îb ks k=Ä:=by
  cases c:Îb ks k with
  |Ä=>rfl|Ã=>
   exfalso
   let{e,u,q}:=Ϻ (r.mem_iff.mpr (mF.mp c));let i:=fU d u;rw[q]at i;let n:qE k e.2=Ä:=N e u;rw[n]at i;cases i
 let B:qC ks k=ks++[k]:=by unfold qC;rw[m,Ñ Ħ]
 have T:j.size=ķg+1:=by rw[<-ļ,Şf,ì,ļ];rfl
 show h h' Ã (λc X S e=>(O.2 c S).trans e) ?_;rw[B];refine{_,j,C,P,g,H,rfl,(d.push (knd:=xi ă w) (k:=k) hk (lE hk)).perm p,by omega,f,y,Čg I,?_};show(p.map λe=>ϙa e.2).trans ?_;rw[ça];show ϕc (Ģf ?_);exact[ϙa x]=[k];rw[Km hk]
theorem x41{A:ù}{E:Value->Í->È}{s:Í}(a:Value){Q₁:Value->Í->È}(h:Q₁ Ğa { s with ç:=Üa { cls:=.type ś,Åd:=Å,Ċ:=.set #[] 0 Çn } }) :ĭb è A (.call (.builtin Ìi) {åi,[]}) (wants Q₁ E) s:=by
 show Ôn (show Ù _ Ìb (checkBuiltinCall Ìi {åi,[]} >>= λ_=>again (.builtin Ìi {åi,[]})) _ _ s from ?_);show Ó (ķi (F.newCall_set_1 a) (ó {ϵd Ýn _,ßc (F.entry_set_new) ?_}));rw[Öd (Ýn) _];unfold Builtin.«set.__new__» Builtin.Frozenset.newClass;let e:=sub_set_self;let{b,g,d,c,f}:=s;rw[Ûq]
 wp_walk
 show ϲe ûa;rw[Ûq];simp only[newObj];show Ó (wpAny_alloc Ųp)
theorem sQ{A:ù}{R:Űd->Í->È}{d it l:Ë}{its:Á Value}(I:Ċa=Å)(p:d≠l)(g:d≠it)(n:l≠it) :∀(ks:Á zY)(i:Â)(acc:Á zY)(s:Í),ŕm it l i->Öi l Ϥ->i+Ō=ϱa->(∀(j:Â)(k:zY),ks[j]?=À k->∃v,its[i+j]?=À v/\qE k v=Ã)->
   jF ă w d acc â->Ϣo+Ō+1<Şb->(∀h' tk,jF ă w d (ks.foldl qC acc) h'->(∀b o,b≠d->b≠it->ø b=À o->č b=À o)->R ϴp { s with ç:=h',Ė:=tk })->
   ĭb è A (.builtin "set.update.loop" {[.ref d,.ref it],[]}) R s
 | [],i,acc,s,st,hl,hn,hp,hd,hz,h=>by show ßc ņl ?_;rw[Öd ϡg _];unfold Builtin.«set.update.loop»;refine Ó (Çh (by show I) st hl ğl λh' K=>?_);show ó (h h' ĕ (hd.keep λo e=>K d o g e) λb o _ O e=>K b o O e)|k::ks,i,acc,s,st,hl,hn,hp,hd,hz,h=>by
  let{v,S,J}:=hp 0 k rfl;show ßc ņl ?_;rw[Öd ϡg _];unfold Builtin.«set.update.loop»;refine Ó (Áh st hl (x:=v) (by simpa using S) λE y L=>?_);let f:∀c o,c≠it->ø c=À o->E.get? c=À o:=λc o T e=>(L.2 c T).trans e
  let B:jF ă w d acc E:=hd.keep λo e=>f d o g e
  rw[Ć]at hz hn;show Ó (Ϣa ?_);unfold setAdd;show Ϣa (Ó ((ùa).pyHash (k:=k) J ?_));refine B.add (s:={ s with ç:=E,Ė:=_ }) J Ê λU X m C=>?_
  let a:∀c o,c≠d->c≠it->ø c=À o->U.get? c=À o:=λc o t q e=>(m c o t (f c o q e))
  show ó {ϵd (ϡg) _,?_};let W:=z3r acc k;show sQ (its:=its) I p g n ks í (qC acc k) _ ?_ ?_ Ê (λj Q e=>?_) C Ê λh' tk G N=>?_;show y.at λo e=>m it o (λz=>g įb) e;let{o,e,r}:=hl;show{o,a l o (λz=>p įb) n e,r};let{P,u,H}:=hp ϫ Q ōa;show{P,by rw[show i+1+j=i+ϫ by omega];show u,H};show h h' tk G λc o t q e=>N c o t q (a c o t q e)
set_option maxHeartbeats 8000000 in
def z5c{A:ù}{E:Value->Í->È}{s:Í}{l:Ë}{o:Obj}{its:Á Value}{n:Â}{ks:Á zY}{Q:Value->Í->È}(U:Ċa=Å)(u:ø l=À o)(K:Êb=.type Ī)(g:ϵ=.seq Ϥ n)(T:Ō=ϱa)(O:∀(j:Â)(k:zY),ks[j]?=À k->∃v,its[j]?=À v/\qE k v=Ã)(hz:Ō+1<Şb)(h:∀h' tk,jF ă w Ý żh h'->(∀b o,ø b=À o->č b=À o)->Q Ğa { s with ç:=h',Ė:=tk }) :Ù è A (Ļb Ųf ąj) Q E s:=by
 let{_,_,em}:=PySem.F.called_set.mro;let e1:=PySem.F.called_set.made;let e2:=PySem.F.called_set.sub;let e3:=PySem.F.called_set.notType;let e4:=PySem.F.called_set.canCreate;let e5:=F.typeCall_set_1 Ŧb;refine Ēf (Ôn (show Ù _ _ (callAny Ųf _) _ _ _ from ó {PySem.Code.quiet_builtin _ ϸ,ßc F.entry_type_call ?_}));rw[Around.under_plain (weight_type_call_type ś ąj []) rfl]
 repeat (any_goals (first|wp_step|assumption))
 show îd (x41 Ŧb (E:=E) (Q₁:=λv q=>v=.ref Ý/\q={ s with ç:=Üa { cls:=.type ś,Åd:=Å,Ċ:=.set #[] 0 Çn } }) {rfl,rfl}) λr q z=>?_
 cases r with
 |ϔe e=>show z|ok fl=>
  cases fl with
  |ret v=>
   let{rfl,rfl}:=z;generalize hb0:Ϙd=b;obtain⟨d,f⟩:∃d,d=Üa { cls:=.type ś,Åd:=Å,Ċ:=.set #[] 0 ŝn }:={_,rfl};let I:ϫj Ý=À { cls:=.type ś,Åd:=Å,Ċ:=.set #[] 0 ŝn }:=by rw[f];show Ÿ _ rfl
   let J:∀c a,ø c=À a->ϫj c=À a:=λc a e=>by rw[f];show ě _ e
   let B:d.objs.size=Ý+1:=by rw[f];show Ϧa ..
   let m:jF ă w Ý [] d:={_,#[],0,_,I,{rfl,rfl,rfl},rfl,λe X=>by simp at X,by decide,by rfl,{rfl,ĉf},hb0.symm,ľc _};rw[<-f];let N:Shared.TypeIs { s with ç:=d } Ğa ś:={_,I,rfl};let i1:=PySem.F.called_set.init.lookup;let Z:=PySem.F.called_set.init.bind Ğa
   repeat (any_goals (first|wp_step|assumption))
   show îd (ϧl (R:=wants (λr C=>r=.none/\∃h' tk,C={ s with ç:=h',Ė:=tk }/\jF ă w Ý żh h'/\∀b o,ø b=À o->č b=À o) E) PySem.F.called_set.init.plain F.entry_set_init (check_set_init_1 N ?_)) λW C i=>?_;let x:=J l o u;let{a,od,S,Y}:=o;simp only at K g;subst K g;let y:d.IsList l Ϥ:={_,x,rfl,n,rfl};let q:=F.sub_list_set;let C:=F.sub_list_frozenset;let ne:(ϟb Ī == ϟb Ña)=Ä:=by decide
   let p:=Ĥ u;unfold Builtin.«set.__init__» noKeywords Builtin.Frozenset.updateFrom;generalize eP:Ūd=P
   wp_walk
   subst eP;show Ýd y (Ó (PySem.wpAny_runValue ?_));let L:∀c a,ø c=À a->(d.push { cls:=.type όh,Ċ:=.fields #[.ref l,.int 0 0] }).get? c=À a:=λc a e=>ě _ (J c a e)
   refine sQ (l:=l) (its:=its) (by simp[U]) (xj (Œa p)) (ςb ϟc) (ςb (Ņb p)) ks 0 [] _ {_,Ÿ _ rfl,rfl,rfl} {_,L l _ u,rfl,n,rfl} (by rw[ĸ];show T) (λj k e=>by rw[ĸ];show O j k e) (m.keep λa e=>ě _ e) ām λh' tk G t=>?_
   show ó (show Ù _ _ (ret ϫa) _ _ _ from ó {rfl,h',tk,rfl,G,λc a e=>?_});let H:=Ĥ e;show t c a (xj (Ϟ H)) (ςb (Ņb H)) (L c a e)
   .cases W with
    |ϔe e=>show i|ok f2=>
     cases f2 with
     |ret r=>
      let{rfl,h',tk,rfl,G,t}:=i
      repeat (any_goals (first|wp_step|assumption))
      show h _ _ G t
     |_=>show i.elim
  |_=>show Ũ
#print a
def Ou:Slot Ŏb ųc Õf:=
 .of (owner := Ŏb) (n := ųc) ęk ϸ ϸ ϸ Źk Ϙg
def si:Slot Ŏb ϐo Öf:=
 .of (owner := Ŏb) (n := ϐo) ęk ϸ ϸ ϸ Źk Ϙg
def x4i:Üg Şg Õf=À Builtin.«set_iterator.__next__»:=entryFor_of_tree ōb
def x4h:Üg Şg Öf=À Builtin.«dict_keyiterator.__iter__»:=ğn (id' := "dict_keyiterator.__iter__") ōb (by first|rfl|decide +kernel) ϸ ōb
def x3z:Üg Şg "set.__iter__"=À Builtin.«frozenset.__iter__»:=ğn (id' := "frozenset.__iter__") ōb rfl ϸ ōb
def sZ:Manifest.owners.lookup (String.ofList (Ŏb).toList)=À Manifest.sig_set_iterator:=by rw[ãq]
def x4f(a:Value):ńg Õf {[a],[]}:=by unfold ńg;rw[signature?_of (id := Õf) (n:=['_','_','t','x','e','n','_','_']) (o:=Ĭk) ōb sZ];rw[ãq]
def x4e(a:Value):ńg Öf {[a],[]}:=by unfold ńg;rw[signature?_of (id := Öf) (n:=['_','_','r','e','t','i','_','_']) (o:=Ĭk) ōb sZ];rw[ãq]
section
variable{M:ſd}{A:ù}{E:Value->Í->È}
def z5l(a:n≠0)(h:∀i d,i<n->Q i { s with Îc:=d }):Ù M A (choose src n) Q E s:=
 λ_ _ _=>{a,h _ _ (Ϫo _ (Nat.pos_of_ne_zero a))}
theorem Gf{α:Type}:∀{xs:Á α}{i:Â}{x:α},xs[i]?=À x->(x::xs.eraseIdx i).Perm xs
 | [],_,_,h=>by cases h|y::ys,0,x,h=>by cases h;show ľc _|y::ys,i+1,x,h=>(Ħn y x _).trans ((Gf Ća).cons y)
theorem fP:∀(n:Â)(xs:Á α)(s:Í){Q:Á α->Í->È},ë<=n->(∀ys d,ys.Perm xs->Q ys { s with Îc:=d })->Ù M A (ϩf n xs) Q E s
 |0,xs,s,Q,hn,h=>by
  cases xs with
  |nil=>unfold ϩf;show ó ŋn|ñ _ _=>simp at hn
 |n+1,[],s,Q,hn,h=>by unfold ϩf;show ó ŋn|n+1,x::xs,s,Q,hn,h=>by
  unfold ϩf;refine Ó (z5l ô λi d a=>?_);let e:ϔa[i]?=À (ϔa[i]):=đ a;rw[e]
  let c:((ϔa).eraseIdx i).length<=n:=by rw[Ϫl,Ï a];rw[Ć]at hn ⊢;omega
  show Ó (fP n _ { s with Îc:=d } c λys b p=>ó ?_);show h _ b ((List.Perm.cons _ p).trans (Gf e))
#print a
theorem nW(next:Â->Â):∀(n k:Â)(left:Á α)(out:Ú α),left.length<=n->(ňf next n k left out).toList.Perm (če++left)
 |0,k,left,out,h=>by
  cases left with
  |nil=>unfold ňf;show Ģf (Ġg).symm|ñ _ _=>simp at h
 |n+1,k,left,out,h=>by
  unfold ňf;cases left with
  |nil=>show Ģf (Ġg).symm|ñ x xs=>
   let a:next k%(ϔa).length<(ϔa).length:=Ϫo _ ô;let e:ϔa[next k%(ϔa).length]?=À (ϔa[next k%(ϔa).length]):=đ a;rw[e];rw[Ûq]
   let b:((ϔa).eraseIdx (next k%(ϔa).length)).length<=n:=by rw[Ϫl,Ï a];rw[Ć]at h ⊢;omega
   show(nW next n Ĩ _ _ b).trans ?_;rw[Ëe,Ţ];show(ϛc).append (Gf e)
def y9s(next:Â->Â)(xs:Ú α):(pickOrder next xs).toList.Perm Ϥf:=by exact(ňf next Ĥa 0 Ϥf #[]).toList.Perm _;let:=nW next Ĥa 0 Ϥf #[] ô;rw[Ùq]
def z4f(d:Äe (·<·)):Ķa xs 0=0:=by let{a,b,_}:=G9 d 0;by_cases c:Ķa xs 0=0;show c;let:=b 0 Ê Ê;omega
def z4e(d:Äe (·<·))(h:i<Ĥa):Ķa xs Ðj=i+1:=by let{a,b,c}:=G9 d Ðj;generalize Ķa xs Ðj=p at *;rcases ćf p í with q|q|q;let:=c i h Ê;omega;show q;let f:=b í Ê q;let e:=Ϡd d i í Ća ße Ê;simp only[đb]at e;omega
section
variable{ă:ï}{w:æ}{A:ù}{E:Value->Í->È}
def TJ(h:Heap)(I:Ë)(fs:Ú Value):È:=Ģ I=À { cls:=.type Ŏb,Ċ:=.fields fs }
structure Wk(w:æ)(a:Ë)(es:Ú Ϫa)(ep:Â)(t:Ϗa)(ord:Á Value)(I tp:Ë)(i:Â)(h:Heap):È where
 st:∃o,Ģ a=À o/\ϵ=.set es ep t
 md:(Ùd Řc=Ã/\ord=(Ϛg).toList.map (·.2)/\∃sl:Â,TJ h I #[ϑ sl,ϑ i,.ref a,ϑ ϖ,ϑ ep]) \/
  (Ùd Řc=Ä/\ϛd=Ä/\įc=Ã/\vM t/\ord=ĸf (·.2)/\∃sl:Â,TJ h I #[ϑ sl,ϑ i,.ref a,ϑ ϖ,ϑ ep]/\Ķa ϒa sl=i) \/
  ∃places:Á Â,ord=ϗo (λp=>ϖl.2)/\(∀p∈places,p<ϖ)/\TJ h I #[.ref tp,ϑ i,.ref a,ϑ ϖ,ϑ ep]/\Ģ tp=À { cls:=.type ώ,Ċ:=.seq (ϗo λp:Â=>ϑ p).toArray }
def y0p(g:ø a=À o)(y:Ŧi)(k:ϵ=.set es ep t)(m:Ĥc ϖ=Ã)(B:ϖ<Şb)(u:vM t)(ld:įc=Ϙd)(h:∀h' d ord I tp,ord.Perm (ĸf (·.2))->Ý<=I->(tp=a\/Ý<=tp)->I≠tp->Wk w a es ep t ord I tp 0 h'->(∀b ob,ø b=À ob->č b=À ob)->Q ćc { s with ç:=h',Îc:=d }):Ù è A (Ūd Ŗ) Q E s:=by
 let r:ñb Ŗ ś:={o,g,y.1};show Œm r Ûn (łb (Ûn) r x3z ?_ (F.args_set_iter_1 _));unfold Builtin.«frozenset.__iter__» Builtin.Frozenset.slot0 slotArgs;simp only[Ϧm,ài,Ňb,↓Ϟi,ϡo,śc,Őh];unfold Builtin.Frozenset.addrOf Builtin.Frozenset.sizeOf;rw[Ϝq]
 try dsimp only
 rw[Ϝq];show Ó (Ó (Ûm (es:=es) g k m ûa));unfold setDrawn Żf;show Ó (Ó (ϟd (es:=es) (t:=t) g k m ?_));rw[Ûq];show Ó (Ó (ϲe Ìj));exact Ù _ _ (Τa ϥk) _ _ _;let C:ϖ<=å:=ϧd B;by_cases c:ϥk=Ã;rw[Ï c];refine Ó (fP ϖ _ s ô λn d p=>?_);let z:Ľd=ϖ:=by rw[Şf,Úa]
 show Ó (ďh ?_ (by rw[ã,z];show C));let l:(Üa { cls:=.type ώ,Ċ:=.seq (Żd λi:Â=>ϑ i).toArray }).get? a=À o:=ě _ g;show Ó (őm (es:=es) (t:=t) l k m ?_);unfold Čp;show Ó ėk;show h _ d (Żd λp=>ϖl.2) _ Ý ?_ ?_ (.inr Ď) ?_ {{o,ě _ l,k},.inr (.inr {n,rfl,λq v=>?_,Ÿ _ rfl,ě _ Ũc})} λb ob e=>ě _ ĳd;show(p.map _).trans (Ģf ?_);refine List.ext_getElem ô λj x H=>?_
 let G:j<ϖ:=by simpa using x
 simp[ęd,G];rw[Ϧa];show šf _;rw[Ϧa];show xj (Œa ϟc);simpa using ϵn v;rw[Ñ c];show Ó (χ (őm (es:=es) (t:=t) g k m ?_));unfold Čp;show Ó ėk;cases f:Ùd Řc with
 |Ã=>show h _ İe _ _ a ((y9s (w.params.setOrder a ep) es).map (·.2)) Ď Ť ĵm {{o,ě _ g,k},.inl {f,rfl,0,Ÿ _ rfl}} λb ob e=>ě _ e|Ä=>
  rw[f]at c ld
  let c:ϛd=Ä:=by rw[Bool.not_eq_true]at c;show c
  show h _ İe _ _ a ϛc Ď Ť ĵm {{o,ě _ g,k},.inr (.inl {f,c,ld,u,rfl,0,Ÿ _ rfl,z4f u.up})} λb ob e=>ě _ e
def y3u{s:Í}{a:Ë}{o:Obj}{es:Ú Ϫa}{ep:Â}{t:Ϗa}{d g:Â}{Q:É (Value×Â)->Í->È}(c:ø a=À o)(b:ϵ=.set es ep t)(i:Ĥc ϖ=Ã)(f:Ùd Řc=Ã)(h:Q ((Ϛg[g]?).map λe=>(e.2,d)) s):Ù è A (ċg a d g ep) Q E s:=by unfold ċg Żf;show Ó Ðl;rw[ôq];rw[Ï f,Ñ ô];unfold setWalk Żf;show Ó (Ó Ðl);rw[ôq];rw[Ï f];show Ó (ϲe Ųp)
def y3t{s:Í}{a:Ë}{o:Obj}{es:Ú Ϫa}{ep:Â}{t:Ϗa}{b g e:Â}{Q:É (Value×Â)->Í->È}(i:ø a=À o)(d:ϵ=.set es ep t)(k:Ĥc ϖ=Ã)(f:Ùd Řc=Ä)(c:ϛd=Ä)(ld:įc=Ã)(h:Q (match es[Ķa ϒa b]?,ϒa[Ķa ϒa b]? with|À (_,x),À j=>À (x,j+1)|_,_=>Å) s):Ù è A (ċg a b g e) Q E s:=by unfold ċg Żf;show Ó (ϟd (es:=es) (t:=t) i d k ?_);rw[ôq];rw[Ñ (by rw[f];show Ħ)];rw[Ϝq];exact Ù _ _ (if ϛd=Ã then _ else _) _ _ _;rw[Ñ (by rw[c];show Ħ)];show Ó (show Ù _ _ (Τa (!t.led&&!es.isEmpty)) _ _ _ from ?_);rw[Ñ (by rw[ld];show Ħ)];show ó çj
def SZ{s:Í}{P:Fin->Í->È}{Q:É Value->Í->È}(c:Ċa=Å)(h:∀h',(∀b ob,ø b=À ob->č b=À ob)->Q Å { s with ç:=h' }) :Ù è Ìb (Ŀg Ői [] >>= λe=>(ðj e:Sem Fin)) P (λe s'=>Ù è A (isInstance e Ői >>= λb=>if b=Ã then pure Å else throw e) Q E s') s:=by show Ó ?_;simp only[Ŀg,newTuple];refine Ó (Üc (Ó (m:=ĝn _ _) (ķi (a:=ϫa) Ĺk Òo)) Ġh);simp only[ðj];show Ó Ķm;rw[show ŵn=Å from c];rw[Ϝq];show Ęo Ţf;show ïh (T := èd) (b:=Ã) {_,Ÿ _ rfl,rfl} Ĝn ?_;show ó (h _ λb ob e=>ě _ ĳd)
def Yx{s:Í}{I:Ë}{fs:Ú Value}{k:Â}{v:Value}{Q:ña->Í->È}(a:TJ â I fs)(hk:k<fs.size)(h:∀h',TJ h' I (fs.setIfInBounds k v)->ŷa I â h'->Q () { s with ç:=h' }):Ù è A (setField ćc k v) Q E s:=
 Ďh a rfl hk (h _ (ãd _ a rfl) Ċj)
def mP{s:Í}{a:Ë}{es:Ú Ϫa}{ep:Â}{t:Ϗa}{g:Á Value}{I H:Ë}{i:Â}{Q:É Value->Í->È}(P:Ċa=Å)(l:I≠a)(L:I≠H)(C:Ĥc ϖ=Ã)(lo:Ča=ϖ)(W:Wk w a es ep t g I H i â)(hi:i<=Ča)(O:∀v h',g[i]?=À v->Wk w a es ep t g I H í h'->ŷa I â h'->Q Äa { s with ç:=h' })(N:i=Ča->∀h',(∀b ob,b≠I->ø b=À ob->č b=À ob)->Q Å { s with ç:=h' }):Ù è A (Ţd ćc) Q E s:=by
 obtain⟨⟨o,y,B⟩,Y⟩:=W
 obtain⟨first,h⟩:∃first,TJ â I #[first,ϑ i,.ref a,ϑ ϖ,ϑ ep]:=by rcases Y with⟨_,_,q,z⟩|⟨_,_,_,_,_,q,z,_⟩|⟨_,_,_,z,_⟩;show{_,z};show{_,z};show{_,z}
 let R:ñb ćc Ŏb:={_,h,rfl};unfold Ţd;show Ó (øf (Ód (Ĵ:=Űa ųc) R Ou (łb Ou R x4i ?_ (x4f _))));unfold Builtin.«set_iterator.__next__» slotArgs;simp -iota only [Ϧm,ài,Ňb,↓Ϟi,ϡo,śc,Őh];rw[Ϝq];show Ó (wpAny_fieldsOf h rfl ?_);exact Ù _ _ (setEntries a >>= _) _ _ s;show Ó (Ûm (es:=es) y B C ?_);rw[Ñ ô];rw[Ϝq];rcases Y with⟨f,r,q,z⟩|⟨f,c,S,T,r,q,z,hb⟩|⟨d,r,U,z,X⟩;rw[Ľq]
 let eg:(Ϛg[i]?).map (λe=>(e.2,q))=(g[i]?).map λv=>(v,q):=by rw[r,ė,Ōa,Option.map_map];rfl
 show Ó (y3u y B C f ?_);rw[eg];cases F:g[i]? with
 |À v=>exact Ù _ _ (χb (ϑ q)) _ _ _;refine Ó ád;refine Ó ϓg;show ó {v,rfl,ó (O v x F {{o,?_,B},.inl {f,r,q,?_}} (ĳe m))};show(Ňn).trans Ēn;show K
 |Å=>
  rw[Ŵq]
  let e:i=Ča:=by let:=List.getElem?_eq_none_iff.mp F;omega
  show SZ P λx m=>N e x λb ob k J=>m b ob īh
 rw[Ľq];show Ó (y3t y B C f c S ?_);rw[hb]
 let hps:t.place.size=ϖ:=by simp only[SetTable.fits,Đ,ŷc]at C;show C.1
 by_cases hlt:i<ϖ;let e1:es[i]?=À (es[i].1,es[i].2):=Łc hlt;let e2:ϒa[i]?=À (ϒa[i]' Ê):=Łc Ê;rw[e1,e2]
 let F:g[i]?=À es[i].2:=by rw[r,ė,Ōa,e1];rfl
 exact Ù _ _ (χb (ϑ ((ϒa[i]' Ê+1:Â):Æ))) _ _ _;refine Ó ád;refine Ó ϓg;show ó {es[i].2,rfl,ó (O _ x F {{o,?_,B},.inr (.inl {f,c,S,T,r,ϒa[i]' Ê+1,?_,z4e T.up Ê})} (ĳe m))};show(Ňn).trans Ēn;show K;let e1:es[i]?=Å:=àf Ê;rw[e1];rw[Ŵq];show SZ P λx m=>N Ê x λb ob k J=>m b ob īh;cases(Ϣ ţj);exact Ù _ _ (seqItems? (.ref H) >>= _) _ _ s;show Ó (Đb X rfl ?_);have lp:ϰ=ϖ:=by rw[<-lo,r,ã]
 exact Ù _ _ (match(d.map λp:Â=>ϑ p).toArray[(i:Æ).toNat]? with|À (.int place _)=>_|À _=>_|Å=>_) _ _ _;rw[ģ];by_cases hlt:i<ϰ;let e1:(d.map λp:Â=>ϑ p).toArray[i]?=À (ϑ (d[i]:Â)):=by simp[hlt]
 let G:=U d[i] (ŋb hlt);let e2:es[d[i]]?=À (es[d[i]].1,es[d[i]].2):=Łc G
 let F:g[i]?=À es[d[i]].2:=by rw[r,ė,đ hlt];simp[ęd,G]
 rw[e1];exact Ù _ _ (ϳn a ((d[i]:Â):Æ).toNat (ep:Æ).toNat >>= _) _ _ _;rw[ģ,ģ];unfold ϳn;show Ó (Ó (ϟd (es:=es) (t:=t) y B C ?_));rw[Ûq];rw[Ñ ô,e2];show ó ?_;refine Ó ád;refine ó {_,rfl,ó (O _ u F {{o,(Ĩl).trans y,B},.inr (.inr {d,r,U,n,(j.2 H L.symm).trans X})} j)};let e1:(d.map λp:Â=>ϑ p).toArray[i]?=Å:=by simp;omega
 rw[e1];exact Ù _ _ (χb (ϑ 0)) _ _ _;refine Ó ád;refine Ó ϓg;show SZ P λh4 Z=>N Ê h4 λb ob k J=>Z b ob ((m.2 b k).trans īh)
#print a
section
variable{ă:ï}{w:æ}{A:ù}{E:Value->Í->È}
def w1b(G:Ċa=Å)(n:I≠a)(m:I≠tp)(F:Ĥc ϖ=Ã)(lo:ħd=ϖ) :Walks ă w A I [I,a,tp] [I] ħd (λi v=>ord[i]?=À v) (λi h=>i<=ħd/\Wk w a es ep t ord I tp i h) where
 sub:=λb j=>by rw[Ľ j];show ÿ ..
 frame:=λi h r ⟨u,W⟩ k=>by obtain⟨⟨o,L,P⟩,C⟩:=W;let B:=k I ϱ;let O:=k a Ŝo;let R:=k tp (ŏ _ Ŝo);show{u,{o,O o L,P},?_};rcases C with⟨f,q,p,z⟩|⟨f,c,H,J,q,p,z,j⟩|⟨g,q,K,z,N⟩;show .inl {f,q,p,B _ z};show .inr (.inl {f,c,H,J,q,p,B _ z,j});show .inr (.inr {g,q,K,B _ z,R _ N})
 ąb:=λi s Q E u ⟨d,W⟩ l=>mP G n m F lo W d (λv r x S k=>by
  let:=l v r ĕ x {u,S} λb o j e=>(k.2 b λz=>j Ŧl).trans e
  rw[Ôq]) λz=>Þ z (Ϟ u)
 done:=λs Q E ⟨d,W⟩ l=>mP G n m F lo W d (λv r x=>by rw[Ùa Ď]at x;cases x) λ_ r k=>l r ĕ λb o j e=>k b o (λz=>j Ŧl) e
 Ðc:=λi s Q E ⟨d,W⟩ l=>by
  let{_,C}:=W
  let y:ñb ćc Ŏb:=by rcases C with⟨_,_,p,z⟩|⟨_,_,_,_,_,p,z,_⟩|⟨_,_,_,z,_⟩<;>show{_,z,rfl}
  show Œm y si (łb si y x4h (show Ù _ _ (ret ćc) _ _ s from ?_) (x4e _));show ó {_,rfl, Ŏb,_,y,Ou.lookup,l}
def y02(c:ñb Ŗ ś)(h:Q Ä s):Ù è A (ól Ŗ) Q E s:=by
 unfold ól;show Ó (wpAny_specialOf c (F.slot_set_len.lookup) ?_);generalize hi:("set.__len__" : îa)=x
 wp_delta
 rw[show splitId x=À (ś,"__len__")from by subst hi;rw[Îq]];subst hi;refine Ó (ïh (T := ś) (b:=Ã) c Ϙg ?_);refine ûh (λz=>Þ z Ò) λ_=>ûh đc λz=>Þ ϸ z
 show Ó (íd c çj)
def z60(hh:Ċa=Å)(O:ø a=À o)(J:Ŧi)(hd:ϵ=.set es ep t)(L:Ĥc ϖ=Ã)(U:ϖ<Şb)(tb:vM t)(ld:įc=Ϙd)(h:∀h' d tk ord,ord.Perm (ĸf (·.2))->Ý<ϸn->(∀b ob,ø b=À ob->č b=À ob)->Q ord { s with ç:=h',Îc:=d,Ė:=tk }):Ù è A ľp Q E s:=by
 rw[đq];exact Ù _ _ (ôl Ğa Ŗ Ğa) _ _ { s with ç:=Üa äd };unfold ôl;let n:(Ŧp).get? a=À o:=ě _ O;let u:=Ĥ O;let p:Ý≠a:=xj (Œa u);show Ó (íd (T := ś) {o,n,J.1} ?_);let q1:įl Ğa Ŗ=Ä:=by simp[įl,p]
 let q2:(ϟb ś == ϟb Ī)=Ä:=by decide
 let q3:(ϟb ś == ϟb ώ)=Ä:=by decide
 rw[Ñ (by rw[q1,q2,q3];show Ħ)];show Ó (y0p n J hd L U tb ld λy d ord I tp N B v G W0 H=>?_);show Ó (Ϣa (y02 {o,H a o n,J.1} ?_));show ûh đc λz=>Þ ϸ z
 show Ó (ìd Ţf);let z0:(Ŧp).objs.size=Ý+1:=Ϧa ..;rw[z0]at B v;let R:ħd=ϖ:=by rw[N.length_eq,ã,ļ]
 let K:I≠a:=xj (Œa (ŭ (Ņb u) B))
 let q:Ý ∉ [I,a,tp]:=λm=>by simp only[ęa,ϝ,Ļa]at m;rcases m with m|m|m;show Þ B ōl;show p m;rcases v with e|e;show p (Œe e);show Þ e ōl
 exact Ù _ _ (ÿp Ý (·.push .none) >>= λ_=>ÿp Ý (·.pop)) _ _ _;let S:y.get? Ý=À äd:=H _ _ Ũc;show Ó (úh S rfl ?_);let Z:=ãd (èb (·.push ϫa)) S rfl;refine úh (hz:=by seq_fits) Z rfl (ó {ϵd (F.plain_extend_loop) _,?_});let S3:=ãd (èb (·.pop)) Z rfl;let W:=w1b (ă:=ă) (w:=w) (A:=Ìb) (ep:=ep) (t:=t) (es:=es) (by show hh) K G L R
 let k:∀b ob,b≠Ý->y.get? b=À ob->((y.update Ý (èb (·.push ϫa))).update Ý (èb (·.pop))).get? b=À ob:=λb ob r e=>
  (ũm).trans ((ũm).trans e)
 refine codeAny_extend_loopS W.toS (by rw[R];show ϧd U) Ý q Ğa ħd 0 _ #[] _ rfl ũb (W.frame 0 y _ {ŵ _,W0} λb C ob e=>k b ob (λz=>q (z▸C)) e) S3 (ItemsOf.nil _) λP g c' X x f=>?_
 rw[Moved.eq_with X];show Ó (Ţi x ?_)
 let ea:új=ord:=by
  show ìc λj=>?_
  by_cases c:j<ħd;let Y:j<g.size:=by rw[f.1];show c
  rw[Ōa,Łc Y];show(f.2 j _ (Łc Y)).symm;rw[Ùa (by rw[ļ,f.1];omega),Ùa Ê]
 exact Ù _ _ (pure új) _ _ _;rw[ea];show ó (h P.heap d P.toks ord N (Ĥ x) λb ob e=>?_);let i:=Ĥ e;show X.heap b ob (λm=>?_) (k b ob æo (H b ob ĳd));rcases Ğ m with m|m;show Þ i (by rw[m];show Ùc _);rw[Ľ m]at i;show Þ (ŭ i (řm B)) Đa
#print a
nonrec def Kb:Value->Æ
 |.int i _=>i|_=>0
theorem ii:∀{vs:Á Value},(∀v∈vs,∃i t,v=.int i t)->øb vs (Ķg Kb)
 | [],_=>.nil|v::vs,h=>by let{i,t,rfl}:=h v ϱ;show .cons _ _ (ii λx a=>h x ώc)
section
variable{ă:ï}{w:æ}{A:ù}{E:Value->Í->È}
def x50(Y:Ċa=Å)(z:jF ă w a ϻf â)(W:ť<64)(h:∀h' d tk p out c ns',Ý<=p->č p=À Ŀh->øb če ns'->õj ns->ăi (·<=·)->(∀b ob,ø b=À ob->č b=À ob)->Q Ŷ { s with ç:=h',Îc:=d,Ė:=tk }) :Ù è A Ái Q E s:=by
 let{o,es,ep,t,R,L,T,G,I,K,O,N,P}:=z;rw[Üq];refine Ó (m:=ũi Ÿa 1 1 _) (χ (z60 (by show Y) R L T K I O N λC d tk f r F H=>Ó (öf ?_ (by rw[Ğo,ã,ļ];show ϧd I))))
 let n:(ŀp).Perm ϻf:=by let:=r.map ϙa;rw[ϭ]at this;show this.trans P
 let l:∀v∈f,∃i tk,v=ϣb i tk:=λv l=>by let{e,he,rfl}:=Ϻ (ϴn l);let{i,_,ei}:=Ϻ (Ϸn (ĝh l));let:=fU G he;rw[<-ei]at this;rcases jw this with⟨j,tk,_,e⟩|⟨x,tk,e,_⟩;show{j,tk,e};cases e
 let hI:=ii l
 let J:(ťd Kb).Perm ns:=by
  let g:=Żd λk:zY=>match k with|.inl i=>i|.inr _=>(0:Æ)
  rw[ϭ,ϭ]at g
  let e1:ϣ œo=ns:=by rw[show œo=id from rfl,Ĝd]
  let e2:ťd (ñk∘ϙa)=ťd Kb:=ùf λv B=>by let{i,tk,rfl}:=l v B;rfl
  rw[e1,e2]at g;show g
 let u:ϱb<64:=by let:=J.length_eq;rw[ã]at this;omega
 let y:(C.push Ķl).get? ļo=À Ķl:=Ÿ _ rfl;show Ó (Ϣa (łb slot_list_sort {_,y,rfl} entry_list_sort (ϯh y hI u λout ns' Z U S=>{_,rfl,?_}) ņh));let{c,X}:=Õi (vs:=f) (out:=out) y;show ó {_,rfl,h _ d tk ļo out c ns' (Ûa F) X Z (U.trans J) S λb ob e=>?_};let q:=Ĥ äp;rw[Ϯh (xj (Ϟ q)) (by rw[ϕo];show Ņb q)];show ě _ äp
#print a
section
variable{X:Cx}
abbrev Jo(ă:ï)(w:æ)(a:Ë)(ks:Á zY):HO:=.ext (jF ă w a ks)
def x1a(X:Cx):Á V->Hp->VK->È:=λb H Q=>∃(a:Ë) (ks:Á zY),b=Ϯ/\yZ X.K H a Ķf/\Ō<1000/\∀p,H p=Å->Q Ŷ (Ψ (Jo ö X.w p żh))
def z5b(b:ŷ=Ã):vg X Ųf (x1a X):=by
 intro B s σ H F J Q I r h;let{a,f,rfl,j,L,q}:=h;rw[ëq];let{d,i,{o,n,t,A,m,c},C}:=ϙ j;have v:ϱb=ϰ:=by rw[<-ϰb,ã]
 refine z5c Ūj t A c v (lI ö X.w i) (by unfold Şb;omega) λK x g l=>?_
 show{.ref Ý,_,ϖa (a:=Ý) (o:=Jo ö X.w Ý (f.foldl qC [])) (t':=x) l Ď {g,?_,λE G z k=>z.keep k},rfl,q _ Ϟc};let{y,_,_,_,e,_}:=g;show{y,e}
def _root_.L2.Inv.draw(I:Inv X z8 σ H s)(d:Drawn):Inv X z8 σ H { s with Îc:=d }:={Éd,Øc,Ϙa,Ųe,Ĩa,ŀa,ϗa,ļb,ňa,ĝ,ăb}
def x1e(X:Cx):Á V->Hp->VK->È:=λb H Q=>∃(a:Ë) (ns:Á Æ),b=Ϯ/\H a=À (Jo ö X.w a ϻf)/\ť<64/\∀l,H l=Å->Q Ŧb Ϟg
def z5f(f:ŷ=Ã):vg X ϻd (x1e X):=by
 intro B s σ H C E Q I r h;let{a,b,rfl,o,i,q}:=h;rw[ōq];let{z,_}:=(show xo ö X.w H â a (Jo ö X.w a (b.map Į))from ĝ a _ o);show x50 (ģa f) z i λh' d x p k c g l y A v t m=>?_
 let e:g=Æb b:=Bt (v.trans (øc b).symm) t (öe b);subst e;let j:(Æb b).length=ëa:=(øc b).length_eq;show{.ref p,_,(I.draw d).laid (t':=x) (h':=h') m l (show xo ö X.w _ _ _ (Β ((Æb b).map ÿb))from{?_,k.toList,c,Kc A,?_}),rfl,q _ (ğb l)};rw[Śq];show y
#print a
#print L2
namespace L3
open Ł Ş Ŋ L2
nonrec def gQ(a:Á Æ)(n:Æ):Á Æ:=if(Žd λm=>decide (m=n))=Ã then a else a++[n]
def pA(ns:Á Æ):Á Æ:=ŗi gQ []
theorem z3q(a:Á Æ)(n:Æ):qC Ņp (.inl n)=(gQ a n).map Į:=by
 let e:Îb Ņp (.inl n)=Žd λm=>decide (m=n):=by
  unfold Îb;rw[ēi]
  congr 1
  funext m
  show ëf {õc,ķ _}
 unfold qC gQ;rw[e]
 split;rfl;rw[ça];rfl
theorem nB:∀(ns acc:Á Æ),(ϻf).foldl qC (acc.map Į)=(Îo).map Į
 | [],_=>rfl|n::ns,acc=>by rw[Ļ,Êa,Êa,z3q];show nB ns (gQ acc n)
def Tb:Á D->É D
 | [.lst xs]=>(ϕa xs).bind λa=>if ìa<1000/\(pA a).length<64 then À (.lst ((Æb (pA a)).map Ě))else Å|_=>Å
def sU(b:ŷ=Ã)(C:Gl X Ÿa)(I:ð Ÿa=Å)(u:Gl X ś)(m:ð ś=Å)(S:SA X [e] fs)(O:Î Ĉa q12) :SF X (.Call ŏl [.Call (.Name ś p2) [e] [] pos2] [] pos) (eL Tb fs):=by
 let{t,A,k}:=S.h;let z:=U1 (p:=p2) (pos:=pos2) (z5b b) u m z4t {A} Ò Ò (by rw[Ź,O];rfl);refine{{_,(OW (p:=p) (pos:=pos) (z5f b) C I GH (Bc z Nt) Ò Ò).h,λ{T W G H τ σ d Q} E c q=>?_}};let{L,J,c}:=zK c;show k E J λU B Y s P=>?_
 rcases L with _|⟨x_,r_⟩;cases c
 cases x_<;>first|(cases c;done)|skip
 cases r_<;>first|(cases c;done)|skip
 rename_i N;let{f,F,c}:=zK (show(ϕa N).bind _=À d from c)
 split at c;rename_i g;cases c;let{v,rfl,a,Z,rfl,i,x,l}:=py P;rw[ik F]at x l;rw[rQ x]at i
 let i:yZ X.K B a ((Âj).map kV):=by rw[ϭ];show i
 let R:(Âj).foldl qC []=(pA f).map Į:=nB f [];refine{a,ťd Į,rfl,ux s.gh i,by rw[ã];show g.1,λy n=>?_};let j:=s.trans (Ńa (o:=Jo ö X.w y ((Âj).foldl qC [])) s.gh n);refine{y,pA f,rfl,by rw[R];show yt,g.2,λp r=>?_};show q p _ _ (ĳe (Ńa j.gh r)) (j.h.free r) Ϟn {_,yt,ie _,?_};rw[ã,(øc _).length_eq];rw[åq];cases c
#print L3
namespace L2
open Ł Ş Ľa Ŋ
nonrec def QL(i j c:Æ):Â:=if i<j then(ſj/c+1).toNat else 0
def z09{i j c:Æ}(a:0<c):Úf i j c=(QL i j c:Æ):=by
 unfold Úf QL;rw[Ï a]
 split;let:0<=ſj/c:=ģf Ê Ê;omega;rfl
def x5j{i j c:Æ}(a:0<c):QL i j c<=(j-i).toNat:=by
 unfold QL
 split;let:ſj/c<=j-i-1:=Ϫm _ Ê;omega;omega
def x4t{i j c:Æ}(d:0<c)(k:Ŀd<=16777216)(g:Ĵe<=16777216)(p:c<=16777216):âm i j c=Ã:=by
 unfold âm;rw[z09 d];let:=x5j (i:=i) (j:=j) d;simp only[Builtin.Range.rangeFitsLong,Đ,Ĥf,ąf,ŷc,Ï (show c>0 from d)];generalize QL i j c=n at *;let a:∀{x:Æ},-100000000<=x->x<=100000000 -> -2 ^ 63<=x/\x<2 ^ 63:=λh l=>{ãb Ò h,Ģm l Ò}
 let b:∀{x:Æ},x.natAbs<=16777216 -> -16777216<=x/\x<=16777216:=λh=>by omega
 let{e,f}:=b k;let{m,o}:=b g;show{{{{a (ãb Ò e) (ãb f Ò),a (ãb Ò m) (ãb o Ò)},a (ãb Ò (øa d)) (ãb p Ò)},a (ãb Ò Şe) Ê},.inr (a Ê Ê)}
open PySem.AutoSeq1 in
def y2f(l:Ë)(z6:Ú Value)(n:Â)(b:Ë)(a:Ú Value)(o:Â)(m:É Ë)(i:Ú ϯa)(q:¬(!z6.isEmpty&&ϥd (ņ+Ŏ))=Ã)(f:ņ<=å)(e:ņ+Ŏ<=å+1) :Meets (Builtin.«list.extend» {[.ref l,.ref b],[]}) (λ_ R s=>ø l=À { cls:=.type Ī,Åd:=Å,Ċ:=.seq z6 n,źd:=#[] }/\ø b=À { cls:=.type Ī,Åd:=m,Ċ:=.seq a o,źd:=i }/\R (.ok (.ret ϫa)) { s with ç:=ŝc l (èb λx=>x++a),Ė:=ĕ }):=
 .of_wp λj w A R s h=>by
  let{z,g,d,u,v}:=s;let{k,p,h}:=h;let C:=idx_int;let B:=AutoSeq1.sub_tuple_tuple;let y:=AutoSeq1.sub_list_list;let r:=AutoSeq1.sub_tuple_list;let t:=AutoSeq1.sub_list_tuple;let c:(z6++a).size<=å+1:=by rw[Śh];show e
  wp_walk using(úh k rfl (hz:=f) (_hz':=c)),Ðn k,Ðn p
  show{_,rfl,h}
theorem Ϝi:∀{xs:Á V}{us:Á Value},éa=ë->(∀(j:Â)(x:V)(v:Value),xs[j]?=À x->us[j]?=À v->yC x v)->zo xs us
 | [],[],_,_=>.nil| [],_::_,h,_=>by cases h|_::_,[],h,_=>by cases h|x::xs,u::us,h,f=>.cons (f 0 x u rfl rfl) (Ϝi Ća λj y v b a=>f ϫ y v łh ăf)
section
variable{X:Cx}
def x0z(K:Ô):V->Á V->Hp->VK->È:=λx a H Q=>∃l b xs zs,x=.ref l/\a=[.ref b]/\H l=À ϧ/\yZ K H b zs/\ë+üp<=å/\Q .zO (ze H l (Β (xs++zs)))
def y38:CO X "list.extend" (x0z X.K):=by
 intro J s σ H x N v S Q I y G h;let{l,b,P,O,rfl,rfl,m,w,L,q}:=h;cases y;let{u,rfl,t}:=G.one;cases t;let{z,c,n,r,U,e}:=I.Lo m;let{a,o,B,_}:=ϙ w;obtain⟨⟨T,p,R,k⟩,E,i,g,A,f⟩:=B;simp only at g f;subst g f;let C:=ęc;let j:Ġn+Ϗb<=å:=by rw[ĭ,ĭ];omega
 let d:¬ (!c.toArray.isEmpty&&ϥd (Ġn+Ϗb))=Ã:=by rw[mZ j,ĩn];show Ħ
 refine Ŕc F.slot_list_extend {_,e,rfl} F.entry_list_extend (F.args_list_extend_2 _ _)
  (y2f l ϩi n b ϴa E p k d Ņh Ê) {e,i,?_}
 refine{.zO,_,I.Ff (Ïb:=c++a) m e ô (ϕc o) ?_,rfl,q};rw[ì];omega
def dM(a:Ë)(n:Â)(h:Heap):È:=∃t u v,IsRange h a 0 n 1 t u v
abbrev Jm(a:Ë)(n:Â):HO:=.ext (dM a n)
def x17:Á V->Hp->VK->È:=λa H Q=>∃j:Æ,a=[.int j]/\0<=j/\∀p,H p=Å->Q Ŷ (Ψ (Jm p Åa))
def z5a:vg X (.type Ţa) x17:=by
 intro i s σ H f l Q I r h;let{j,rfl,m,q}:=h;let{u,rfl,c}:=qL r;let{t,rfl}:=(show ∃t,u=ϣb j t from c);show Ϻn ?_;let e:((Åa:Â):Æ)=j:=by omega
 let b:dM Ý Åa (Üa { cls:=.type Ţa,Ċ:=.fields #[.int 0 ĕ,.int j t,.int 1 (ĕ+1)] }):=by show{ĕ,t,ĕ+1,?_};rw[e];show ĳo ..
 show{.ref Ý,_,ϖa (a:=Ý) (o:=Jm Ý Åa) Ļh Ď {b,?_,λd g z k=>?_},rfl,q _ Ϟc};let{t,u,v,e}:=b;show{_,e};let{t,u,v,e}:=z;show{t,u,v,k _ e}
def x14:Á V->Hp->VK->È:=λb H Q=>∃(a:Ë) (n:Â),b=Ϯ/\H a=À (Jm a n)/\n<=1000000/\∀p,H p=Å->Q Ŷ (Ψ (.lst ((İb).map λk:Â=>ÿb k)))
def z58(c:ŷ=Ã):vg X Ěa x14:=by
 intro G s σ H K L Q I r h;let{a,n,rfl,y,J,q}:=h;rw[ëq];obtain⟨⟨t,u,v,z⟩,_⟩:=(show xo ö X.w H â a (Jm a n)from ĝ a _ y)
 let E:Úf 0 (n:Æ) 1=(n:Æ):=by
  rw[z09 Ò];unfold QL
  split<;>omega
 refine call_list_range (ģa c) z (x4t Ò Ò Ê Ò) E Ê λN B b C m A d=>?_
 let{f,g}:=d
 let F:zo ((İb).map λk:Â=>ÿb k) ĺe:=by
  refine Ϝi (by simp[f]) λj x v i l=>?_
  rw[ė,æc (by let:=(ĵ l).1;rw[ļ,f]at this;rw[Ôq])]at i
  cases i;let{t,e}:=g j v (by rw[<-Ōa];show l);show{t,?_};rw[e];simp
 show{.ref Ý,_,ϖa (a:=Ý) (o:=.lst ((İb).map λk:Â=>ÿb k)) (t':=B) m Ď {?_,ĺe,C,F,?_},rfl,q _ Ϟc};rw[ã,Úa,Ů];exact n<=16777216;omega;rw[A]
#print a
#print L2
namespace L3
open Ł Ş Ŋ L2
nonrec def Gm:Á D->É D
 | [.int j]=>if 0<=j/\j<=1000000 then À (.lst ((ŭp).map λk:Â=>.int k))else Å|_=>Å
def x1m{K:Ô}{G:Hp}(l:Á Â):ê K G (Õa λk:Â=>Ě k) (Õa λk:Â=>ÿb k):=by
 induction l with
 |nil=>rfl|ñ a r ih=>show{_,_,rfl,rfl,ih}
section
variable{X:Cx}{x y:Ç}{xp yp pos Èa Ϭ:Pos}{e:Ö}{f:FE}
def z04{i j:Â}(w:QE X ž ýb)(A:êa)(p:X.N[j]?=À y)(t:qR ϻ y)(b:Î (Ėb ž "pop" Û Łf=ĩ ž Û) q12)(c:Î Ŀb q12)(a:Î Ϸg q7) :SS X (.Assign [.Name y yp] (.Call (.Attribute ž "pop" Èa) [] [] Ϭ) pos) (WB j i):=by
 show{{_,(OX A p t (x0n Ùf PySem.F.slot_list_pop PySem.F.type_list_pop y3b w b c) rfl a).h,λ{J I G H τ σ C E} K a q=>?_}};unfold WB at a
 rw[æq];rename_i s f;let{d,r,a}:=zK a;by_cases hne:j=i;rw[Ï hne]at a;cases a;rw[Ñ hne]at a;cases a;let{u,n,g,z,m,o,e,l}:=K.ow _ _ f;rw[List.getLast?_eq_getElem?]at r;let{v,k,B}:=e.get r;rw[<-e.length]at k;show{_,n,.inl {rfl,m,ŧa o},u,m,v,rfl,rfl,o,k,?_};show q _ _ _ ((K.J6 (d':=.lst s.dropLast) f n {_,yt,ůn e,?_}).set (ĵ p).1 B);rw[ϫl];omega;cases a
def z03{i:Â}(J:QE X ž ýb)(Q:SE X e f)(j:Î (Ėb ž "extend" Û Łf=ĩ ž Û) q12)(d:Î Ŀb q12)(w:Î Ĉa q12) :SS X (Ζe (.Attribute ž "extend" Èa)) (U6 i f):=by
 let{t,p,k}:=(zD Q zP w).h;refine{{_,(Nu (OV Ùf PySem.F.slot_list_extend PySem.F.type_list_extend y38 J {p} j d (by rw[Ź,w];rfl) Ϭd) rfl).h,λ{S T G H τ σ C E} K a q=>?_}};unfold U6 at a
 rw[æq];rename_i n r;let{y,L,a}:=zK a;cases y with
 |lst ys=>
  change (if Ľd+ů<=yX then À (ϊd (τ.set i (Χa (n++ys))))else Å)=À C at a
  by_cases c:Ľd+ů<=yX;rw[Ï c]at a;cases a;let{N,o,g,z,u,B,s,l}:=K.ow _ _ r;refine{_,o,.inl {rfl,u,ŧa B},k K (ds:=[.lst ys]) (by unfold zC;rw[L];rfl) λW R U m P=>?_};let{v,rfl,b,O,rfl,I,A,_}:=py P;refine{N,b,u,O,rfl,rfl,m.h _ _ B,ux m.gh I,by rw[Ęc,A.length,Ů];show c,?_};show q _ _ _ ((Öa m).J6 r o {_,yt,(s.mono m.g).append A,?_});rw[Ů,ì];show c;rw[Ñ c]at a;cases a
 |_=>cases a
 cases a
def x45{p p2 b:Pos}{fs:FA}(g:ŷ=Ã)(C:Gl X Ī)(F:ð Ī=Å)(m:Gl X Ţa)(l:ð Ţa=Å)(I:SA X [e] fs)(A:Î Ĉa q12) :SF X (.Call Ϯn [.Call (.Name Ţa p2) [e] [] b] [] pos) (eL Gm fs):=by
 let{t,s,k}:=I.h;let r:=U1 (p:=p2) (pos:=b) z5a m l Ϡo {s} Ò Ò ŀm;refine{{_,(U1 (p:=p) (pos:=pos) (z58 g) C F ML (Bc r Nt) Ò Ò).h,λ{O K G H τ σ d Q} E a q=>?_}};let{y,w,a}:=zK a;show k E w λJ N L n B=>?_
 match y,a with
 | [.int j],a=>
  change (if 0<=j/\j<=1000000 then À (όd ((ŭp).map λk:Â=>.int k))else Å)=À d at a
  by_cases c:0<=j/\j<=1000000;rw[Ï c]at a;cases a;let{v,rfl,x}:=py B;cases(show v=.int j from x);refine{j,rfl,c.1,λp z=>{p,Åa,rfl,yt,by omega,λu f=>?_}};let i:=Ŏj (Ńa (o:=Jm p Åa) n.gh z);show q u _ _ Ťl (ùj f) ϟn {_,yt,x1m _,?_};rw[ã,Úa,Ů];exact Åa<=16777216;omega;rw[Ñ c]at a;cases a
#print a
structure YN(K:Ô)(H0 G H:Hp)(p:Ë)(qs:Á Ë)(nds:Á ϓa):È where
 hp:H p=À (Β (ħa ϛa))
 p0:H0 p=Å
 pg:G p=Å
 np:p ∉ qs
 nd:ñj
 ln:Ϙo=ϟi
 el:∀(j:Â)(q:Ë),qs[j]?=À q->∃ds vs,nds[j]?=À ds/\H q=À Ϸp/\H0 q=Å/\G q=Å/\ê K G ds vs/\þ<=å
structure Xl(K:Ô)(n:Â)(G0 H0 G H:Hp)(τ:zx)(σ:St)(i:Â)(nds:Á ϓa):È where
 env:zw K n G0 H0 G H τ σ
 no:jy τ=Ã
 Uh:∃p qs,σ[i]?=À ŵp/\YN K H0 G H p qs nds
inductive NF where
 |nx (nds:Á ϓa) (τ:zx)
 |rt (d:D)
abbrev pP:=Á ϓa->zx->É NF
def TH(K:Ô)(n:Â)(b a:Hp)(E:t6)(i:Â):NF->È
 |.nx nds τ=>∀σ G H,Xl K n b a G H τ σ i nds->E.nx σ H|.rt d=>∀v G H,zS b a G H->zZ K G d v->E.rt v H
structure NS(X:Cx)(i:Â)(st:Ü)(f:pP):È where
 h:∃t,PS X st t/\∀{G0 H0 G H:Hp}{τ:zx}{σ:St}{nds:Á ϓa} {fl:NF} {E:t6},Xl X.K ò G0 H0 G H τ σ i nds->f nds τ=À fl->TH X.K ò G0 H0 E i fl->t E σ H
structure Jj(X:Cx)(i:Â)(st:Á Ü)(f:pP):È where
 h:∃t,ul X st t/\∀{G0 H0 G H:Hp}{τ:zx}{σ:St}{nds:Á ϓa} {fl:NF} {E:t6},Xl X.K ò G0 H0 G H τ σ i nds->f nds τ=À fl->TH X.K ò G0 H0 E i fl->t E σ H
section
variable{K:Ô}{n:Â}{G0 H0 G H G' H':Hp}{τ:zx}{σ:St}{i:Â}{nds:Á ϓa}{p:Ë}{qs:Á Ë}
def ND(x:zS G H G' H'){a:Ë}(b:G a=Å)(c:H a≠Å):G' a=Å:=by
 cases e:G' a with
 |Å=>rfl|À u=>rcases ϵc a ϵg with w|w;show Þ b w;show Þ w c
def YN.go(N:YN K H0 G H p qs nds)(x:zS G H G' H'):YN K H0 G' H' p qs nds:={x.h _ _ N.hp,N.p0,ND x N.pg (by rw[N.hp];show λz=>nomatch z),N.np,N.nd,N.ln,λj q b=>by let{d,c,e1,e2,e,a,r,l}:=N.el j q b;show{d,c,e1,x.h _ _ e2,e,ND x a (by rw[e2];show λz=>nomatch z),ēa x.g,l}}
theorem Xl.go(N:Xl K n G0 H0 G H τ σ i nds)(x:zS G H G' H'):Xl K n G0 H0 G' H' τ σ i nds:=by let{p,qs,e,w}:=N.Uh;show{N.env.go x,N.no,p,qs,e,w.go x}
def BJ(h:jy τ=Ã){j:Â}{d:D}(e:τ[j]?=À ϒb):Ā:=by let:=ãa h _ Űj;cases this
def zw.z3a(E:zw K n G0 H0 G H τ σ)(f:jy τ=Ã){q:Ë}{o:HO}(l:H0 q=Å)(i:G q=Å):zw K n G0 H0 G Ãp τ σ:=by
 let a:∀{c:Hp},c q=Å->yF c H->yF c Ãp:=λ{c} h s b u z=>by rw[yH (p7 z h)];show s _ _ z
 show{{Řj,a l Ře,a i źa,ϱf},Ŵ,ų,ūa,λj d h=>(BJ f h).elim,λj k d e p _ h=>(BJ f h).elim}
def zw.unset(E:zw K n G0 H0 G H τ σ)(b:jy τ=Ã)(v:V):zw K n G0 H0 G H Ċd ďc:=by refine{Űb,by rw[ϟq],by rw[Ġq],λj d h=>?_,λj d h=>?_,λj k d e p _ h=>?_};rcases vz h with⟨_,z⟩|⟨a,z⟩;cases z;rw[uZ a];show ūa j d z;rcases vz h with⟨_,z⟩|⟨a,z⟩;cases z;show(BJ b z).elim;rcases vz h with⟨_,z⟩|⟨a,z⟩;cases z;show(BJ b z).elim
def y4j(h:jy τ=Ã)(i:Â):jy Ċd=Ã:=by
 show çd λs a=>?_
 rcases Óh a with z|z;show ãa h _ z;subst z;rfl
def NE(h:jy τ=Ã)(i:Â)(d:D):jy Ϻh=Ã:=by
 show çd λs a=>?_
 rcases Óh a with z|z;show ãa h _ z;subst z;rfl
theorem zS.t5(x:zS G0 H0 G H):∀(l:Á Ë),ŏj->(∀a∈l,H0 a=Å/\G a=Å/\H a≠Å)->∃G',zS G0 H0 G' H/\yF G G'/\(∀a∈l,G' a=H a)/\∀b,b ∉ l->G' b=G b
 | [],_,_=>{G,x,Ša _,λ_ h=>(Śd).elim,λ_ _=>rfl}|a::l,nd,h=>by
  let{k,n}:=Čk nd;let{g,j,m,e1,i}:=zS.t5 x l n λb d=>h b Űp
  let{q,p,o}:=h a ÿ;cases e:H a with
  |Å=>show Þ e o|À u=>
   let f:g a=Å:=by rw[i a k];show p
   show{ze g a u,j.yj q f e,Œe (tF f u),λb d=>?_,λb d=>?_};by_cases c:b=a;subst c;rw[yt,e];rw[yH c];show e1 b ((Ğ d).resolve_left c);rw[yH (λc:b=a=>d (by rw[c];show ÿ)),i b λc=>d ϧb]
theorem YN.rep(N:YN K H0 G H p qs nds)(x:zS G0 H0 G H)(s:Ϙo<=å):∃G',zS G0 H0 G' H/\zZ K G' (Β (nds.map .lst)) Ŷ:=by
 let c:∀a∈p::qs,H0 a=Å/\G a=Å/\H a≠Å:=λa g=>by rcases Ğ g with rfl|g;show{N.p0,N.pg,by rw[N.hp];show λz=>nomatch z};let{j,y}:=List.getElem?_of_mem g;let{b,m,_,e2,A,u,_}:=N.el j a y;show{A,u,by rw[e2];show λz=>nomatch z}
 let{G',n,o,i,B}:=x.t5 (p::qs) (łc {N.np,N.nd}) c;show{G',n,p,ħa ϛa,rfl,ŧa ((i p ÿ).trans N.hp),?_,by rw[ã];show s}
 let t:∀(j:Â)(q:Ë),qs[j]?=À q->∃b,nds[j]?=À b/\zZ K G' Āg (.ref q):=λj q k=>by let{b,m,e1,e2,_,_,r,l}:=N.el j q k;show{b,e1,q,m,rfl,ŧa ((i q (ŏ _ (Ϸ k))).trans e2),ēa o,l}
 let f:=N.ln;clear c N n i B s x o
 induction nds generalizing qs with
 |nil=>
  cases qs with
  |nil=>rfl|ñ q qs=>cases f
 |ñ d nds ih=>
  cases qs with
  |nil=>cases f|ñ q qs=>
   let{b,e1,w}:=t 0 q rfl;cases e1
   show{_,_,rfl,w,ih (λj v h=>by let{b,e,r}:=t ϫ v Ća;show{b,by rw[ķq],r}) Łh}
theorem TH.near{b c:Hp}{E:t6}{a:NF}(x:zS G0 H0 b c)(h:TH K n G0 H0 E i a):TH K n b H0 E i a:=by
 cases a with
 |nx nds τ=>show λσ G H z=>h σ G H {zw.near x z.env,z.no,z.Uh}|rt d=>show λv G H y r=>h v G H ği r
#print a
nonrec def Tt(f g:pP):pP:=λa τ=>(f a τ).bind λb=>match b with
 |.nx a τ=>g a τ|.rt d=>À (.rt d)
nonrec def mK(k v:FE):pP:=λa τ=>(k τ).bind λx=>(v τ).bind λy=>match x with
 |.int j=>match a[Åa]? with
  |À ds=>if 0<=j/\þ<yX then À (.nx (a.set Åa ϟp) τ)else Å|Å=>Å
 |_=>Å
nonrec def O8(g:FG)(b:pP):Á D->Á ϓa->zx->É NF
 | [],nds,τ=>À (.nx nds τ)|d::ds,nds,τ=>(g d τ).bind λτ'=>(b nds τ').bind λa=>match a with
  |.nx Ķc τ''=>O8 g b ds Ķc τ''|.rt d=>À (.rt d)
def Ts(it:FA)(g:FG)(b:pP):pP:=λa τ=>(it τ).bind λc=>O8 g b c a τ
nonrec def OD:pP:=λa _=>if ìa<=yX then À (.rt (Β (Ìc .lst)))else Å
section
variable{X:Cx}{i:Â}{x:Ç}{p pos ϓ Èa Ϭ xp sp:Pos}{e k v c tg ż:Ö}{f fk fv:FE}{fs:FA}{st:Ü}{sts Ćb:Á Ü}{g g':pP}{fg:FG}
def y4q(b:NS X i st g)(j:Jj X i sts g'):Jj X i Öj (Tt g g'):=by
 let{t,p,k}:=b.h;let{r,c,l}:=j.h;show{{_,OO p c,λ{v s G H τ σ e n E} K a q=>?_}};let{m,b,a}:=zK a;show k K b ?_;cases m with
 |nx Ķc τ'=>show λσ' u o f=>l f a q|rt d=>cases a;show q
def NJ(a:NS X i st g):Jj X i [st] g:={let ⟨t,p,k⟩:=a.h;{t,Nh p,k}}
def y4o(hu:ŗa+1<Ϛ)(ho:QE X ž ýb)(hk:SE X k fk)(hv:SE X v fv)(hp:Î ϑf q12)(p:Î (Ėb éf Ôg Û (ĩ éf Û)=ĩ éf Û) q12)(m:Î Ŀb q12)(hs:Î (xN v=Ã) q12) :NS X i (.Expr (.Call (.Attribute éf Ôg Èa) [v] [] Ϭ) pos) (mK fk fv):=by
 let{tk,pk,kk}:=Äd;let{t,pv,kv}:=(zD hv zP hs).h;refine{{_,(Nu (OV Ùf ĭl īl mJ (o:=.Subscript ž k sp) {BO (l7 (X:=X)) ho.h pk (BS hp)} {pv} p m (by rw[Ź,hs];rfl) Ϭd) rfl).h,λ{G0 H0 G H τ σ S fl E} K b q=>?_}};let{xk,hk,b}:=zK b;let{y,hy,b}:=zK b;cases xk with
 |int j=>
  dsimp only at b;cases hds:S[Åa]? with
  |Å=>rw[hds]at b;cases b|À ds=>
  rw[hds]at b;dsimp only at b;by_cases c:0<=j/\þ<yX;rw[ßq];let{a,n,ea,w}:=K.Uh;show{_,ea,kk K.env hk λu G1 H1 C r1=>?_};cases(show u=.int j from r1);let J:=w.go C;have g:n[Åa]?=À Ţk:=đ _;generalize Ţk=q0 at g
  let R:pS (Żd ϛa) j=À (.ref q0):=by let e:=z43 (xs:=Żd ϛa) (j:=Åa) (v:=.ref q0) (by rw[ė,g];rfl);rw[show((Åa:Â):Æ)=j by omega]at e;show e
  let{ds1,N,e1,e2,_}:=J.el _ _ g;refine{a,Żd ϛa,j,.ref q0,rfl,rfl,ŧa J.hp,R,.inl {rfl,N,ŧa e2},kv (K.env.go C) (ds:=[y]) (by unfold zC;rw[hy];rfl) λus G2 H2 Y r2=>?_};let{u,r,rfl,Q,hr}:=r2;cases(show r=[]from hr);let I:=Öa (C.trans Y);let f:=J.go Y;let{ds2,B,s,U,W,hg,Z,l}:=f.el _ _ g;rw[hds]at s;cases s;refine{q0,B,u,rfl,rfl,U,by rw[Z.length,Ů];show c.2,?_};show q _ _ _ {I.env.z3a I.no W hg,I.no,a,n,ea,?_};let T:a≠q0:=λz=>w.np (z▸Ϸ g)
  refine{by rw[yH T];show f.hp,f.p0,f.pg,f.np,f.nd,by rw[Éa];show f.ln,λj' q' d=>?_};by_cases cj:j'=Åa;subst cj;rw[g]at d;cases d;show{ds++[y],B++[u],Ya (ĵ hds).1,yt,W,hg,Z.append (Ľe Q),?_};rw[ì,Ů];show c.2;let O:q'≠q0:=λz=>cj ((ŗh (ĵ d).1 f.nd).mp (by rw[d,g,z]))
  let{L,P,f1,f2,f3}:=f.el _ _ d;show{L,P,by rw[uZ cj];show f1,by rw[yH O];show f2,f3};rw[Þq]
 |_=>cases b
structure CU(X:Cx)(i:Â)(tg:Ö)(fg:FG):È where
 h:∃t,PG X tg t/\∀{G0 H0 G H:Hp}{τ τ':zx}{σ:St}{d:D}{v:V}{Q:St->Hp->È},zw X.K ò G0 H0 G H τ σ->jy τ=Ã->zZ X.K G d v->fg d τ=À τ'->(∀σ',zw X.K ò G0 H0 G H τ' σ'->jy τ'=Ã->σ'[i]?=σ[i]?->Q σ' H)->t v σ H Q
def x4b{j:Â}(h:QG X öa (ur j))(hi:X.N[j]?=À x)(a:Î (i≠j) q10):CU X i öa (yA j):={{_,h.h,λK c r b q=>by cases b;show q _ Ċn (NE c _ _) (uZ a)}}
def x4a{j l:Â}{y:Ç}{f p2:Pos}{g:Â}(h:QG X ϊk (VW X.K 2 (gU (ur j) (gU (ur l) VV))))(hi:X.N[j]?=À x)(w:X.N[l]?=À y)(e:Î (i≠j) q10)(c:Î (i≠l) q10):CU X i ϊk (vO j l):=⟨⟨_,h.h,λ{F B G H τ τ' σ d v Q} K m r b q=>by
 unfold vO at b
 rw[Ťq];rename_i E A;cases b;let{a,z,rfl,o,{k,C,rfl,n,{s,t,rfl,p,u}},_}:=r;cases(show t=[]from u);show{a,_,rfl,tH ώa o,rfl,k,_,rfl,s,_,rfl,rfl,?_};show q _ ((K.set îb.1 n).set Ŵj.1 p) (NE (NE m _ _) _ _) (by rw[uZ c,uZ e]);cases b⟩⟩
def my(P:Ϥb Ą X.A Û İ)(hc:ŷ=Ã)(hi:SI X tg ż fs)(S:CU X i tg fg)(U:Jj X i Ćb g)(hs:Î (∀x,Úb ż Û x=pure x) q11):NS X i Ñh (Ts fs fg g):=by
 let{ti,C,ki}:=ķc;let{Y,L,kg}:=S.h;let{tb,T,I}:=U.h;show{{_,BW P hc C L T hs,λ{G0 u G H τ σ nds r E} K b q=>?_}};let{c,hd,b}:=zK b;show ki K.env hd λJ l Ha R _ p=>?_
 let k:=Öa R;let s:=TH.near k.env.ext q;show{λj m σ H=>m=üa-j/\j<=üa/\∃τ G nds,Xl X.K ò l u G H τ σ i nds/\O8 fg g (ůd j) nds τ=À r,{üa,rfl,ŵ _,τ,l,nds,{k.env.Wl,k.no,k.Uh},b},?_};rintro j m σ H ⟨rfl,hle,τ,G,nds,K,b⟩;by_cases hlt:j<üa;refine .inr {p.go j G H Ņi Ĕi hlt,λσ' f=>∃τ G nds,Xl X.K ò l u G f τ σ' i nds/\O8 fg g (ůd ϫ) nds τ=À r,λσ' f z=>{üa-ϫ,by omega,rfl,hlt,z},λx f y=>?_};let{G3,d,O,t,B}:=p.tm j G H x f Ņi Ĕi hlt y;rw[Žb hlt]at b;rw[đ hlt]at t;cases t;let{τ1,h1,b}:=zK (show(fg _ τ).bind _=_ from b);let{Z,h2,b}:=zK b;let o:=Öa O;let{a,Q,W,w}:=o.Uh;refine kg o.env o.no B h1 λσ1 E1 n F=>I (nds:=nds) {E1,n,a,Q,by rw[F];show W,w} h2 ?_
 cases Z with
 |nx Âd τ2=>show λσ2 v H2 K2=>{τ2,v,Âd,K2,b}|rt d=>cases b;show s
 let e:ůd j=[]:=àd Ê;rw[e]at b;cases b;show .inl {p.stop j G H Ņi Ĕi Ê,s _ _ _ K}
def y4p(k:Î ăd q12)(hv:Î Ĭd q13)(f:Î ō q10)(e:Î ŷb q10):NS X i Ŏl OD:=by show{{_,ON (Vz k hv f e),λ{o m G H τ σ d l E} K b q=>?_}};unfold OD at b;by_cases c:ϰ<=yX;rw[ßq];let{a,n,j,w}:=K.Uh;let{h,g,r}:=w.rep K.env.ext (by rw[Ů];show c);show{_,j,q _ h H g r};rw[Þq]
#print a
def Q5(i:Â)(b:zx->É Â)(g:pP):FS:=λτ=>match jy τ with
 |Ä=>Å|Ã=>(b τ).bind λm=>(g Ÿi Ċd).bind λa=>match a with
  |.rt d=>À ϋo|.nx _ _=>Å
nonrec def OC(it:FA):zx->É Â:=λτ=>(it τ).bind λa=>À ìa
section
variable{X:Cx}{i:Â}{x:Ç}{pos ϓ p spos:Pos}{e tg ż:Ö}{st:Ü}{fi:zx->É Â}{fs:FA}{yB:Á Ü}{g:pP}{Ń:ða}{cl:Á ϲa}{own:Á Ç}{tG:TG}{fg:FG}
def y3q{G0 H0 G H s r:Hp}{τ:zx}{σ:St}{J:It}{ds:Á D}{Q:Ë->Hp->È}(R:kK X.K J s ds)(l:þ<=å)(K:zw X.K ò G0 H0 G H τ σ)(I:zS G H s r)(hg:BG X Ń cl own tg tG fg)(O:∀d τ,(ϝp).isSome=Ã)(q:∀p qs G' H',zS G H G' H'->YN X.K H G' H' p qs (Ő þ [])->Q p H') :∃W:Â->Â->Á V->Hp->È,(∃m,W 0 m [] r)/\O5 σ Ùb J tG Sf (z0o UH) W λys H'=>∀p,H' p=Å->Q p (ze H' p Ĝa):=by
 let Ka:=Öa I;show{λi m ys H'=>m=þ-i/\i<=þ/\∃(G':Hp) (qs:Á Ë),zS s r G' H'/\ys=ħa ϛa/\ϟi=i/\ñj/\∀b∈qs,H' b=À ēc/\r b=Å/\G' b=Å,{þ,rfl,ŵ _,s,[],őa Ka.ext.gh,rfl,rfl,Ųa,λ_ h=>(Śd).elim},?_};rintro i m ys T ⟨rfl,hle,B,qs,n,rfl,U,Y,A⟩;by_cases hlt:i<þ;refine .inr {R.go i B T n.g n.gh hlt,by rw[ã];omega,λys H'=>∃(G':Hp) (qs:Á Ë),zS s r G' H'/\ys=ħa ϛa/\ϟi=i+1/\ñj/\∀b∈qs,H' b=À ēc/\r b=Å/\G' b=Å,λys' H' z=>{þ-í,ìf _ _ hlt,rfl,hlt,z},λv H' y=>?_};let{Z,d,t,ed,rv}:=R.tm i B T v H' n.g n.gh hlt y;let K3:=((Ka.go n).go t).more Ùb;let{τ1,h1}:=Łb (O d Šh);show hg.k K.l2 K.l1 Z H' d v τ1 _ K3 rv h1 λρ K4=>{{ρ,rfl},?_}
 rw[Ûq];unfold Sf;rw[Ûq];rw[Ï rfl];show{ŵ _,λb f=>?_};let o:=Ŏj t
 let a:b ∉ qs:=λz=>by let:=t.h _ _ (A b z).1;rw[this]at f;cases f
 refine{Z,qs++[b],o.trans (Ńa o.gh f),by rw[ça];rfl,by rw[ì,U];rfl,?_,λc C=>?_};show Āh {Y,łc {ϝ,Ųa},λu hu w hw e=>a (by cases Ľ hw;show e▸hu)};rcases ύ C with z|z;let{E,S,P}:=A c z;let L:=t.h _ _ E;refine{by rw[yH (λe:c=b=>a (e▸z))];show L,S,ND t P (by rw[E];show λz=>nomatch z)};cases Ľ z;show{yt,o.h.free f,o.gh.free f};let ei:i=þ:=by omega
 subst ei;show .inl {R.stop þ B T n.g n.gh Ď,λb f=>?_};let F:=I.trans n
 let a:b ∉ qs:=λz=>by rw[(A b z).1]at f;cases f
 refine q b qs B _ (Ĕg (Ńa F.gh f)) {yt,F.h.free f,F.gh.free f,a,Y,by rw[Įa];show U.symm,λj c C=>?_};let x:=Ϸ C;let{E,S,P}:=A c x;show{[],[],?_,by rw[yH (λe:c=b=>a (e▸x))];show E,I.h.free S,P,rfl,ŵ _};rw[Ϩd,Ï (by let:=(ĵ C).1;omega)]
structure dP(X:Cx)(i:Â)(st:Ü)(f:zx->É Â):È where
 h:∃t,PS X st t/\∀{G0 H0 G H:Hp}{τ:zx}{σ:St}{m:Â}{E:t6},zw X.K ò G0 H0 G H τ σ->f τ=À m->(∀p qs G' H',zS G H G' H'->YN X.K H G' H' p qs Ÿi->E.nx ïf H')->t E σ H
def x4u(a:ŷ=Ã)(z:êa)(g:X.N[i]?=À x)(u:Ðd x=À .local)(B:XT X Ń cl own)(f:Ŵc ık (À Òe) Ăp Û=pure Ã)(hi:SI X tg ż fs)(k:BG X Ń cl own tg tG fg)(b:∀d τ,(ϝp).isSome=Ã)(v:Î (∀x,Úb ż Û x=pure x) q11) :dP X i (.Assign [.Name x ϓ] ık spos) (OC fs):=by let{O,o,y}:=ķc;show{{_,oC a z g u B f o (λC s H e j=>(k.q C s H e j).h) (λC s H e j=>oJ) (λC s H e j=>nT Q0) v,λ{P I G H τ σ m E} K c q=>?_}};let{F,n,c}:=zK c;cases c;show y K n λJ A L w l t=>y3q (Q:=λp r=>E.nx ïf r) t l K w k b q
def x5c(hi:X.N[i]?=À x)(J:dP X i st fi)(v:Jj X i yB g):t_ X (st::yB) (Q5 i fi g):=by
 let{t,p,k}:=J.h;let{P,n,L}:=v.h;show{{_,OO p n,λ{O F G H τ σ f E} K b q=>?_}};unfold Q5 at b;cases no:jy τ with
 |Ä=>rw[no]at b;cases b|Ã=>
 rw[no]at b;let{m,r,b}:=zK (show(fi τ).bind _=À f from b);let{y,A,b}:=zK b;show k K r λa e I o x w=>?_
 let c:i<ò:=îb.1
 let s:YN X.K F I o a e Ÿi:={w.hp,Ŏf w.p0,w.pg,w.np,w.nd,w.ln,λj q l=>by let{C,B,e1,e2,u,z}:=w.el j q l;show{C,B,e1,e2,Ŏf u,z}}
 refine L (nds:=Ő m []) (τ:=τ.set i Å) {(Şj).unset no _,y4j no i,a,e,Ya (by rw[K.l1];show c),s} A ?_;cases y with
 |nx nds τ2=>cases b|rt d=>cases b;show q
#print a
#print L3
namespace L2
open Ł Ş Ľa Ŋ
section
variable{ă:ï}{w:æ}{A:ù}{E:Value->Í->È}
def eh{s:Í}{a:Ë}{kvs:Á œa}{ep:Â}{Q:Á Value->Í->È}(p:Ċa=Å)(lo:ĵa=Ä)(n:èe ùa a kvs ep)(q:ŋ<=å)(h:∀h' tk vs,ē=ŋ->(∀(j:Â)(v:Value),vs[j]?=À v->∃k x,kvs[j]?=À (k,x)/\(ùa).is k v=Ã)->Ý<ϸn->(∀b ob,ø b=À ob->č b=À ob)->Q vs { s with ç:=h',Ė:=tk }):Ù è A ľp Q E s:=by
 rw[đq];let i:a<Ý:=n.lt_size;let g:Ý≠a:=xj (Œa i);rw[Öd ϸ]
 refine W.kdl_extend (R:=λr m=>match r with
  |.ok (.ret v)=>Ù è A (match v with
   |ę a=>(do
    let o <-load a
    match ϵ with
    |.seq xs _=>pure Ϥf|_=>Ěo Ĕm)
   |_=>Ěo Ĕm) Q E m
  |.ok _=>Ā|.error e=>E e m) (s:={ s with ç:=Üa äd }) (W.kdl_dict (knd:=xi ă w) (kvs:=kvs) (ep:=ep) lo) (by show p) (n.push _) Ý g g Ğa 0 Ũc (λh' tk d u t f c=>?_) q
 show Ó (Ţi f ?_);exact Ù _ _ (pure d.toList) _ _ _;refine ó (h h' tk d.toList (by rw[ļ];show c.1) (λj v e=>c.2 j v (by rw[<-Ōa];show e)) Ųj λb ob e=>?_);show t b ob (xj Ũp) ĳd
def im(vs:Á Value)(kvs:Á œa)(ns:Á Æ)(b:ē=ŋ)(a:ϝc (·.1)=ϣ Į)(c:∀(j:Â)(v:Value),vs[j]?=À v->∃k x,kvs[j]?=À (k,x)/\(ùa).is k v=Ã):øb vs ns:=by
 revert kvs ns
 induction vs with
 |nil=>
  intro kvs ns b a _;cases kvs with
  |nil=>
   cases ns with
   |nil=>show .nil|ñ n ns=>cases a
  |ñ _ _=>cases b
 |ñ v vs ih=>
  intro kvs ns b a c;cases kvs with
  |nil=>cases b|ñ kx kvs=>
   cases ns with
   |nil=>cases a|ñ n ns=>let{k,x,e,z}:=c 0 v rfl;cases e;let d:k=Į n:=ϐm.1;subst d;let{t,rfl}:=ŗm (k:=n) (v:=v) z;show .cons _ _ (ih kvs ns łh ϐm.2 λj u f=>by simpa using c ϫ u Łh)
def x4y{s:Í}{a:Ë}{kvs:Á œa}{ep:Â}{ns:Á Æ}{Q:Value->Í->È}(x:Ċa=Å)(lo:ĵa=Ä)(B:èe ùa a kvs ep)(hk:ϝc (·.1)=ϣ Į)(t:ť<64)(h:∀h' tk p out c ns',Ý<=p->č p=À Ŀh->øb če ns'->õj ns->ăi (·<=·)->(∀b ob,ø b=À ob->č b=À ob)->Q Ŷ { s with ç:=h',Ė:=tk }) :Ù è A Ái Q E s:=by
 let C:ŋ=ť:=by
  let:=ķ ĝd hk
  rwa [ã,ã]at this
 let o:ŋ<=å:=by rw[Ů];omega
 rw[Üq];refine Ó (m:=ũi Ÿa 1 1 _) (χ (eh (by show x) lo B o λg tk d l v i n=>Ó (öf ?_ (by rw[l];show o))));let z:=im d kvs ns l hk v;let j:ϰ<64:=by omega
 let k:(g.push Óf).get? Šc=À Óf:=Ÿ _ rfl;show Ó (ηc (ϯh k z j λout ns' y r q=>{_,rfl,?_}) ņh);let{c,u}:=Õi (vs:=d) (out:=out) k;show ó {_,rfl,h _ tk Šc out c ns' (Ûa i) u y r q λb ob e=>?_};rw[Œq]
#print a
section
variable{X:Cx}
theorem Kr:∀{kvs:Á Æa} {vs:Á œa},KV kvs vs->Ķg (·.1)=ϝc (·.1)
 |_,_,.nil=>rfl|_,_,.cons r t=>by rw[Ļ,Ļ,Kr t,r.1]
def x1c:Á V->Hp->VK->È:=λb H Q=>∃(a:Ë) (kvs:Á Æa) (ns:Á Æ),b=Ϯ/\Rd H a ũ/\ϝc (·.1)=ϣ Į/\ť<64/\∀l,H l=Å->Q Ŧb Ϟg
def z5d(b:ŷ=Ã):vg X ϻd x1c:=by
 intro T s σ H U W Q I r h;let{a,P,d,rfl,A,B,g,q}:=h;rw[Ōq];let{_,y,L,i,o,m,C,x,t,F,S,E,N}:=kN ĝ A;let z:èe ŗf a L C:={o,m,x,t,F,S,E,N};show x4y Ūj y z ((Kr i).trans B) g λh' K p k c f l O R G J n=>?_
 let e:f=Æb d:=Bt (G.trans (ęg).symm) J (öe d);subst e;let j:(Æb d).length=ϰ:=(ęg).length_eq;show{.ref p,_,ϖa (t':=K) (h':=h') n l (show xo ö X.w _ _ _ ŉl from{?_,k.toList,c,Kc R,?_}),rfl,q _ (ğb l)};rw[Śq];show O
#print a
#print L2
namespace L3
open Ł Ş Ŋ L2
nonrec def Zj:Á ľ->É Âg
 | []=>À []|.inl i::r=>(Zj r).bind λa=>À Ók|.inr _::_=>Å
theorem Mz:∀{ks:Á ľ} {ns:Á Æ},Zj ks=À ns->ks=ϣ Į
 | [],_,h=>by cases h;rfl|.inl i::r,_,h=>by let{ns,a,h}:=zK h;cases h;rw[Mz a];rfl
 |.inr _::_,_,h=>by cases h
def Gp:Á D->É D
 | [.dic ks _]=>(Zj ks).bind λa=>if ìa<64 then À ļl else Å|_=>Å
def x47{X:Cx}{e:Ö}{fs:FA}{p pos:Pos}(g:ŷ=Ã)(r:Gl X Ÿa)(u:ð Ÿa=Å)(C:SA X [e] fs)(z:Î Ĉa q12) :SF X Œp (eL Gp fs):=by
 let{t,n,k}:=C.h;refine{{_,(OW (p:=p) (pos:=pos) (z5d g) r u GH {n} Ò Ò (by rw[Ź,z];rfl)).h,λ{I N G H τ σ d Q} E b q=>?_}};let{y,x,b}:=zK b;show k E x λK F O i A=>?_
 rcases y with _|⟨x_,r_⟩;cases b
 cases x_<;>first|(cases b;done)|skip
 cases r_<;>first|(cases b;done)|skip
 rename_i w L;let{j,s,b}:=zK b;by_cases c:Şa<64;rw[ßq];let{v,rfl,a,B,rfl,o,P,J,l}:=py A;show{a,w.zip B,j,rfl,Âc i.gh o,?_,c,λm f=>?_};rw[<-Mz s];show ėf Ê;show q m _ _ Ťl (ùj f) ϟn {_,yt,ıd,?_};rw[ã,(øc j).length_eq,Ů];rw[åq];rw[Þq]
#print L3
namespace L2
open Ł Ş Ľa Ŋ
section
variable{X:Cx}{x:Ç}{e:Ö}{es:Á Ö}{t:TA}{p pos:Pos}{i j:Â}
nonrec def z0m(X:Cx)(j i:Â)(t:TA):TE:=λσ H Q=>∃(f:Ë) (fd:Ň) (ps:Á Ç) (k:Â) (sp:Sp),σ[i]?=À řa/\k<=j/\Þa X.K ī=Ã/\uK X.K fd ps []/\xg ö X.w X.K ð ŀ xT k f fd ps sp/\t σ H λa b=>sp (a++[]) b Q E0
def y8x(m:ym j X.A)(z:PE X ϓb ýb)(C:PA X Ę t)(a:Î ôa q12):PE X ůa (z0m X j i t):=by intro g s σ H Q I h;let{f,E,L,k,K,w,B,o,b,F,h}:=h;rw[Ϟq];show Üd (zy (z g s σ H (λv c=>v=.ref f/\c=H) I {_,w,rfl,rfl}) λu n ⟨v,c,l,y,e1,e2⟩=>?_);subst e1 e2;cases y;show ēd (h₀:=ŀ) ğd o (zy (C pos g n σ _ _ l h) λN G ⟨J,O,d,r,q⟩=>{d.wX,?_}) ņe Ŋe;show U4 F (Ŭd B) b .nil Ys d r q
#print a
#print L2
namespace L3
open Ł Ş Ŋ L2
def zw.z32{K:Ô}{n:Â}{o l G H:Hp}{τ:zx}{σ:St}{i:Â}(E:zw K n o l G H τ σ)(v:V):zw K n o l G H Ċd ďc:=by refine{Űb,by rw[ϟq],by rw[Ġq],λj d h=>?_,λj d h=>?_,λj k d e p c q r m g=>?_};rcases vz h with⟨_,z⟩|⟨f,z⟩;cases z;rw[uZ f];show ūa j d z;rcases vz h with⟨_,z⟩|⟨f,z⟩;cases z;rw[uZ f];show Ūa j d z;rcases vz q with⟨_,a⟩|⟨s,a⟩;cases a;rcases vz r with⟨_,b⟩|⟨t,b⟩;cases b;rw[uZ s]at m;rw[uZ t]at g;show ĉb j k d e p c a b m g
def TC(X:Cx)(j:Â)(f:Ë)(F:Á D->É ä):È:=∃(fd:Ň) (ps:Á Ç) (k:Â),k<=j/\Þa X.K ī=Ã/\uK X.K fd ps []/\xg ö X.w X.K ð ŀ xT k f fd ps Ži
structure BX(X:Cx)(i:Â)(t:TS)(f:Ë)(g:FS):È where
 h:∀{G0 H0 G H:Hp}{τ:zx}{σ:St}{fl:Fl}{E:t6},zw X.K ò G0 H0 G H τ σ->σ[i]?=À řa->g τ=À fl->qP X.K ò G0 H0 E fl->t E σ H
inductive ZT(X:Cx)(i:Â)(t:TS):Á Ë->Á FS->È
 |nil:ZT X i t [] []
 |ñ {f:Ë} {fs:Á Ë} {g:FS} {gs:Á FS}:BX X i t f g->ZT X i t fs gs->ZT X i t (f::fs) (g::gs)
def ZT.len{X:Cx}{i:Â}{t:TS}{fs:Á Ë}{a:Á FS}(h:ZT X i t fs a):ŕa=ìa:=by
 induction h with
 |nil=>rfl|ñ _ _ ih=>rw[Ć,Ć,ih]
theorem ZT.get{X:Cx}{i:Â}{t:TS}:∀{fs:Á Ë}{gs:Á FS}{k:Â}{f:Ë},ZT X i t fs gs->fs[k]?=À f->∃g,gs[k]?=À g/\BX X i t f g
 |_,_,_,_,.nil,h=>by cases h|_,_,0,_,.cons b _,h=>by cases h;show{_,rfl,b}|_,_,k+1,_,.cons _ h,e=>ZT.get (k:=k) h ōa
nonrec def gW(i:Â):Á FS->zx->É Fl
 | [],τ=>À (.nx τ)|g::gs,τ=>(g Ċd).bind λa=>match a with
  |.nx τ'=>gW i gs τ'|.ct τ'=>gW i gs τ'|.bk τ'=>À (.nx τ')|f=>À f
section
variable{X:Cx}{x y o gn:Ç}{e:Ö}{es:Á Ö}{fs:FA}{p p2 pos ϓ xp gp:Pos}{i iy j:Â}{Ćb yB:Á Ü}{t:TS}{g:FS}
def TC.of{n:Ç}{ps:Á Ç}{k:Â}{f:Ë}{F:Á D->É ä}(h:v8 ö X.w X.K ð ŀ n ps k Ži)(c:ð n=À ī)(hk:Î Åb q10):TC X j f F:=by let{g,d,a,e,b,F}:=h;rw[c]at a;cases a;show{d,ps,k,hk,e,b,F}
def z4z{m:TA}(t:∀{l e G H:Hp}{τ:zx}{σ:St}{ds:Á D}{Q:Á V->Hp->È},zw X.K ò l e G H τ σ->fs τ=À ds->(∀vs G' H',zS G H G' H'->ê X.K G' ds vs->Q vs H')->m σ H Q){f:Ë}{F:Á D->É ä}(h:TC X j f F){l e G H:Hp}{τ:zx}{σ:St}{d:D}{Q:VK}(E:zw X.K ò l e G H τ σ)(B:σ[i]?=À řa)(a:zf F fs τ=À d)(q:∀v G' H',zS G H G' H'->zZ X.K G' d v->Q v H'):z0m X j i m σ H Q:=by
 let{n,z,k,J,y,b,x}:=h;let{ds,s,a}:=zK a;obtain⟨⟨o,L⟩,O,a⟩:=zK a;cases a;refine{f,n,z,k,_,B,J,y,b,x,t E s λvs I P c C=>{I,ds,o,L,ĸc,by rw[Œ];show C,O,?_}};cases o with
 |Ä=>show λv G' H' g r=>q v G' H' (ϋa g) r|Ã=>intro p G' H' g A gp o;let{u,w,r}:=o.yj gp;show q _ _ _ (ϋa (g.yj A gp w)) r
def z4v(u:ym j X.A)(o:PE X ž ýb)(B:êa)(l:X.N[iy]?=À y)(J:qR ϻ y)(C:SA X Ę fs)(a:t_ X yB g)(z:Î ôa q12)(k:Î (W3 ϟl=Ã) q12)(b:Î Ϸg q7) :∃t,ul X (.Assign [.Name y ϓ] ϟl pos::yB) t/\∀f F,TC X j f F->BX X i t f (zR ům g):=by let{T,m,p}:=C.h;let{U,n,I}:=a.h;show{_,OO (OX B l J {y8x u o m z} k b).h n,λf F s=>{λ{P R G H τ σ L E} K k b q=>?_}};let{Q,c,b}:=zK b;let{d,w,c}:=zK c;cases c;show z4z p s K k w λv S O x r=>I ((Şj).set (ĵ l).1 r) b q
def x5a{a:Ë}{fs:Á Ë}{c:Á FS}(P:Ϥb Ą X.A Û İ)(T:ŷ=Ã)(s:PE X óe (tC Ŗ))(l:∀H,xR X.K H a ċd)(Q:QG X ž ŭb)(hi:X.N[i]?=À x)(R:ul X Ćb t)(F:ZT X i t fs c)(Y:Î (∀x,Úb óe Û x=pure x) q11):SS X (.For ž óe Ćb [] pos) (gW i c):=by
 show{{_,BW P T (nV s) Q.h R Y,λ{J O G H τ σ C E} K b q=>?_}};show{a,rfl,{_,l H},?_};let gl:=ŭg;show{λk m σ H=>m=üa-k/\k<=üa/\∃τ G,zw X.K ò J O G H τ σ/\gW i (ůd k) τ=À C,{üa,rfl,ŵ _,τ,G,K,b},?_};rintro k m σ H ⟨rfl,W,τ,G,K,b⟩;by_cases hlt:k<üa;let j:fs[k]?=À ùo:=đ Ê;generalize ùo=f at j;let I:ċd[k]?=À (ϛa f):=by rw[ė,j];rfl
 refine .inr {{_,_,l H,I},λσ' p=>∃τ G,zw X.K ò J O G p τ σ'/\gW i (ůd Ĩ) τ=À C,λσ' p z=>{üa-Ĩ,by omega,rfl,hlt,z},λv p y=>?_};let{rfl,y}:=y;let e:=y _ (l _);rw[I]at e;cases e;let{g,L,B}:=F.get j;rw[Žb hlt]at b;rw[đ hlt]at L;cases L;let{S,U,b}:=zK (show(c[k] Ċd).bind _=_ from b);let u:i<ò:=îb.1;refine B.h (K.z32 (i:=i) ī) (Ya (by rw[K.l1];show u)) U ?_;cases S with
 |nx τ2=>show λσ2 n Z r=>{τ2,n,r,b}|ct τ2=>show λσ2 n Z r=>{τ2,n,r,b}|bk τ2=>cases b;show q|rt o d=>cases b;show őe q äa äa äa rfl
 let e:ůd k=[]:=àd Ê;rw[e]at b;cases b;show .inl {{_,l H,by rw[ã];omega},q _ _ _ K}
#print a
def CV(K:Ô)(a:Ç->É Value)(A:Ë)(ůb:Á Ç):È:=∃fs:Á Ë,(∀H,xR K H A ċd)/\Ϣi a=Ϣc λf=>À ī
inductive ZX(X:Cx)(j:Â):Á Ç->Á ýd->È
 |nil:ZX X j [] []
 |ñ {n:Ç} {ns:Á Ç} {F:Á D->É ä} {Fs:Á ýd} {ps:Á Ç} {k:Â} (h:v8 ö X.w X.K ð ŀ n ps k Ži) (r:ZX X j ns Fs) (hk:Î Åb q10):ZX X j Ĭg (F::Fs)
section
variable{X:Cx}{x y o gn:Ç}{e:Ö}{es:Á Ö}{fs:FA}{p p2 pos ϓ xp xp2 gp op:Pos}{i iy j:Â}{yB:Á Ü}{g:FS}{a:Ë}{ůb:Á Ç}{Fs:Á ýd}{gs:Á FS}
theorem eI{t:TS}{G:ýd->FS}(a:∀f F,TC X j f F->BX X i t f (G F)):∀{ůb:Á Ç}{Fs:Á ýd} {as:Á Ë},ZX X j ůb Fs->Ϣi ð=as.map (λf=>À ī)->ZT X i t as (Fs.map G)
 |_,_,[],.nil,_=>.nil|_,_,_::_,.nil,h=>by cases h|_,_,[],.cons _ _ _,h=>by cases h|_,_,f::as,.cons hh r hk,h=>by
  rw[Ļ,Ļ]at h;injection h with h1 h2
  show .cons (a _ _ (TC.of hh h1 hk)) (eI a r h2)
def x59(v:Ϥb Ą X.A Û İ)(r:ŷ=Ã)(E:v7 ð gn Ŗ)(d:Gl X gn)(o:CV X.K ð a ůb)(m:ZX X j ůb Fs)(J:ym j X.A)(C:QG X ž ŭb)(hi:X.N[i]?=À x)(s:QE X (.Name x xp2) ýb)(H:êa)(p:X.N[iy]?=À y)(L:qR ϻ y)(I:SA X Ę fs)(b:t_ X yB g)(f:gs=Fs.map λF=>zR ům g)(c:Î ((gn==("__debug__" : Ç))=Ä) q10)(G:Î ôa q12)(k:Î (W3 Él=Ã) q12)(q:Î Ϸg q7)(z:Î (∀x,Úb óe Û x=pure x) q11) :SS X (.For ž óe (.Assign [.Name y op] Él ϓ::yB) [] pos) (gW i gs):=by subst f;let{t,l,B}:=z4v (p2:=p2) (pos:=ϓ) (ϓ:=op) J s.h H p L I b G k q;let{O,n,u}:=o;show x5a v r (OL E d c) n C hi l (eI B m u) z
#print a
section
variable{α:Type}{P:Á α->È}
def z14(h:P []):∀us:Á α,éa=0->P us
 | [],_=>h
def L8{n:Â}(h:∀a (r:Á α),ϯ=n->P ŷd):∀us:Á α,éa=n+1->P us
 |a::r,e=>h a r (ÿd e)
def us1(h:∀a,P [a]):∀us:Á α,éa=1->P us:=L8 λa=>z14 (P:=λr=>P ŷd) Ĵc
def us2(h:∀a b,P Ϝe):∀us:Á α,éa=2->P us:=L8 λa=>us1 (P:=λr=>P ŷd) Ĵc
def us3(h:∀a b c,P [a,b,c]):∀us:Á α,éa=3->P us:=L8 λa=>us2 (P:=λr=>P ŷd) Ĵc
def us4(h:∀a b c d,P [a,b,c,d]):∀us:Á α,éa=4->P us:=L8 λa=>us3 (P:=λr=>P ŷd) Ĵc
def us5(h:∀a b c d e,P [a,b,c,d,e]):∀us:Á α,éa=5->P us:=L8 λa=>us4 (P:=λr=>P ŷd) Ĵc
#print a
abbrev Mh(x:Ç)(st:Ü)(oc:Value)(od:É Ë)(sl:Ú ϯa)(kV dc pm:Value)(an:É Ë)(cd ct:Value):É Obj:=À {oc,od,.func (ϫc x x ŝd ßa ŗ .none kV dc pm an cd ct),sl}
open Ľa
def IR:D->D->É D
 |.lst _,.zO=>À Ķ|.lst xs,.lst ys=>wp ϧ Ĝa|_,_=>Å
def rB(K:Ô):R2:=λx y H Q=>(∃a xs,x=.ref a/\y=.zO/\yZ K H a xs/\Q Ķ H)\/OY K Ã x y H Q
section
variable{X:Cx}{K:Ô}
def y87(d:ŗa+7<Ϛ):xG X ęi (rB X.K):=by intro f s σ H x y v u Q I c b h;rcases h with⟨a,j,rfl,rfl,e,q⟩|h;cases(show v=ę a from c);cases(show u=ϫa from b);let{g,_,i,_}:=ϙ e;show SeqAt.RcNeAt.list_none i.isList Ê _ _ _ _ {.bl Ã,H,I,rfl,q};show gc d f s σ H x y v u Q I c b h
def y72:ZZ K (rB K) IR:=λH x y u v d Q f c b=>by
 cases x with
 |lst xs=>
  cases y with
  |zO=>cases b;let{a,g,rfl,h,_}:=f;cases(show v=V.zO from c);show{_,rfl,λq=>.inl {a,g,rfl,rfl,h,q}}
  |lst ys=>let{w,e,k}:=gZ (K:=K) H ϧ Ĝa u v d Q f c b;show{w,e,λq=>.inr (k q)}
  |_=>cases b
 |_=>cases b
#print a
#print L3
namespace L2
open Ł Ş Ľa Ŋ
def y16{k:zY}{v:Value}(h:qE k v=Ã):yC Ñk v:=by rcases jw h with⟨i,t,rfl,rfl⟩|⟨x,t,rfl,rfl⟩;show{t,rfl};show{t,rfl}
theorem O0:∀{kvs:Á Æa} {vs:Á œa},KV kvs vs->ē=ŋ
 |_,_,.nil=>rfl|_,_,.cons _ t=>by rw[Ć,Ć,O0 t]
#print L2
namespace L3
open Ł Ş Ľa Ŋ L2
nonrec def ϙa:zY->D
 |.inl i=>.int i|.inr x=>.str x
nonrec def Tz:zY->Ð
 |.inl _=>Ã|.inr x=>decide (ϯb<=yX)
def y17{K:Ô}{G:Hp}{k:zY}(h:Tz k=Ã):zZ K G (ϙa k) Ñk:=by
 cases k with
 |inl i=>rfl|inr x=>show{rfl,by rw[Ů];show ţ h}
#print L3
namespace L2
open Ł Ş Ľa Ŋ
section
variable{X:Cx}{z8:Á õ}{σ:St}{H:Hp}{s:Í}{a:Ë}{o:Obj}{kvs:Á Æa}
def Inv.swap(I:Inv X z8 σ H s)(e:H a=À u)(o:∀x,u≠.own x)(k:∀xs,u≠.tup xs)(m:∀ps,ûb a≠À Īe)(t:∀ob v,ûb a≠À ϋi)(j:∀xs,ûb a≠À Śa)(h:xo ö X.w Ţo â a u'):Inv X z8 σ Ţo s:=by
 let f:∀b,H b=Å->b≠a:=λb d z=>by subst z;rw[e]at d;cases d
 show{Éd,Øc,Ϙa,{ıf,Ąe,λb ob q n r=>?_,ûe,λb xs q=>?_,λb ob v q=>?_,λb ps q=>?_},Ĩa,ŀa,?_,λx c q=>?_,λp A=>?_,λb v q=>?_,ăb};let:=ąd b ob q n r;rw[yH (f b this)];rw[Ôq];let d:b≠a:=λz=>by subst z;show j xs q
 rw[yH d];show ěe b xs q;let d:b≠a:=λz=>by subst z;show t ob v q
 rw[yH d];show Ěe b ob v q;let d:b≠a:=λz=>by subst z;show m ps q
 rw[yH d];show Ĝe b ps q;rw[yH (f _ ϗa)];show ϗa;rw[yH (f _ (ļb x c q))];show ļb x c q;let{l,i,B}:=ňa p A;show{l,by rw[yH (f _ i)];show i,B};by_cases d:b=a;subst d;rw[yt]at q;cases q;show h;rw[yH d]at q;show(ĝ b v q).XR (λc w _ z=>z) (λc z=>?_) λc xs z=>?_;let g:c≠a:=λy=>by subst y;rw[e]at z;cases z;show o _ rfl
 rw[yH g];show z;let g:c≠a:=λy=>by subst y;rw[e]at z;cases z;show k _ rfl
 rw[yH g];show z
def Inv.be(I:Inv X z8 σ H s)(e:H a=À ũ):(∀ps,ûb a≠À Īe)/\(∀ob v,ûb a≠À ϋi)/\∀xs,ûb a≠À Śa:=by show{λps z=>?_,λob v z=>?_,λxs z=>?_};let{_,q}:=Ĝe a ps z;rw[e]at q;cases q;let q:=Ěe a ob v z;rw[e]at q;cases q;let q:=ěe a xs z;rw[e]at q;cases q
def Inv.up(I:Inv X z8 σ H s)(e:H a=À ũ):∃o,Inv X z8 σ ĝi s:=by let{d,f,i}:=I.be e;let{z,y,h,r,b,j,k,g,c}:=(show xo ö X.w H â a ũ from ĝ a _ e);show{b,I.swap e äa äa d f i {g,z,y,h,r,b,j,k,g,c}}
def Inv.dn(I:Inv X z8 σ H s)(e:H a=À Ϩa)(n:(∀ps,ûb a≠À Īe)/\(∀ob v,ûb a≠À ϋi)/\∀xs,ûb a≠À Śa):Inv X z8 σ (ze H a ũ) s:=by let{b,d,h}:=n;let{_,z,y,f,r,ob,i,j,g,c}:=(show xo ö X.w H â a Ϩa from ĝ a _ e);show I.swap e äa äa b d h {z,y,f,r,ob,i,j,g,c}
#print a
def x69(i:Â)(t:TE):TE:=λσ H Q=>∃a,σ[i]?=À Íj/\((∃o kvs,H a=À Ϩa/\t σ H Q)\/∃kvs,H a=À ũ/\∀o,t σ ĝi λv b=>b a=À Ϩa/\Q v (ze b a ũ))
def y9a(h:PE X e t):PE X e (x69 i t):=by intro c s σ H Q I b;obtain⟨a,m,⟨_,_,_,b⟩|⟨g,e,b⟩⟩:=b;show h c s σ H Q I b;let{o,f}:=I.up e;show zy (h c s σ _ _ f (b o)) λu l ⟨v,k,d,r,j,q⟩=>{v,_,d.dn j (I.be e),r,q}
def CJ(a:Ë)(o:Obj)(kvs:Á Æa):It:={λi H=>H a=À Ϩa/\i<ŋ,λi H v b=>b=H/\∃k u,kvs[i]?=À (k,u)/\v=kV k,λi H=>H a=À Ϩa/\ŋ<=i}
def Gy(ok:wY P w H h)(e:H a=À Ϩa)(d:ϵ=.dict es ep):ĵa=Ä/\∃vs,KV kvs vs/\h.DictAt êb a vs ep:=by let{g,z,y,vs,r,j,b,i,f,c}:=(show xo P w H h a Ϩa from ok a _ e);rw[g]at f;cases f;show{y,vs,r,o,b,g,c.1,?_,c.2.2};let e1:=c.2.1;rw[d]at e1;cases e1;show d
theorem lN:∀{kvs:Á Æa} {vs:Á œa} {i:Â} {k:zY} {x:Value},KV kvs vs->vs[i]?=À (k,x)->∃u,kvs[i]?=À (k,u)/\yC u x
 |_,_,_,_,_,.nil,e=>by cases e|_,_,0,_,_,.cons r t,e=>by cases e;let{b,a}:=r;show{_,ķ À (Prod.ext b rfl),a}
 |_,_,i+1,_,_,.cons _ t,e=>lN (i:=i) t ōa
def x7x{P:ï}{w:æ}{K:Ô}{tg:Ö}{kvs:Á Æa}{o:Obj}{es:Ú Ďc}{ep:Â}(a it:Ë)(d:ϵ=.dict es ep) :YQ P w K tg Ăo [it] it (λi h=>h.IsKeyIter it a i ŋ ep) where
 mem:=by simp
 obj:=λi h st b j=>by
  let e:b=it:=by simpa using j
  rw[Öq]
 Ũa:=λi h t st k=>st.at λo e=>k it ô o e
 ąb:=by
  rw[áq];let R:i<ϱb:=by rw[m];show p.2
  let r:f[i]?=À (f[i].1,f[i].2):=đ R;let{u,U,_}:=lN g r;let{B,F,T,A,x,J}:=q it ô;rw[<-m]at st;show wpAny_pyNext_dict_item st L r λy t n l S=>?_
  rw[m]at l;let Y:Inv X O σ H { s with ç:=t }:=ób (t':=ĕ) (λb o j e=>(S.2 b j).trans e) B F A x J;let{o,e,c,d}:=id l;show{y,rfl,Ie (s:={ s with ç:=t }) e c d Ò {kV f[i].1,H,Y,y16 n,{rfl,_,_,U,rfl},l,λb j=>(q b j).1}}
 done:=by rw[áq];let r:f[i]?=Å:=Ùa (by rw[m];show p.2);let{B,F,T,A,x,J}:=q it ô;rw[<-m]at st;show wpAny_pyNext_dict_end (ģa Q) st L r λt Z=>{rfl,ób (t':=ĕ) (λb o j e=>Z b o j e) B F A x J}
 Ðc:=λ_ _ _ _ _ st h=>wpAny_pyIter_keyiter st h
def y03(i:Â):TI:=λσ H R=>∃a o kvs,σ[i]?=À Íj/\H a=À Ϩa/\R Ăo H
def y9k{X:Cx}{tg:Ö}{x:Ç}{p:Pos}{i:Â}(E:X.N[i]?=À x)(hv:kJ ϻ x)(z:Î ō q10)(m:Î ŷb q10):PI X tg ϓb (y03 i):=by
 intro t s σ H R I k;let{a,o,h,F,e,k}:=k;show zy (Vz (pos:=p) E hv z m t s σ H (λv j=>v=.ref a/\j=H) I {_,F,rfl,rfl}) λv d ⟨y,j,f,C,e1,e2⟩=>?_
 subst e1 e2;cases(show v=ę a from C);let{g,_,_,_,_,K,G,J,n,_,c,_}:=(show xo ö X.w j d.heap a (.yj o (.dK h))from f.zi a _ e);rw[g]at n;cases n;let{r,A,l,B}:=Gy f.zi e c;let q:A.length=ϖc:=O0 l;show wpAny_pyIter_dict r B ?_;rw[q];show{ød,[ød],_,_,j,rfl,f.kept (t':=d.toks) λb o e=>ě _ e,x7x a _ c,{_,Ÿ _ rfl,rfl,rfl},λb u=>?_,k};let e:b=ød:=by simpa using u
 subst e;show f.Wn Ď (ϝo Ď)
#print L2
namespace L3
open Ł Ş Ľa Ŋ L2
structure Tw(a:Ë)(kvs:Á Æa)(G G':Hp):È where
 ne:∀b,b≠a->G' b=G b
 l:Rd G a ũ
 r:Rd G' a ũ
section
variable{K:Ô}{a:Ë}{o:Obj}{kvs:Á Æa}{G G' H H' G0 H0:Hp}
def Rd.tw(t:Tw a kvs G G')(c:∀ob v,u≠.yj ob v)(h:Rd G b u):Rd G' b u:=by
 rw[ėq]
 let e:u=.dK kvs:=by rcases h with h|⟨ob,h⟩<;>rcases t.l with l|⟨oc,l⟩<;>rw[l]at h;cases h;rfl;cases h;show Þ rfl (c oc _);cases h;cases h;rfl
 rw[e];show t.r;rcases h with h|⟨ob,h⟩;show .inl (by rw[όq]);show .inr {ob,by rw[όq]}
theorem Tw.at{b:Ë}{u:HO}(t:Tw a kvs G G')(h:G b=À u)(d:u≠.dK kvs)(c:∀o,u≠.yj o ũ):G' b=À u:=by rw[ėq];rcases t.l with l|⟨oc,l⟩<;>rw[l]at h;cases h;show Þ rfl d;cases h;show Þ rfl (c oc);rw[όq]
theorem zZ.tw(t:Tw a kvs G G'):∀{d:D}{v:V},zZ K G d v->zZ K G' d v:=λ{d}=>by show Ůg (P:=λd=>∀v,zZ K G d v->zZ K G' d v) Ϻo Úo Öo Õo ?_ ?_ ?_ ?_ ?_ d _;rw[ġq];rcases q with q|q;show .inl Ĉn;show .inr q;rw[ġq];rcases q with q|q;show .inl Ĉn;show .inr q;rintro m g f v ⟨b,c,e,q,z,r,l⟩;show{b,c,e,Rd.tw t όk q,z,òb f r,l};rintro x v ⟨b,C,e,n,h⟩;show{b,C,e,n,t.at h æa äa};rintro x k g f v ⟨b,C,j,c,e,n,h,l,r⟩;show{b,C,j,c,e,n,t.at h æa äa,l,òb f r}
theorem Reps.tw(t:Tw a kvs G G')(h:ê K G ds vs):ê K G' ds vs:=òb (λ_ _ _=>zZ.tw t) h
theorem vx.tw(t:Tw a kvs G G')(f:H' p=H p)(c:vx K G H d p):vx K G' H' d p:=by
 cases d with
 |lst ds=>let{b,e,r,l}:=c;show{b,by rw[f];show e,r.tw t,l}
 |dic ks ds=>let{b,e,z,r,l}:=c;show{b,by rw[f];show e,z,r.tw t,l}
 |_=>show c.elim
def z0u(e:G a=À ũ):Tw a kvs G Ği:={λb c=>yH c,.inl e,.inr {o,yt}}
def x84(e:G a=À Ϩa):Tw a kvs G (ze G a ũ):={λb c=>yH c,.inr {o,e},.inl yt}
nonrec def QP(a:Ë)(f:HO)(H0:Hp):Hp:=λb=>if b=a then(H0 a).bind λ_=>À f else H0 b
def w08(h:b≠a):QP a f H0 b=H0 b:=Ñ h
def w09:QP a f H0 b=Å↔H0 b=Å:=by
 unfold QP;by_cases h:b=a;subst h;rw[Ï rfl];cases H0 b with
 |Å=>show{λ_=>rfl,λ_=>rfl}|À u=>show{λz=>(nomatch z),λz=>(nomatch z)}
 rw[Ñ h]
theorem w07(h:QP a f H0 a=À u):u=f:=by
 unfold QP at h;rw[Ï rfl]at h;cases e:H0 a with
 |Å=>rw[e]at h;cases h|À w=>rw[e]at h;cases h;rfl
def zw.up(E:zw K n G0 H0 G H τ σ)(e:G a=À ũ):zw K n Ği (QP a Ϩa H0) Ği ĝi τ σ:=by
 let t:=z0u (o:=o) e;show{{Ša _,λb u h=>?_,Rv źa,λ_ h=>.inl h},Ŵ,ų,λi d h=>?_,λi d h=>?_,ĉb};rw[ėq];rw[yt,w07 h];rw[w08 hb]at h;rw[yH hb];show Ře _ _ h;let{v,c,r}:=ūa i d h;show{v,c,r.tw t};let{p,c,g,z,j}:=Ūa i d h;let f:p≠a:=λz=>by subst z;rw[e]at g;cases g
 show{p,c,by rw[yH f];show g,w09.mpr z,j.tw t (yH f)}
#print a
def Kn(K:Ô)(i:Â)(τ:zx)(σ:St)(G:Hp):È:=∃a o ks ds vs,τ[i]?=À ŕl/\σ[i]?=À Íj/\G a=À Žo/\Ō=ē/\ê K G ds vs/\þ<=å
structure dN(X:Cx)(i:Â)(e:Ö)(f:FE):È where
 h:∃t,PE X e t/\∀{G0 H0 G H:Hp}{τ:zx}{σ:St}{d:D}{Q:VK},zw X.K ò G0 H0 G H τ σ->Kn X.K i τ σ G->f τ=À d->(∀p G' H',zS G H G' H'->H p=Å->G' p=Å->vx X.K G' H' d p->Q Ŷ H')->t σ H Q
structure dO(X:Cx)(i:Â)(tg ż:Ö)(f:FA):È where
 h:∃wi,PI X tg ż wi/\∀{G0 H0 G H:Hp}{τ:zx}{σ:St}{ds:Á D}{R:It->Hp->È},zw X.K ò G0 H0 G H τ σ->Kn X.K i τ σ G->f τ=À ds->(∀J G' H',zS G H G' H'->þ<=å->kK X.K J G' ds->R J H')->wi σ H R
def Lu(i:Â)(f:zx->É α):È:=∀τ x,f τ=À x->∃ks ds,τ[i]?=À ŕl
def x46(h:dN X i e f)(hk:Lu i f):SF X e f:=by
 let{t,N,k}:=h.h;show{{_,y9a (i:=i) N,λ{U W G H τ σ d Q} K r q=>?_}};let{l,F,y}:=hk _ _ r;let{v,A,a,m,rfl,P,L,E,I}:=K.fr i _ y;show{a,A,?_};rcases P with e|⟨o,e⟩;show .inr {_,ώa _ _ e,λo=>?_};let O:=K.up (o:=o) e;show k O {a,o,l,F,m,y,A,yt,L,E.tw (z0u e),I} r λp J R x B j T=>?_
 let S:H a=À _:=ώa _ _ e;let n:J a=À (.yj o Ϩh):=x.g _ _ yt
 let s:H p=Å:=by by_cases z:p=a;subst z;rw[n]at j;cases j;rw[yH z]at B;show B
 let C:p≠a:=λz=>by subst z;rw[n]at j;cases j
 show{Ĺb _ _ n,q p (ze J a Ϩh) (ze R a Ϩh) {λb u c=>?_,λb u c=>?_,Rv Ĺb,λb c=>?_} s (by rw[yH C];show j) (T.tw (x84 n) (yH C))};rw[Ŭq];rw[e]at c;cases c;show yt;rw[yH z];show x.g _ _ Åm;rw[Ŭq];rw[S]at c;cases c;show yt;rw[yH z];show x.h _ _ Åm;rw[Ŭq];show .inl ϵg;rw[yH z]at c;rcases ϵc b c with w|w;rw[yH z]at w;show .inl w;rw[yH z]at w;show .inr w;show .inl {o,_,ώa _ _ e,k K {a,o,l,F,m,y,A,e,L,E,I} r q}
def Tf(i:Â):FA:=λτ=>match τ[i]? with
 |À (À (Ä,.dic ks _))=>if ks.all Tz=Ã then À òo else Å|_=>Å
def z6i(i:Â):Lu i (Tf i):=λτ x a=>by
 unfold Tf at a
 rw[æq];rename_i c b e;show{c,b,e};cases a
def z6o{K:Ô}{G:Hp}{a:Ë}{o:Obj}{ks:Á zY}{vs:Á V}(j:Ō=ē)(e:G a=À Žo)(h:ks.all Tz=Ã):kK K (CJ a o àb) G òo where
 go:=λi g H f c b=>{c _ _ Ϟp,by rw[ϋq]}
 tm:=λi g H x m f c b y=>by
  let{rfl,k,u,l,rfl}:=y
  let d:ks[i]?=À k:=by let:=ķ (Option.map Prod.fst) l;rw[<-ė,ėf Ê]at this;rw[Ôq]
  show{g,ϙa k,őa c,by rw[ė,d];rfl,y17 (ãa h k (Ϸ d))}
 Ϡ:=λi g H f c b=>{c _ _ Ϟp,by rw[ϋq]}
def x4g{X:Cx}{tg:Ö}{x:Ç}{p:Pos}{i:Â}(t:X.N[i]?=À x)(hv:kJ ϻ x)(k:Î ō q10)(d:Î ŷb q10):dO X i tg ϓb (Tf i):=by
 show{{_,y9k t hv k d,λ{w v G H τ σ l R} K h b q=>?_}};let{a,o,f,n,u,s,r,e,g,j,m}:=h;unfold Tf at b;rw[s]at b
 change (if f.all Tz=Ã then À ŀp else Å)=À l at b
 by_cases c:f.all Tz=Ã;rw[ßq];show{a,o,_,r,ώa _ _ e,q _ _ _ ŝp ?_ (z6o g e c)};rw[ã,g,Şa];show m;rw[Þq]
def z6j(h:Lu i fs):Lu i (wO n fs fg ft f):=λτ x c=>by let{a,b,_}:=zK c;show h τ a b
section
variable{X:Cx}{i:Â}{tg ż elt:Ö}{ifs:Á Ö}{Ń:ða}{cl:Á ϲa}{own:Á Ç}{pos:Pos}{fs:FA}{fg:FG}{ft:FT}{f:FE}{g:TG}
def x44(a:ŷ=Ã)(B:XT X Ń cl own)(hi:dO X i tg ż fs)(m:BG X Ń cl own tg g fg)(v:∀C s H fp pn,TK òa ifs ft)(F:∀C s H fp pn,SE òa elt f)(y:Î (∀x,Úb ż Û x=pure x) q11) :dN X i ľb ĥh:=by
 let{U,n,A}:=ķc;show{{_,nS a B n (Εc (m.q C s H fp pn)) (λC s H fp pn=>GD (v C s H fp pn)) (Βc (F C s H fp pn)) y,λ{P S G H τ σ d Q} K t b q=>?_}};let{R,u,b}:=zK b;let{I,r,b}:=zK b;cases b;show A K t u λJ L O j l w=>N0 w l (Öa j) r (m.k K.l2 K.l1) λo N T c z E p e=>?_
 show q p _ _ (ĳe ĥm) (j.h.free (ýj e)) (ϫi e) {o,yt,z,E}
#print a
nonrec def Ir:Á D->É Âg
 | []=>À []|.int i::r=>(Ir r).bind λa=>À Ók|_::_=>Å
theorem ig{K:Ô}{G:Hp}:∀{xs:Á D}{ns:Á Æ}{vs:Á V},Ir xs=À ns->ê K G xs vs->vs=ϣ ÿb
 | [],ns,vs,h,r=>by cases h;show(show vs=[]from r)|.int i::xs,ns,vs,h,r=>by let{d,b,h}:=zK (show(Ir xs).bind _=_ from h);cases h;let{v,e,rfl,a,c}:=r;cases(show v=.int i from a);rw[ig b c];rfl
 |.zO::_,_,_,h,_=>by cases h|.bl _::_,_,_,h,_=>by cases h|.str _::_,_,_,h,_=>by cases h|.tup _::_,_,_,h,_=>by cases h|.lst _::_,_,_,h,_=>by cases h|.dic _ _::_,_,_,h,_=>by cases h|.exc _::_,_,_,h,_=>by cases h|.obj _ _ _::_,_,_,h,_=>by cases h
nonrec def Gk:Á D->É D
 | [.dic ks _]=>À (.int Ō)|_=>Å
def z55:vg X þd đk:=by intro f s σ H xs g Q I r h;let{a,kvs,rfl,d,q}:=h;let{u,rfl,c}:=qL r;cases c;show z6e I d λt e b=>{.int ŋ,H,b,{t,rfl},q}
def y6t{K:Ô}:Jk K đk Gk:=λG H f e d Q s r b q=>by
 rcases f with _|⟨x_,r_⟩;cases b
 cases x_<;>first|(cases b;done)|skip
 cases r_<;>first|(cases b;done)|skip
 rename_i l xs;cases b;let{v,h,rfl,c,i}:=r;cases(show h=[]from i);let{a,e,rfl,g,j,k,_}:=c;show{a,_,rfl,g,?_};rw[óc,<-j,œb];rw[Ņq]
#print L3
namespace L3
open Ł Ş Ŋ L2
inductive M where
 |fz (d:D)|own (d:D)|obj (x:Ç) (fs:Á Ç) (ms:Á M)|tab (ks:Á ľ) (ms:Á M)|tp (ms:Á M)
mutual
nonrec def vU:M->D
 |.fz d=>d|.own d=>d|.obj x fs ms=>.obj x fs Ċc|.tab ks ms=>.dic ks Ċc|.tp ms=>.tup Ċc
nonrec def Ϸc:Á M->Á D
 | []=>[]|m::ms=>vU m::Ϸc ms
end
nonrec def Ăa{κ α:Type}[řb κ]:Á κ->Á α->κ->É α
 |k'::ks,v::vs,k=>if k'=k then À v else Ăa ks vs k|_,_,_=>Å
nonrec def ug{κ α:Type}[řb κ]:Á κ->Á α->κ->α->Á α
 |k'::ks,v::vs,k,y=>if k'=k then y::vs else v::ug ks vs k y|_,vs,_,_=>vs
inductive wN where
 |at(cs:Á Ç) (f:Ç)|ky (k:Sum Æ Ç)
def z08:M->wN->É M
 |.obj x fs ms,.at cs f=>if x∈cs then Ăa fs ms f else Å|.tab ks ms,.ky k=>Ăa ks ms k|_,_=>Å
def x3y:M->wN->M->M
 |.obj x fs ms,.at _ f,m=>.obj x fs (ug fs ms f m)|.tab ks ms,.ky k,m=>.tab ks (ug ks ms k m)|m,_,_=>m
def jG:M->Á wN->É M
 |m,[]=>À m|m,s::π=>(Źp).bind λa=>jG a π
def jQ:M->Á wN->M->É M
 |_,[],m'=>À m'|m,s::π,m'=>(Źp).bind λb=>(jQ b π m').bind λa=>À (x3y m s a)
abbrev Ft:=Ë->È
mutual
def xq(K:Ô)(G H:Hp):M->V->Ft->È
 |.fz d,v,L=>zZ K G d v/\∀q,¬ L q|.own d,v,L=>∃p,v=.ref p/\vx K G H d p/\∀q,L q↔q=p|.obj x fs ms,v,L=>∃p C dx vs L',v=.ref p/\Ϙ K ġ x=À ğa/\H p=À íh/\ŕa=ē/\ϒ K G H ms vs L'/\¬ L' p/\∀q,L q↔q=p\/L' q|.tab ks ms,v,L=>∃p vs L',v=.ref p/\H p=À īi/\Ō=ē/\ϒ K G H ms vs L'/\ĺa<=å/\¬ L' p/\∀q,L q↔q=p\/L' q|.tp ms,v,L=>∃p vs,v=.ref p/\xR K G p vs/\ϒ K G H ms vs L/\ĺa<=å
def ϒ(K:Ô)(G H:Hp):Á M->Á V->Ft->È
 | [],vs,L=>vs=[]/\∀q,¬ L q|m::ms,vs,L=>∃v r L1 L2,vs=v::r/\xq K G H m v L1/\ϒ K G H ms r L2/\(∀q,L1 q->L2 q->Ā)/\∀q,L q↔L1 q\/L2 q
end
def Ŭg{P:M->È}(f:∀d,P Ļd)(own:∀d,P Ĳj)(a:∀x fs ms,(∀m∈ms,P m)->P Åi)(c:∀ks ms,(∀m∈ms,P m)->P Ĉo)(j:∀ms,(∀m∈ms,P m)->P (.tp ms))(m:M):P m:=
 M.rec (motive_1:=P) (motive_2:=λms=>∀m∈ms,P m) f own (λx fs ms h=>a x fs ms h) (λks ms h=>c ks ms h) (λms h=>j ms h) īm
  (λd k g b e i=>by rcases Ğ i with z|z;show z▸g;show b e z) m
nonrec def eG:HO->Ð
 |.lst _=>Ã|.dK _=>Ã|.ins _ _ _=>Ã|_=>Ä
def Bx(H:Hp)(q:Ë):È:=∃u,H q=À u/\eG u=Ã
def Bx.some{H:Hp}{q:Ë}(b:Bx H q):H q≠Å:=by let{u,e,_}:=b;rw[e];show λz=>nomatch z
section
variable{K:Ô}{G H G' H':Hp}
def vx.loc{d:D}{p:Ë}(g:yF G G')(h:H' p=H p)(o:vx K G H d p):vx K G' H' d p:=by
 cases d with
 |lst ds=>let{a,e,r,l}:=o;show{a,čg e,ēa g,l}
 |dic ks ds=>let{a,e,z,r,l}:=o;show{a,čg e,z,ēa g,l}
 |_=>show ħc
theorem ϊc:∀{ms:Á M}{vs:Á V}{L:Ft},(∀m∈ms,∀v L1,(∀q,L1 q->L q)->xq K G H m v L1->xq K G' H' m v L1)->ϒ K G H ms vs L->ϒ K G' H' ms vs L
 | [],_,_,_,h=>h|m::ms,vs,L,f,h=>by let{v,r,L1,c,e,a,i,j,u}:=h;show{v,r,L1,c,e,f m ÿ v L1 Ŗl a,ϊc (λb d g k s o=>f b Űp g k ϡk o) i,j,u}
theorem xq.loc(g:yF G G')(m:M):∀(v:V)(L:Ft),(∀q,L q->H' q=H q)->xq K G H m v L->xq K G' H' m v L:=by show Ŭg (P:=λm=>∀v L,(∀q,L q->H' q=H q)->xq K G H m v L->xq K G' H' m v L) ?_ ?_ ?_ ?_ ?_ m;rintro d v L h ⟨r,n⟩;show{ēa g,n};rintro d v L h ⟨p,e,o,u⟩;show{p,e,şg g (h p ĕn),u};rintro x E t i v L h ⟨p,C,w,a,j,e,A,k,l,r,n,u⟩;show{p,C,w,a,j,e,A,(Åg).trans k,l,ϊc ϭk r,n,u};rintro F t i v L h ⟨p,a,j,e,k,l,r,B,n,u⟩;show{p,a,j,e,(Åg).trans k,l,ϊc ϭk r,B,n,u};rintro t i v L h ⟨p,a,e,y,r,l⟩;show{p,a,e,tH g y,ϊc (λm c f b s o=>i m c f b Ϲl o) r,l}
theorem Æo:∀{ms:Á M}{vs:Á V}{L:Ft},ϒ K G H ms vs L->ē=ĺa
 | [],_,_,h=>by let{rfl,_}:=h;rfl
 |m::ms,_,_,h=>by let{v,r,b,c,rfl,_,a,_}:=h;rw[Ć,Ć,Æo a]
theorem vx.bx{d:D}{p:Ë}(o:vx K G H d p):Bx H p:=by
 cases d with
 |lst ds=>let{a,e,_}:=o;show{_,e,rfl}
 |dic ks ds=>let{a,e,_}:=o;show{_,e,rfl}
 |_=>show ħc
theorem ěd:∀{ms:Á M}{vs:Á V}{L:Ft},(∀m∈ms,∀v L1,xq K G H m v L1->∀q,L1 q->Bx H q)->ϒ K G H ms vs L->∀q,L q->Bx H q
 | [],_,_,_,h,q,z=>Þ z (h.2 q)|m::ms,vs,L,f,h,q,z=>by let{v,r,L1,g,e,a,d,i,u}:=h;rcases(u q).mp z with z|z;show f m ÿ v L1 a q z;show ěd (λb c=>f b ϧb) d q z
theorem xq.cells(m:M):∀(v:V)(L:Ft),xq K G H m v L->∀q,L q->Bx H q:=by show Ŭg (P:=λm=>∀v L,xq K G H m v L->∀q,L q->Bx H q) ?_ ?_ ?_ ?_ ?_ m;rintro d v L ⟨r,n⟩ q z;show Þ z (n q);rintro d v L ⟨p,e,o,u⟩ q z;cases(u q).mp z;show o.bx;rintro x s f a v L ⟨p,C,h,c,g,e,j,b,l,r,n,u⟩ q z;rcases(u q).mp z with rfl|z;show{_,b,rfl};show ěd a r q z;rintro t f a v L ⟨p,c,g,e,b,l,r,k,n,u⟩ q z;rcases(u q).mp z with rfl|z;show{_,b,rfl};show ěd a r q z;rintro f a v L ⟨p,c,e,i,r,l⟩ q z;show ěd a r q z
theorem Sk:∀(ms:Á M),(Ċc).length=ĺa
 | []=>rfl|m::ms=>by exact(Ċc).length+1=_;rw[Sk ms];rfl
theorem ľe:∀{ms:Á M}{vs:Á V}{L:Ft},(∀m∈ms,∀v L1,(∀q,L1 q->L q)->xq K G H m v L1->zZ K G' Åk v)->ϒ K G H ms vs L->ê K G' Ċc vs
 | [],_,_,_,h=>h.1|m::ms,vs,L,f,h=>by let{v,r,L1,j,e,a,g,k,u}:=h;show{v,r,e,f m ÿ v L1 Ŗl a,ľe (λb c d i s o=>f b ϧb d i ϡk o) g}
theorem xq.jD(g:yF G G')(m:M):∀(v:V)(L:Ft),(∀q,L q->G' q=H q)->xq K G H m v L->zZ K G' Åk v:=by
 show Ŭg (P:=λm=>∀v L,(∀q,L q->G' q=H q)->xq K G H m v L->zZ K G' Åk v) ?_ ?_ ?_ ?_ ?_ m;rintro d v L h ⟨r,n⟩;show ēa g;rintro d v L h ⟨p,rfl,o,u⟩;let b:=h p ĕn;cases d with
 |lst ds=>let{a,e,r,l}:=o;show{p,a,rfl,ŧa (Ϙc e),ēa g,l}
 |dic y ds=>let{a,e,z,r,l}:=o;show{p,a,rfl,.inl (Ϙc e),z,ēa g,l}
 |_=>show ħc
 rintro x F k i v L h ⟨p,C,t,a,E,e,A,b,l,r,n,u⟩;show{p,C,t,a,e,A,(Åg).trans b,l,ľe Ϭk r};rintro y k i v L h ⟨p,a,E,e,b,l,r,B,n,u⟩;show{p,a,e,.inl ((Åg).trans b),l,ľe Ϭk r,by rw[Sk];show B};rintro k i v L h ⟨p,a,e,w,r,l⟩;show{p,a,e,tH g w,ľe (λm c f j s o=>i m c f j Ϲl o) r,by rw[Sk];show l}
theorem Ăe{κ:Type}[řb κ]{k:κ}{A:M}:∀{ks:Á κ}{ms:Á M}{vs:Á V}{L:Ft},ϒ K G H ms vs L->Ăa ks ms k=À A->
  ∃v1 L1,Ăa ks vs k=À v1/\xq K G H A v1 L1/\(∀q,L1 q->L q)/\∀{G' H':Hp}{m2:M}{L2:Ft},yF G G'->(∀q,L q->¬ L1 q->H' q=H q)->xq K G' H' m2 v1 L2->(∀q,L2 q->L q->L1 q)->ϒ K G' H' òn vs Ŋp
 | [],_,_,_,_,e=>by cases e|_::_,[],_,_,_,e=>by cases e|k'::ks,m::ms,vs,L,h,e=>by
  let{v,r,n,y,rfl,x,t,b,u}:=h;unfold Ăa at e;rw[âq];refine{v,n,by unfold Ăa;rw[Ï c],x,λq z=>(Ça).mpr Řb,λ{G' H' m2 L2} g j p l=>?_};unfold ug;rw[Ï c];show{v,r,L2,y,rfl,p,?_,λq d a=>b q (l q d ((Ça).mpr Ĺj)) a,λq=>?_};show ϊc (λE _ C B s o=>şg g E C B λq z=>j q (Δa Żj) λw=>b q w Żj) t;rw[ńq];rw[Ϣq];rcases(u q).mp z with z|z;show Þ z w;rw[ıq];rw[ϝq];show .inl {(Ça).mpr ſa,λw=>b q w z};rw[Ñ c]at e;let{v1,L1,e1,F,i,f}:=Ăe t e;refine{v1,L1,by unfold Ăa;rw[Ñ c];show e1,F,λq z=>(Ça).mpr (.inr (i q z)),λ{G' H' m2 L2} g j p l=>?_};unfold ug;rw[Ñ c];show{v,r,n,λq=>(y q/\¬ L1 q)\/L2 q,rfl,?_,f g (λq z w=>j q Ðe w) p (λq z w=>l q z ((Ça).mpr (.inr w))),λq d a=>?_,λq=>?_}
  show x.loc g m v n λq z=>j q àe λw=>b q z (i q w);rcases a with⟨a,_⟩|a;show b q d a;show b q d (i q (l q a ((Ça).mpr ļj)));rw[ńq];rw[Ϣq];rcases(u q).mp z with z|z;rw[ţq];rintro(z|⟨z,w⟩|z);show .inl {(Ça).mpr Řb,λw=>b q z (i q w)};rw[ŷq]
#print a
def vA(K:Ô)(H:Hp):V->Á wN->V->È
 |v,[],u=>u=v|v,.at cs f::π,u=>∃p x C dx fs w,v=.ref p/\x∈cs/\Ϙ K ġ x=À ğa/\H p=À ĝb/\Āc f=À w/\vA K H w π u|v,.ky k::π,u=>∃p kvs w,v=.ref p/\H p=À ũ/\pG kvs k=À w/\vA K H w π u
theorem B9{κ α:Type}[řb κ][BEq κ][LawfulBEq κ]{k:κ}:∀{ks:Á κ}{vs:Á α},(àb).lookup k=Ăa ks vs k
 | [],_=>rfl|_::_,[]=>rfl|k'::ks,v::vs=>by
  rw[ēb,Óe];unfold Ăa;by_cases c:k'=k;subst c;rw[Ï rfl];simp;rw[Ñ c];let:(k==k')=Ä:=by simpa using λz=>c įb
  rw[this];show B9
theorem iC{α:Type}{k:Sum Æ Ç}:∀{ks:Á ľ} {vs:Á α},Ăa ks vs k=ĉ ks vs k
 | [],_=>by unfold Ăa ĉ;rfl|_::_,[]=>by unfold Ăa ĉ;rfl|k'::ks,v::vs=>by unfold Ăa ĉ;rw[Ĵq];rw[Ñ c,Ñ c];show iC
section
variable{K:Ô}{G H G' H':Hp}
theorem ŉj(s:yF H H'):∀{π:Á wN}{v u:V},vA K H v π u->vA K H' v π u
 | [],_,_,h=>h|.at cs f::π,_,_,h=>by let{p,x,C,d,g,w,e,i,c,a,l,r}:=h;show{p,x,C,d,g,w,e,i,c,s _ _ a,l,ŉj s r}
 |.ky k::π,_,_,h=>by let{p,b,w,e,a,l,r}:=h;show{p,b,w,e,s _ _ a,l,ŉj s r}
theorem ϥc:∀{π:Á wN}{v u u':V},vA K H v π u->vA K H v π u'->u=u'
 | [],_,_,_,h,h'=>čg h'.symm|.at cs f::π,_,_,_,h,h'=>by let{p,x,C,y,E,w,rfl,A,B,d,l,r}:=h;let{i,z,t,o,s,q,e,n,m,a,b,c}:=h';rw[ĝq]
 |.ky k::π,_,_,_,h,h'=>by let{p,j,w,rfl,d,l,r}:=h;let{i,g,q,e,a,b,c}:=h';rw[ĝq]
theorem ňj:∀{π:Á wN}{s:wN}{v u:V},vA K H v (π++[s]) u->∃w,vA K H v π w/\vA K H w [s] u
 | [],_,v,_,h=>{v,rfl,h}|.at cs f::π,_,_,_,h=>by let{p,x,C,i,n,w,e,j,m,b,l,r}:=h;let{g,c,d}:=ňj r;show{g,{p,x,C,i,n,w,e,j,m,b,l,c},d}
 |.ky k::π,_,_,_,h=>by let{p,a,w,e,b,l,r}:=h;let{g,c,d}:=ňj r;show{g,{p,a,w,e,b,l,c},d}
theorem îj{m1:M}:∀{π:Á wN}{m:M}{v:V}{L:Ft},xq K G H m v L->jG m π=À m1->
  ∃v1 L1,vA K H v π v1/\xq K G H m1 v1 L1/\(∀q,L1 q->L q)/\∀{G' H':Hp}{m2:M}{L2:Ft},yF G G'->(∀q,L q->¬ L1 q->H' q=H q)->xq K G' H' m2 v1 L2->(∀q,L2 q->L q->L1 q)->
   ∃m',jQ m π m2=À m'/\xq K G' H' m' v Ŋp
 | [],m,v,L,h,e=>by
  cases e;show{v,L,rfl,h,λ_ z=>z,λ{G' H' m2 L2} g B N t=>{m2,rfl,?_}}
  let e:(Θb (L q/\¬ L q))=L2:=by
   funext q
   show Ōj {λz=>Ũ (λw=>Þ w.1 w.2) id,.inr}
  rw[e];show N
 |s::π,m,v,L,h,e=>by
  let{P,b,ee}:=zK e
  let I:∀{p:Ë}{o L1 L2:Ft},¬ o p->(∀q,L q↔q=p\/o q)->(∀q,L1 q->o q)->(∀q,L2 q->L q->L1 q)->(¬ ((o p/\¬ L1 p)\/L2 p))/\∀q,(ĩl\/L2 q)↔q=p\/(ħl\/L2 q):=λ{p o L1 L2} n u s t=>by show{?_,λq=>{?_,?_}};rintro(⟨z,_⟩|z);show n z;show n (s p (t p z Éf));rw[Ϣq];rcases(u q).mp z with z|z;rw[ţq];rintro(rfl|⟨z,w⟩|z);show .inl {(Ça).mpr Ť,λw=>n (s q w)};rw[ŷq]
  cases m with
  |fz d=>cases b|own d=>cases b|tp a=>cases b|obj x fs a=>
   cases s with
   |ky k=>cases b| «at» cs f=>
    change Žk=À P at b
    rw[ϗq];let{p,C,dx,W,o,rfl,ns,J,l,r,n,u}:=h;rw[Ĝq];refine{v1,L1,{p,x,C,dx,_,Z,rfl,hx,ns,J,by rw[B9];show e1,Y},X,λq z=>(Ça).mpr Ïm,λ{G' H' m2 L2} g B N t=>?_};let{m',U,o'}:=S g Òl N Ñl
    let O:=T g Ϣk o' ùk
    let eL:ņk=ŋp:=by
     funext q
     rw[ăq]
    rw[eL]at O;let{R,Q}:=I n u ϸl t;refine{.obj x fs (ug fs a f m'),by exact(Šf Žk _)=_;rw[Ï hx,b];exact Šf õo _=_;rw[U];rfl,p,C,dx,W,_,rfl,ns,?_,l,O,R,Q};rw[B p Éf λw=>n Ϡn];show J;rw[Ñ hx]at b;cases b
  |tab A a=>
   cases s with
   | «at» cs f=>cases b|ky k=>
    change Ăa A a k=À P at b
    let{p,W,o,rfl,J,l,r,l2,n,u}:=h;rw[Ĝq];refine{v1,L1,{p,_,Z,rfl,J,by rw[UQ _ l,<-iC];show e1,Y},X,λq z=>(Ça).mpr Ïm,λ{G' H' m2 L2} g B N t=>?_};let{m',U,o'}:=S g Òl N Ñl
    let O:=T g Ϣk o' ùk
    let eL:ņk=ŋp:=by
     funext q
     rw[ăq]
    rw[eL]at O;let{R,Q}:=I n u ϸl t;refine{.tab A Ϙn,by exact(Šf (Ăa A a k) _)=_;rw[b];exact Šf õo _=_;rw[U];rfl,p,W,_,rfl,?_,l,O,?_,R,Q};rw[B p Éf λw=>n Ϡn];show J;let:∀{A:Á ľ} {a:Á M},(Ϙn).length=ìa:=λ{A}=>by
     induction A with
     |nil=>intro a;rfl|ñ k' A ih=>
      intro a;cases a with
      |nil=>rfl|ñ y a=>
       unfold ug
       split;rfl;rw[Ć,Ć,ih]
    rw[this];show l2
#print a
abbrev yU:=Á ŵj
nonrec def űb:M->É Sl
 |.fz d=>À (Ä,d)|_=>Å
def kR(β:yU):zx:=β.map λo=>ϡj űb
def gx(β:yU):zx:=β.map λo=>o.map λm=>(Ä,vU m)
mutual
nonrec def uT:D->Ð
 |.zO=>Ã|.bl _=>Ã|.int _=>Ã|.str _=>Ã|.tup ds=>ĳb ds|_=>Ä
nonrec def ĳb:Á D->Ð
 | []=>Ã|d::ds=>uT d&&ĳb ds
end
structure bv(K:Ô)(H0 G H:Hp)(β:yU)(σ:St)(Ls:Â->Ft):È where
 at_:∀(i:Â)(m:M),β[i]?=À ùb->∃v,σ[i]?=À Äa/\xq K G H m v Ýk
 dj:∀(i j:Â)(q:Ë),i≠j->Ls i q->Ls j q->Ā
 ok:∀(i:Â)(q:Ë),Ls i q->G q=Å/\H0 q=Å/\Bx H q
structure zz(K:Ô)(n:Â)(P:Á V)(G0 H0 G H:Hp)(β:yU)(σ:St):È where
 ext:zS G0 H0 G H
 l1:σ.length=n
 l2:β.length=n
 lp:ča<=n
 pin:∀(i:Â)(v:V),P[i]?=À v->σ[i]?=À Äa
 own:∃Ls,bv K H0 G H β σ Ls
section
variable{K:Ô}{n:Â}{P:Á V}{G0 H0 G H G' H':Hp}{β:yU}{σ:St}
def GG{q:Ë}(x:zS G H G' H')(g:G q=Å)(b:Bx H q):G' q=Å/\Bx H' q:=by
 let{u,e,c}:=b;show{?_,u,x.h _ _ e,c};cases z:G' q with
 |Å=>rfl|À o=>rcases ϵc q (by rw[z];show λw=>nomatch w)with w|w;show Þ g w;rw[e]at w;cases w
def zz.go(E:zz K n P G0 H0 G H β σ)(x:zS G H G' H'):zz K n P G0 H0 G' H' β σ:=by let{j,F}:=Ϝa;show{ĸo x,Ŵ,ų,Ĉb,ķb,j,λi m h=>?_,Øa,λi q z=>?_};let{v,e,o}:=ĩa i m h;show{v,e,şg x.g m v _ λq z=>?_};let{u,d,_}:=ūc.2.2;rw[d];show x.h _ _ d;rw[ĺq];let{k,f}:=GG x a c;show{k,b,f}
def y01{i:Â}{b:Ð}{d:D}(h:īe[i]?=À ąe):b=Ä/\β[i]?=À (À Ļd):=by
 unfold kR at h;rw[ė]at h;cases e:β[i]? with
 |Å=>rw[e]at h;cases h|À o=>
  rw[e]at h;cases o with
  |Å=>cases h|À m=>
   cases m with
   |fz d'=>cases h;show{rfl,rfl}|_=>cases h
def x6t{i:Â}{b:Ð}{d:D}(h:Ĭe[i]?=À ąe):b=Ä/\∃m,β[i]?=À ùb/\d=vU m:=by
 unfold gx at h;rw[ė]at h;cases e:β[i]? with
 |Å=>rw[e]at h;cases h|À o=>
  rw[e]at h;cases o with
  |Å=>cases h|À m=>cases h;show{rfl,m,rfl,rfl}
def fZ{τ:zx}(s:yF G H)(c:σ.length=n)(f:τ.length=n)(h:∀(i:Â)(b:Ð)(d:D),τ[i]?=À ąe->b=Ä/\∃v,σ[i]?=À Äa/\zZ K G d v):zw K n G H G H τ σ:=
 {őa s,c,f,λi d e=>(h i Ä d e).2,λi d e=>(by cases(h i Ã d e).1),λi j d e p _ a=>(by cases(h i Ã d a).1)}
def zz.J5(E:zz K n P G0 H0 G H β σ):zw K n G H G H īe σ:=by
 let{c,F}:=Ϝa;refine fZ źa Ŵ (by unfold kR;rw[ã];show ų) λi b d h=>?_
 let{rfl,a}:=y01 h;let{v,e,r,_}:=ĩa i _ a;show{rfl,v,e,r}
def z6a{b c:Hp}{L:Ft}(j:∀q,¬ L q->c q=b q)(g:∀q,L q->Bx b q){a:Ë}{vs:Á V}(h:xR K b a vs):xR K c a vs:=by
 let k:∀{u:HO},eG u=Ä->b a=À u->c a=À u:=λ{u} i e=>by rw[j a λz=>?_];show e;let{w,f,d}:=g a z;rw[e]at f;cases f;rw[i]at d;cases d
 rcases h with h|h;rcases h with h|⟨o,h⟩;show .inl (.inl (k rfl h));show .inl (.inr {o,k rfl h});show .inr h
def fC{g j:Hp}{L:Ft}(s:∀q,¬ L q->j q=g q)(y:∀q,L q->Bx g q)(d:D):∀(v:V),uT d=Ã->zZ K g d v->zZ K j d v:=by
 show Ůg (P:=λd=>∀v,uT d=Ã->zZ K g d v->zZ K j d v) (λv _ h=>h) (λb v _ h=>h) (λi v _ h=>h) (λx v _ h=>h) ?_ (λc f v t=>by cases t) (λB c f v t=>by cases t) (λx v t=>by cases t) (λx A c f v t=>by cases t) d;rintro c f v t ⟨a,m,e,q,r,l⟩;show{a,m,e,z6a s y q,?_,l};let w:ĳb c=Ã:=t;clear t q l
 induction c generalizing m with
 |nil=>show r|ñ x c ih2=>let{u,n,rfl,p,z}:=r;let k:(uT x&&ĳb c)=Ã:=w;rw[Đ]at k;show{u,n,rfl,f x ÿ u k.1 p,ih2 (λd o=>f d (ŏ _ o)) n z k.2}
theorem fD{b c:Hp}{L:Ft}(f:∀q,¬ L q->c q=b q)(e:∀q,L q->Bx b q):∀{ds:Á D}{vs:Á V},ĳb ds=Ã->ê K b ds vs->ê K c ds vs
 | [],_,_,r=>r|d::ds,_,t,r=>by let{u,h,rfl,g,i}:=r;let a:ńn=Ã:=t;rw[Đ]at a;show{u,h,rfl,fC f e d u a.1 g,fD f e a.2 i}
theorem zz.jD(E:zz K n P G0 H0 G H β σ):∃G1,zw K n G1 H G1 H Ĭe σ/\∀G2 H2,zS G1 H G2 H2->∃G3,zS G H G3 H2/\zz K n P G0 H0 G3 H2 β σ/\(∀d v,uT d=Ã->zZ K G2 d v->zZ K G3 d v)/\(∀ds vs,ĳb ds=Ã->ê K G2 ds vs->ê K G3 ds vs)/\∀q,G2 q=Å->G3 q=Å:=by
 classical
 let{y,F}:=Ϝa
 let +zeta L:Ft:=λq=>∃i,y i q
 let p:∀q,L q->G q=Å:=λq ⟨i,z⟩=>ūc.1
 let s:∀q,L q->Bx H q:=λq ⟨i,z⟩=>ūc.2.2
 let +zeta G1:Hp:=λq=>if L q then H q else G q
 let e1:∀q,L q->G1 q=H q:=λq z=>Ï z
 let e2:∀q,¬ L q->G1 q=G q:=λq z=>Ñ z
 let k:yF G G1:=λq o e=>by rw[e2 q λz=>by rw[p q z]at e;cases e];show e
 let B:yF G1 H:=λq o e=>by rw[řq];rw[e1 q c]at e;show e;rw[e2 q c]at e;show źa _ _ e
 refine{G1,fZ B Ŵ (by unfold gx;rw[ã];show ų) λi b d h=>?_,λG2 H2 x=>?_};let{rfl,m,A,rfl}:=x6t h;let{v,e,o}:=ĩa i m A;show{rfl,v,e,o.jD k m v _ λq z=>e1 q {i,z}};let +zeta G3:Hp:=λq=>if L q then Å else G2 q
 let a:∀q,¬ L q->G3 q=G2 q:=λq z=>Ñ z
 let f:∀q,L q->G3 q=Å:=λq z=>Ï z
 let j:∀q,L q->Bx G2 q:=λq z=>by let{u,C,c}:=s q z;show{u,x.g _ _ ((e1 q z).trans C),c}
 let l:zS G H G3 H2:=by
  show{λq o e=>?_,x.h,λq o e=>?_,λq z=>?_};let c:¬ L q:=λz=>by rw[p q z]at e;cases e
  rw[a q c];show x.g _ _ (k _ _ e);rw[řq];rw[f q c]at e;cases e;rw[a q c]at e;show Ĺb _ _ e;rw[řq];rw[f q c]at z;show Þ rfl z;rw[a q c]at z;rcases ϵc q z with w|w;rw[e2 q c]at w;show .inl w;show .inr w
 show{G3,l,âa l,λd v t r=>fC a j d v t r,λds vs t r=>fD a j t r,λq z=>?_};rw[řq];show f q c;rw[a q c];show z
def Bs{α:Type}{xs:Á α}{x y:α}{i:Â}(h:Ñj[i]?=À y):(i<ë/\xs[i]?=À y)\/(i=ë/\y=x):=by
 rcases Ĕd i ë with c|c;rw[Ůa c]at h;show .inl {c,h};rw[Żb c]at h;cases z:i-ë with
 |ň=>rw[z]at h;cases h;show .inr {by omega,rfl}|Ŝ k=>rw[z]at h;cases h
def gf{α:Type}{xs:Á α}{x:α}{n:Â}(h:ë=n):Ñj[n]?=À x:=by subst h;rw[Żb Ď,úc];rfl
def uw{α:Type}{xs:Á α}{x:α}{i:Â}(h:i<ë):Ñj[i]?=xs[i]?:=Ůa h
def zz.push{m:M}{v:V}{L:Ft}(E:zz K n P G0 H0 G H β σ)(o:xq K G H m v L)(g:∀Ls,bv K H0 G H β σ Ls->∀i q,Ls i q->L q->Ā)(ok:∀q,L q->G q=Å/\H0 q=Å/\Bx H q):zz K Ĝ P G0 H0 G H ñe Ġb:=by
 let{Ls,F}:=Ϝa;let d:=g Ls F;refine{Űb,by rw[ì,Ŵ];rfl,by rw[ì,ų];rfl,by let:=Ĉb;omega,λi u h=>?_,λj=>if j<n then Ls j else if j=n then L else λ_=>Ā,λi l h=>?_,λi j q f b a=>?_,λi q z=>?_};let k:i<σ.length:=by rw[ĕq]
 rw[uw k];show ķb i u h;rcases Bs h with⟨c,e⟩|⟨c,e⟩;rw[ų]at c;let{u,p,r}:=ĩa i l e;refine{u,by rw[uw ϲd];show p,?_};simp only[Ï c];show r;cases e;rw[ų]at c;subst c;show{v,gf Ŵ,?_};simp only[Ùc,ċa,ϋ];show o;skip
 rw[Ťq];rw[æq];show Øa i j q f b a;rw[æq];show d i q b a;show a;rw[Ťq];rw[æq];show d j q a b;rw[æq];show f Ê;show a;show b;skip
 rw[şq];show ŉa i q z;rw[şq];show ok q z;show Ũ
def zz.Ui{d:D}{v:V}(E:zz K n P G0 H0 G H β σ)(r:zZ K G d v):zz K Ĝ P G0 H0 G H ðn Ġb:=
 E.push (L:=λ_=>Ā) {r,λ_ z=>z} (λ_ _ _ _ _ z=>z) λ_ z=>Ũ
def zz.z3b{d:D}{p:Ë}(E:zz K n P G0 H0 G H β σ)(x:zS G H G' H')(m:H p=Å)(y:G' p=Å)(o:vx K G' H' d p):zz K Ĝ P G0 H0 G' H' (β++[À Ĳj]) (σ++[À Ŷ]):=by
 let{r,F}:=Ϝa;let L:=âa x;show{?_,?_,?_,?_,?_,?_}<;>try first|show L.ext|show(by rw[ì,Ŵ];rfl)|show(by rw[ì,ų];rfl)
 let:=Ĉb;omega;intro i u h
 let A:i<σ.length:=by rw[ĕq]
 rw[uw A];show ķb i u h;let s:∀i q,r i q->q≠p:=λi q z c=>by subst c;show ūc.2.2.some m
 show{λj=>if j<n then r j else if j=n then(λq=>q=p)else λ_=>Ā,λi l h=>?_,λi j q v k f=>?_,λi q z=>?_};rcases Bs h with⟨c,e⟩|⟨c,e⟩;rw[ų]at c;let{u,J,B}:=ĩa i l e;refine{u,by rw[uw ϲd];show J,?_};simp only[Ï c];show B.loc x.g l u _ λq z=>?_
 let{w,t,_}:=ūc.2.2;rw[t];show x.h _ _ t;rw[ćq];show{p,rfl,o,λq=>Ġc};skip
 split at k;split at f;show Øa i j q v k f;split at f;show s i q k f;show f;split at k;split at f;show s j q f k;split at f;show v Ê;show f;show k;skip
 rw[şq];rw[ĺq];let{I,C}:=GG x a c;show{I,b,C};rw[şq];subst z;show{y,ĕi m,o.bx};show Ũ
def zz.bi{m:M}{v:V}{i:Â}(hi:i<n)(r:ča<=i)(e:σ.length=n)(b:β.length=n)(E:zz K Ĝ P G0 H0 G H ñe Ġb):zz K n P G0 H0 G H (β.set i ùb) ďc:=by
 let{l,F}:=Ϝa;refine{Űb,by rw[Éa];show e,by rw[Éa];show b,by omega,λj u h=>?_,λj=>if j=i then l n else if j<n then l j else λ_=>Ā,λj p h=>?_,λj k q d c a=>?_,λj q z=>?_};let o:j<ča:=ϻa.1;rw[uZ Ê];let:=ķb j u h;rw[Ŝq];rcases vz h with⟨rfl,w⟩|⟨d,w⟩;cases w;let{u,f,g}:=ĩa n _ (gf b);rw[gf e]at f;cases f;simp only[ϋ];show{v,Ya Ê,g};have o:j<n:=by rw[<-b];show Ŵj.1
 let{u,f,g}:=ĩa j p ŧl;rw[uw Ê]at f;simp only[Ñ d,Ï o];show{u,by rw[uZ d];show f,g};skip
 split at c;rw[æq];show d Ê;rw[æq];show Øa n k q Ê c a;show a;split at c;rw[æq];show Øa j n q Ê c a;rw[æq];show Øa j k q d c a;show a;show c;skip
 rw[şq];show ŉa n q z;rw[şq];show ŉa j q z;show Ũ
def zz.pop{m:É M}{v:É V}(b:σ.length=n)(a:β.length=n)(e:ča<=n)(E:zz K Ĝ P G0 H0 G H Äg Ãg):zz K n P G0 H0 G H β σ:=by
 let{d,F}:=Ϝa;show{Űb,b,a,e,λj u h=>?_,d,λj f h=>?_,Øa,ŉa};let g:j<ča:=ϻa.1;let:=ķb j u h;rw[Ŝq];have g:j<n:=by rw[<-a];show ϻa.1
 let{u,c,i}:=ĩa j f (by rw[uw Ê];show h);rw[uw Ê]at c;show{u,c,i}
#print a
inductive kG where
 |nx (β:yU)|rt (m:M) (β:yU)|bk (β:yU)|ct (β:yU)
abbrev yd:=yU->É kG
abbrev tR:=yU->É (M×yU)
abbrev qt:=yU->É (Ð×yU)
def TD(K:Ô)(n:Â)(P:Á V)(b a:Hp)(E:t6):kG->È
 |.nx β=>∀σ G H,zz K n P b a G H β σ->E.nx σ H|.bk β=>∀σ G H,zz K n P b a G H β σ->E.bk σ H|.ct β=>∀σ G H,zz K n P b a G H β σ->E.ct σ H|.rt m β=>∀σ v G H,zz K Ĝ P b a G H ñe Ġb->E.rt v H
section
variable(X:Cx)
structure MC(e:Ö)(f:tR):È where
 h:∃t,PE X e t/\∀{P:Á V}{G0 H0 G H:Hp}{β β':yU}{σ:St}{m:M}{Q:VK},zz X.K ò P G0 H0 G H β σ->f β=À (m,β')->(∀v G' H',yF G G'->zz X.K (ò+1) P G0 H0 G' H' Ļn Ġb->Q v H')->t σ H Q
structure MT(e:Ö)(f:qt):È where
 h:∃t,PT X e t/\∀{P:Á V}{G0 H0 G H:Hp}{β β':yU}{σ:St}{b:Ð}{Q:Ð->Hp->È},zz X.K ò P G0 H0 G H β σ->f β=À (b,β')->(∀G' H',yF G G'->zz X.K ò P G0 H0 G' H' β' σ->Q b H')->t σ H Q
structure MW(e:Ö)(f:qt):È where
 h:∃t,PW X e t/\∀{P:Á V}{G0 H0 G H:Hp}{β β':yU}{σ:St}{b:Ð}{Q:Ð->Hp->È},zz X.K ò P G0 H0 G H β σ->f β=À (b,β')->(∀G' H',yF G G'->zz X.K ò P G0 H0 G' H' β' σ->Q b H')->t σ H Q
structure MS(np:Â)(st:Ü)(f:yd):È where
 h:∃t,PS X st t/\∀{P:Á V}{G0 H0 G H:Hp}{β:yU}{σ:St}{fl:kG}{E:t6},ča=np->zz X.K ò P G0 H0 G H β σ->f β=À fl->TD X.K ò P G0 H0 E fl->t E σ H
structure je(np:Â)(st:Á Ü)(f:yd):È where
 h:∃t,ul X st t/\∀{P:Á V}{G0 H0 G H:Hp}{β:yU}{σ:St}{fl:kG}{E:t6},ča=np->zz X.K ò P G0 H0 G H β σ->f β=À fl->TD X.K ò P G0 H0 E fl->t E σ H
#print a
section
variable{K:Ô}{n:Â}{P:Á V}{G0 H0 G H:Hp}{β:yU}{σ:St}{m:M}{v:V}{d:D}
def zz.J3{m:É M}{v:É V}(E:zz K Ĝ P G0 H0 G H Äg Ãg):σ.length=n:=by let:=Ŵ;rw[ì]at this;show ÿd this
def zz.Wi{m:É M}{v:É V}(E:zz K Ĝ P G0 H0 G H Äg Ãg):β.length=n:=by let:=ų;rw[ì]at this;show ÿd this
def zz.Fe(E:zz K Ĝ P G0 H0 G H ðn Ġb):zZ K G d v:=by let{b,F}:=Ϝa;let{u,a,r,_}:=ĩa n _ ϛp;rw[gf E.J3]at a;cases a;show r
def zz.Fj{i:Â}(E:zz K n P G0 H0 G H β σ)(hi:i<n)(a:ča<=i)(r:zZ K G d v):zz K n P G0 H0 G H ãn ďc:=(E.Ui r).bi hi a Ŵ ų
theorem zz.Wl(E:zz K n P G0 H0 G H β σ):zz K n P G H0 G H β σ:={E.ext.Wl,Ŵ,ų,Ĉb,ķb,Ϝa}
def zz.near{b c:Hp}(a:zS G0 H0 b c)(E:zz K n P b H0 G H β σ):zz K n P G0 H0 G H β σ:={a.rebase Űb,Ŵ,ų,Ĉb,ķb,Ϝa}
theorem TD.near{b c:Hp}{E:t6}{a:kG}(x:zS G0 H0 b c)(h:TD K n P G0 H0 E a):TD K n P b H0 E a:=by
 cases a with
 |nx τ=>show λσ G H z=>h σ G H Ńf|bk τ=>show λσ G H z=>h σ G H Ńf|ct τ=>show λσ G H z=>h σ G H Ńf|rt m β=>show λσ v G H z=>h σ v G H Ńf
#print a
def we(f:FE):tR:=λβ=>(ώj).bind λd=>À (.fz d,β)
def jh(f:FE):tR:=λβ=>(ύj).bind λd=>match uT d with
 |Ã=>À (.fz d,β)|Ä=>Å
def IF(f:FE):tR:=λβ=>(ώj).bind λd=>À (.own d,β)
def Y4(f:FT):qt:=λβ=>(ύj).bind λb=>À (b,β)
nonrec def Sq(f g:qt):qt:=λβ=>(īc).bind λr=>match r.1 with
 |Ã=>g r.2|Ä=>À (Ä,r.2)
nonrec def TR:M->É D
 |.fz d=>À d|_=>Å
def Sr(f:tR):qt:=λβ=>(īc).bind λr=>(Īj).bind λx=>(Śg).bind λb=>À (b,r.2)
def M9{m:M}{d:D}(h:TR m=À d):m=.fz d:=by
 cases m with
 |fz d'=>cases h;rfl|_=>cases h
section
variable{X:Cx}{x:Ç}{p pos:Pos}{e a b:Ö}{yB:Á Ö}{f:FE}{ft:FT}{r:R2}{g:tR}{u u':qt}
def vo(h:SE X e f):MC X e (we f):=by rw[Ğq];rw[ïq];show k E.J5 b λv c i x r=>q v c i x.g ((âa x).Ui r)
def Zo(h:SE X e f):MC X e (jh f):=by
 rw[Ğq];let{d,i,a}:=zK a;cases c:uT d with
 |Ä=>rw[c]at a;cases a|Ã=>
  rw[c]at a;cases a;let{w,j,b}:=E.jD;show k j i λv u l x r=>?_
  let{n,m,o,s,_}:=b _ _ x;show q v n l m.g (o.Ui (s d v c r))
def N9(h:SF X e f):MC X e (IF f):=by rw[Ğq];let{d,i,a}:=zK a;cases a;show k E.J5 i λp j l x b c o=>q _ j l x.g (E.z3b x b c o)
def Vs(h:ST X e ft):MT X e (Y4 ft):=by
 rw[íq];show{{t,p,λE c q=>?_}};let{b,l,c}:=zK c;cases c;let{o,d,a}:=E.jD;show k d l λn f x=>?_
 let{j,i,m,_}:=a _ _ x;show q j f i.g m
def y3e(h:MT X a u):MW X øh u:={let ⟨t,p,k⟩:=h.h;{t,oY p,k}}
def y3d(n:MT X a u)(j:MW X ïe u'):MW X ġe (Sq u u'):=by
 let{t,f,o}:=n.h;let{r,l,i}:=j.h;show{{_,oX f l,λE c q=>?_}};obtain⟨⟨k,β1⟩,m,c⟩:=zK c;show o E m λw v e d=>?_
 cases k with
 |Ã=>show kT (i d c λs p g E2=>q _ _ (ĕc g) E2)|Ä=>cases c;show kS (q _ _ e d)
def y3f(h:MW X e u):MT X e u:={let ⟨t,p,k⟩:=h.h;{t,p.pt,k}}
def zz.down{K:Ô}{n:Â}{P:Á V}{b a G H:Hp}{β:yU}{σ:St}{m:É M}{v:É V}(c:ča<=n)(E:zz K Ĝ P b a G H Äg Ãg):zz K n P b a G H β σ:=E.pop E.J3 E.Wi c
def y3c(h:MC X e g)(j:Î âp q12):MT X e (Sr g):=by
 rw[íq];show{{_,oI p (nc j),λE a q=>?_}};obtain⟨⟨o,β1⟩,d,a⟩:=zK a;let{r,e1,a}:=zK a;cases M9 e1;let{b,i,a}:=zK a;cases a;show k E d λl n m f c=>?_
 show{_,Bg c.Fe i,q _ _ f (c.down Ĉb)}
#print a
nonrec def Yn:yd:=λβ=>À (.nx β)
nonrec def xK(a b:yd):yd:=λβ=>(a β).bind λf=>match f with
 |.nx β'=>b β'|f=>À f
nonrec def Ym(c:qt)(a b:yd):yd:=λβ=>(Ĭc).bind λr=>match r.1 with
 |Ã=>a r.2|Ä=>b r.2
nonrec def Yo(f:tR):yd:=λβ=>(īc).bind λr=>À (.rt r.1 r.2)
nonrec def qb(f:tR):yd:=λβ=>(īc).bind λr=>À ϵp
nonrec def uv(i:Â)(f:tR):yd:=λβ=>(īc).bind λr=>À (.nx (r.2.set i (À r.1)))
abbrev MG:=D->yU->É yU
nonrec def Th(i j:Â):MG:=λd β=>match d with
 |.tup Ïc=>À ((δa (À (.fz x))).set j (À (.fz y)))|_=>Å
nonrec def gV(g:MG)(b:yd):Á D->yU->É kG
 | [],β=>À (.nx β)|d::r,β=>(g d β).bind λβ1=>(Ĳg).bind λf=>match f with
  |.nx β2=>gV g b r β2|.ct β2=>gV g b r β2|.bk β2=>À Ϫb|.rt m β2=>À Œi
def N6(it:FA)(g:MG)(b:yd):yd:=λβ=>(it īe).bind λa=>gV g b a β
nonrec def gB(c:qt)(b:yd):Â->yU->É kG
 |0,_=>Å|n+1,β=>(Ĭc).bind λr=>match r.1 with
  |Ä=>À ϵp|Ã=>(ϓj).bind λf=>match f with
   |.nx β2=>gB c b n β2|.ct β2=>gB c b n β2|.bk β2=>À Ϫb|.rt m β2=>À Œi
def N7(c:qt)(b:yd):yd:=λβ=>gB c b YL β
section
variable{X:Cx}{np:Â}{x:Ç}{p pos ϓ:Pos}{e c tg ż:Ö}{st:Ü}{sts Ćb:Á Ü}{f g:yd}{h:tR}{u:qt}{fs:FA}
def Tr:je X np [] Yn:={{_,oG,λ{P d b G H β σ c E} _ K a q=>by cases a;show q σ G H K}}
def wQ(b:MS X np st f)(j:je X np sts g):je X np Öj (xK f g):=by
 let{t,p,k}:=b.h;let{s,e,l}:=j.h;show{{_,OO p e,λ{P w u G H β σ n E} c K a q=>?_}};let{m,b,a}:=zK a;show k c K b ?_;cases m with
 |nx τ'=>show λσ' v r i=>l c i a q|bk τ'=>cases a;show q|ct τ'=>cases a;show q|rt o d=>cases a;show q
def vR(a:MS X np st f):je X np [st] f:={let ⟨t,p,k⟩:=a.h;{t,Nh p,k}}
def Tp{d e:Á Ü}(l:MT X c u)(s:je X np d f)(o:je X np e g):MS X np (.If c d e pos) (Ym u f g):=by
 let{y,pc,n}:=l.h;let{z,j,t}:=s.h;let{w,p,m}:=o.h;show{{_,oA pc j p,λ{P C x G H β σ v E} i K a q=>?_}};obtain⟨⟨k,β1⟩,r,a⟩:=zK a;show n K r λB A _ b=>?_
 cases k with
 |Ã=>show kT (t i b a q)|Ä=>show kS (m i b a q)
def OB(c:MC X e h):MS X np êf (Yo h):=by let{t,p,k}:=c.h;show{{_,ON p,λ{P n i G H β σ f E} l K a q=>?_}};obtain⟨⟨m,β1⟩,d,a⟩:=zK a;cases a;show k K d λv j g _ b=>q _ v _ _ b
def gX(d:MC X e h)(c:Î æl q12):MS X np ñi (qb h):=by let{t,p,k}:=d.h;show{{_,o9 p c,λ{P o j G H β σ g E} n K a q=>?_}};obtain⟨⟨m,β1⟩,f,a⟩:=zK a;cases a;show k K f λv l i _ b=>q _ _ _ (b.down ųb)
def jN{i:Â}{x:Ç}{ϓ:Pos}(g:êa)(hi:X.N[i]?=À x)(c:qR ϻ x)(s:np<=i)(f:MC X e h)(d:Î ēe q12)(a:Î Ŭa q7) :MS X np Ľc (uv i h):=by let{t,p,k}:=f.h;show{{_,(OX g hi c {p} d a).h,λ{P w o G H β σ l E} u K a q=>?_}};obtain⟨⟨m,β1⟩,j,a⟩:=zK a;cases a;show k K j λv r n _ b=>q _ _ _ (b.bi îb.1 Ê b.J3 b.Wi)
structure dH(X:Cx)(np:Â)(tg:Ö)(fg:MG):È where
 h:∃t,PG X tg t/\∀{P:Á V}{G0 H0 G H:Hp}{β β':yU}{σ:St}{d:D}{v:V}{Q:St->Hp->È},ča=np->zz X.K ò P G0 H0 G H β σ->zZ X.K G d v->fg d β=À β'->(∀σ',zz X.K ò P G0 H0 G H β' σ'->Q σ' H)->t v σ H Q
def y30{i j:Â}{x y:Ç}{c p2:Pos}{e:Â}(h:QG X ϋk Ϯe)(hi:X.N[i]?=À x)(p:X.N[j]?=À y)(z:np<=i)(B:np<=j):dH X np ϋk (Th i j):=⟨⟨_,h.h,λ{P E u G H β β' σ d v Q} A K r b q=>by
 unfold Th at b
 rw[Ťq];rename_i C t;cases b;let{a,s,rfl,k,{f,w,rfl,g,{m,n,rfl,l,o}},_}:=r;cases(show n=[]from o);show{a,_,rfl,tH ώa k,rfl,f,_,rfl,m,_,rfl,rfl,?_};show q _ ((K.Fj îb.1 Ê g).Fj (ĵ p).1 Ê l);cases b⟩⟩
def y36{c:MG}(O:Ϥb Ą X.A Û İ)(hc:ŷ=Ã)(hi:SI X tg ż fs)(R:dH X np tg c)(S:je X np Ćb g)(hs:Î (∀x,Úb ż Û x=pure x) q11):MS X np Ñh (N6 fs c g):=by
 let{ti,C,ki}:=ķc;let{U,I,kg}:=R.h;let{tb,T,F}:=S.h;show{{_,BW O hc C I T hs,λ{P G0 s G H τ σ p E} t K a q=>?_}};let{b,Y,a}:=zK a;show ki K.J5 Y λJ k Ha Q _ o=>?_
 let u:=Öa Q;let l:=TD.near u.ext q;show{λi m σ H=>m=ëa-i/\i<=ëa/\∃τ G,zz X.K ò P k s G H τ σ/\gV c g (ďg i) τ=À p,{ëa,rfl,ŵ _,τ,k,u.Wl,a},?_};rw[Ěq];show .inr {o.go i G H Ŗd ώa hlt,λσ' f=>∃τ G,zz X.K ò P k s G f τ σ'/\gV c g Ľp τ=À p,λσ' f z=>{ëa-í,ìf _ _ hlt,rfl,hlt,z},λx f y=>?_};let{G3,d,L,r,v}:=o.tm i G H x f Ŗd ώa hlt y;rw[Žb hlt]at a;rw[đ hlt]at r;cases r;let{τ1,Z,a}:=zK (show(c _ τ).bind _=_ from a);let{W,h2,a}:=zK a;show kg t (Öa L) v Z λσ1 B=>F t B h2 ?_
 cases W with
 |nx τ2=>show λσ2 j H2 n=>{τ2,j,n,a}|ct τ2=>show λσ2 j H2 n=>{τ2,j,n,a}|bk τ2=>cases a;show l|rt m β=>cases a;show l
 let e:i=ëa:=by omega
 subst e;rw[List.drop_length]at a;cases a;show .inl {o.stop _ G H Ŗd ώa Ď,l _ _ _ K}
def y37(s:Ϥb Ą X.A Û İ)(p:MT X c u)(v:je X np Ćb g):MS X np Ŭl (N7 u g):=by
 let{J,pc,t}:=p.h;let{I,x,r}:=v.h;show{{_,oE s pc x,λ{P l j G H τ σ e E} y K a q=>?_}};show{λm σ H=>∃τ G,zz X.K ò P l j G H τ σ/\gB u g m τ=À e,{YL,τ,G,K,a},?_};rintro m σ H ⟨τ,G,K,a⟩;cases m with
 |ň=>cases a|Ŝ n=>
  obtain⟨⟨k,β1⟩,C,a⟩:=zK (show(u τ).bind _=_ from a);show t K C λO L _ f=>?_
  cases k with
  |Ä=>cases a;show kS (q _ _ _ f)|Ã=>
   let{F,o,a}:=zK (show(g β1).bind _=_ from a);show kT {λσ' i=>∃τ G,zz X.K ò P l j G i τ σ'/\gB u g n τ=À e,λσ' i z=>{n,Čb n,z},r y f o ?_};cases F with
   |nx τ2=>show λσ2 b B d=>{τ2,b,d,a}|ct τ2=>show λσ2 b B d=>{τ2,b,d,a}|bk τ2=>cases a;show q|rt m β=>cases a;show q
#print a
def kf(β:yU)(i:Â)(π:Á wN):É M:=match β[i]? with
 |À ùb=>jG m π|_=>Å
def Ëc(β:yU)(i:Â)(π:Á wN)(m2:M):É yU:=match β[i]? with
 |À ùb=>(ôo).bind λa=>À źn|_=>Å
def Vu{β:yU}{i:Â}{π:Á wN}{a:M}(h:kf β i π=À a):∃m,β[i]?=À ùb/\jG m π=À a:=by
 unfold kf at h
 rw[ìq];rename_i m e;show{m,e,h};cases h
def BZ{β:yU}{i:Â}{π:Á wN}{m a m2:M}(h:β[i]?=À ùb)(e:jQ m π m2=À a):Ëc β i π m2=À źn:=by unfold Ëc;rw[h];exact(ôo).bind _=_;rw[e];rfl
def vi(K:Ô)(a:Á Ç)(f:Ç):È:=∀x∈a,∀C,Ϙ K ġ x=À ğa->qO K C/\Xm K C f
structure SP(X:Cx)(e:Ö)(i:Â)(π:Á wN):È where
 h:∃t,PE X e t/\∀{σ:St}{H:Hp}{v u:V}{Q:VK},σ[i]?=À Äa->vA X.K H v π u->Q u H->t σ H Q
section
variable{X:Cx}{x f:Ç}{p pos:Pos}{e:Ö}{i:Â}{π:Á wN}{cs:Á Ç}
def xz(i:Â){x:Ç}{pos:Pos}(c:Î ăd q12)(hv:Î Ĭd q13)(d:Î ō q10)(b:Î ŷb q10):SP X öa i []:={{_,Vz c hv d b,λe a q=>by cases(show _=_ from a);show{_,e,q}}}
def qd(h:SP X e i π)(k:vi X.K cs f)(s:Î õl q12):SP X óf i (π++[.at cs f]):=by let{t,p,g}:=h.h;show{{_,nQ p s,λe a q=>?_}};let{w,m,b}:=a.snoc;let{p,x,C,d,u,v,rfl,j,r,o,l,rfl}:=b;let{c,n}:=k x j C r;show g e m {p,C,d,u,_,rfl,o,c,n,l,q}
#print a
section
variable{K:Ô}{n:Â}{P:Á V}{G0 H0 G H:Hp}{β:yU}{σ:St}
def zz.write{m X I:M}{W:V}{i:Â}{π:Á wN}(E:zz K Ĝ P G0 H0 G H (β++[À I]) (σ++[À W]))(hP:ča<=n)(S:β[i]?=À ùb)(ha:jG m π=À X) :∃r v1 L1 Lr,σ[i]?=À Ŷj/\vA K H r π v1/\xq K G H X v1 L1/\xq K G H I W Lr/\(∀q,L1 q->Lr q->Ā)/\
   ∀{H':Hp}{m2:M}{L2:Ft},(∀q,¬ L1 q->H' q=H q)->xq K G H' m2 v1 L2->(∀q,L2 q->L1 q\/Lr q)->∃m',jQ m π m2=À m'/\zz K n P G0 H0 G H' (δa (À m')) σ:=by
 let{s,F}:=Ϝa;let x:=E.J3;let l:=E.Wi;have hi:i<n:=by rw[<-l];show(ĵ S).1
 let{r,L,Y}:=ĩa i m (by rw[uw Ê];show S);rw[uw Ê]at L;let{u,y,Q}:=ĩa n I (gf l);rw[gf x]at y;cases y;let{v1,L1,va,o1,p,Z}:=Y.focus ha;let N:∀q,L1 q->s n q->Ā:=λq a b=>Øa i n q Ê (p q a) b
 show{r,v1,L1,s n,L,va,o1,Q,N,λ{H' m2 L2} t U C=>?_}
 let{m',e',o'}:=Z (Ša G) (λq _ z=>t q z) U (λq z w=>by rcases C q z with c|c;show c;show Þ c λc=>Øa i n q Ê w c)
 let A:∀q,L1 q->G q=Å/\H0 q=Å:=λq z=>{Ŧm.1,Ŧm.2.1}
 show{m',e',{Řj,λq o z=>?_,λq o z=>?_,ϱf},x,by rw[Éa];show l,hP,λj w h=>?_,λj=>if j=i then(Θb ϻm)else if j<n then s j else λ_=>Ā,λj T h=>?_,λj k q f e d=>?_,λj q z=>?_}
 .rw[t q λw=>by rw[Ϙj.2]at z;cases z];show Ře _ _ z
 .rw[t q λw=>by rw[Ϙj.1]at z;cases z];show źa _ _ z
 .let B:j<ča:=ϻa.1;let:=ķb j w h;rw[Ŝq]
 .rcases vz h with⟨rfl,w⟩|⟨f,w⟩
  .cases w;simp only[ϋ];show{r,L,o'}
  .have B:j<n:=by rw[<-l];show Ŵj.1
   let{u,y,ou}:=ĩa j T ŧl;rw[uw Ê]at y;simp only[Ñ f,Ï B];show{u,y,ou.loc (Ša G) T u _ λq z=>t q λJ=>Øa i j q Ħf (p q J) z}
 .let v:∀j,j≠i->j<n->∀q,ϻm\/L2 q->s j q->Ā:=λj f B q e d=>by
   rcases e with⟨e,_⟩|e;show Øa i j q Ħf e d;rcases C q e with c|c;show Øa i j q Ħf (p q c) d;show Øa n j q Ê c d
  rw[Ϛq]
  .rw[Ĕq];show f Ê;rw[Ĕq];show v k Ê Ê q e d;show d
  .rw[Ϛq];rw[Ĕq];show v j Ê Ê q d e;rw[Ĕq];show Øa j k q f e d;show d;show e
 .split at z
  .rcases z with⟨z,w⟩|z
   .rw[ĺq];let{u,O,R}:=c;show{a,b,u,(t q w).trans O,R}
   .show{?_,?_,U.cells m2 _ _ q z}
    .rcases C q z with c|c
     .show(A q c).1
     .show ŉo.1
    .rcases C q z with c|c
     .show(A q c).2
     .show ŉo.2.1
  .split at z
   .rename_i f B;let{a,b,c}:=ŉa j q z;let{u,O,R}:=c;show{a,b,u,(t q λJ=>Øa i j q Ħf (p q J) z).trans O,R}
   .show Ũ
#print a
def Zm(i:Â)(π:Á wN)(b:FE)(c:tR):yd:=λβ=>(Ĭc).bind λr=>(Īj).bind λy=>(ϝn).bind λa=>match a with
 |.own ϸp=>(ýo).bind λx=>match x with
  |.int j=>(Űo).bind λn=>(Ωd (Β Ĥi)).bind λβ2=>À Ϫb|_=>Å
 |_=>Å
def Vp(i:Â)(π:Á wN)(b:FE)(c:tR):yd:=λβ=>(Ĭc).bind λr=>(Īj).bind λy=>(ϝn).bind λa=>match a with
 |.own Ďo=>(ýo).bind λx=>(Źe).bind λx=>match decide (Ō<yX)with
  |Ã=>(Ωd (.dic ύp Ŀn)).bind λβ2=>À Ϫb|Ä=>Å
 |_=>Å
section
variable{X:Cx}{np:Â}{o k v:Ö}{i:Â}{π:Á wN}{fk:FE}{fv:tR}{pos ϓ:Pos}
def X_(ho:SP X o i π)(hk:SE X k fk)(hv:MC X v fv)(T:Î ϑf q12)(hs:Î (Ói Èf v İd Û=pure Ä) q12)(Z:Î (Ôi Èf v Û=pure Å) q12)(h1:Î ((ýe Èf Û).map (·.2)=[Èc Ðm Û]) q12):MS X np đm (Zm i π fk fv):=by
 let{tk,S,U}:=Äd;rw[ũq];show{{_,nv R (og {po} {S} sP T).h hs Z h1,λ{P G0 H0 G H β σ fl E} hP K a q=>?_}};rw[Ċq];let{nd,W,a}:=zK a
 rw[æq];rename_i ds;let{xk,hx,a}:=zK a;cases xk with
 |int j=>
  let{e,x,a}:=zK a;let{β2,I,a}:=zK a;cases a;let{mm,t,F}:=Vu W;show kv K hy λw G1 H1 s1 g=>?_
  let{r,v1,L1,Lr,L,O,_}:=g.write ųb t F;show ko L O ?_;let{Ga,Ea,d}:=(g.down ųb).jD;show U Ea hx λu G2 H2 Y r2=>?_
  cases(show u=_ from r2);let{G3,J,_,_}:=d _ _ Y;let B:=g.go J;let{r',v1',L1',Lr',b,f,n,or',Q,s}:=B.write ųb t F;rw[L]at b;cases b;cases ϥc (ňg J.h) f;let{p,rfl,{N,ev,C,l},A}:=n;let{m',e',K5}:=s (H':=ze H2 p (Β (N.set e w))) (m2:=.own (Β (ϩj e y))) (L2:=λq=>q=p) (Ξd (A q)) {p,rfl,{_,yt,ág B.Fe e C,by rw[Éa];show l},λ_=>Ġc} (γd (A q));rw[BZ t e']at I;cases I;show{p,N,j,e,rfl,rfl,ev,by rw[C.length];show x,q _ _ _ K5}
 |_=>cases a
 cases a
def OA(hu:ŗa+1<Ϛ)(ho:SP X o i π)(hk:SE X k fk)(hv:MC X v fv)(hs:Î (εb Ðm) q12):MS X np đm (Vp i π fk fv):=by
 let{tk,S,T}:=Äd;rw[ũq];show{{_,o7 hu po S R hs,λ{P G0 H0 G H β σ fl E} hP K a q=>?_}};rw[Ċq];let{nd,U,a}:=zK a
 rw[æq];rename_i ks t;let{xk,hx,a}:=zK a;let{b,d,a}:=zK a
 rw[æq];rename_i c;let c:=ţ c;let{β2,J,a}:=zK a;cases a;let{mm,B,I}:=Vu U;show kv K hy λw G1 H1 s1 j=>?_
 let{r,v1,L1,Lr,N,O,_}:=j.write ųb B I;show ko N O ?_;let{Ga,Ea,f}:=(j.down ųb).jD;show T Ea hx λu G2 H2 W r2=>?_
 let{G3,L,_,_}:=f _ _ W;let F:=j.go L;let{r',v1',Z,Y,e,g,n,or',Q,x}:=F.write ųb B I;rw[N]at e;cases e;cases ϥc (ňg L.h) g;let{p,rfl,{vs,ev,l,s,hl},C}:=n
 let{m',e',K5}:=x (H':=ze H2 p (.dK (qG àb b w))) (m2:=.own (.dic (wE ks b) (wG ks t b y))) (L2:=λq=>q=p) (Ξd (C q))
  ⟨p,rfl,⟨wG ks vs b w,by rw[yt,Ab l],W9 l,s.put F.Fe,by
   let h1:=Nj (ks:=ks) (vs:=t) (k:=b) (v:=y) (by rw[l,Ęc]);have h2:Īb<16777216:=by rw[<-Ęc,<-l];show c
   rw[Ů];omega⟩,λ_=>Ġc⟩ (γd (C q))
 rw[BZ B e']at J;cases J;show{p,_,rfl,.inl {_,b,ev,Yg d r2,by rw[óc,l,œb,Ů,<-l];show c,rfl},q _ _ _ K5};cases a;cases a
#print a
nonrec def Zu(fs:Á Ç)(f:Ç):Á Ç:=if f∈fs then fs else fs++[f]
def jP{α:Type}(fs:Á Ç)(ms:Á α)(f:Ç)(m:α):Á α:=if f∈fs then ug fs ms f m else ms++[m]
theorem oP{f:Ç}{w:V}:∀{fs:Á Ç}{vs:Á V},ŕa=ē->ĺb f w Ųo=(Ċe).zip ŉn
 | [],[],_=>by unfold Zu jP;rw[Ñ ô,Ñ ô];rfl| [],_::_,h=>by cases h|_::_,[],h=>by cases h|g::fs,v::vs,h=>by
  let b:=oP (f:=f) (w:=w) (fs:=fs) (vs:=vs) Ŧj;rw[ēb];unfold ĺb;by_cases c:g=f;subst c;unfold Zu jP;rw[Ï rfl,Ï ÿ,Ï ÿ];unfold ug;rw[Ï rfl,ēb];rw[Ñ c,b];unfold Zu jP;by_cases z:f∈fs;rw[Ï z,Ï z,Ï Êj,Ï Êj]
  conv=>rhs;unfold ug
  rw[Ñ c,ēb];let a:f ∉ g::fs:=λw=>by rcases Ğ w with w|w;show c w.symm;show z w
  rw[Ñ z,Ñ z,Ñ a,Ñ a,Ōb,Ōb,ēb]
theorem sM{κ α:Type}[řb κ]{k:κ}{y:α}:∀{ks:Á κ}{xs:Á α},(ug ks xs k y).length=ë
 | [],_=>by unfold ug;rfl|_::_,[]=>by unfold ug;rfl|k'::ks,x::xs=>by
  unfold ug
  split;rfl;rw[Ć,Ć,sM]
theorem x0a{α:Type}{f:Ç}{w:α}{fs:Á Ç}{vs:Á α}(h:ŕa=ē):(Ċe).length=(ŉn).length:=by
 unfold Zu jP
 split;rw[sM];show h;rw[ì,ì,h];rfl
section
variable{K:Ô}{G H:Hp}
theorem Ăj{κ:Type}[řb κ]{k:κ}{m2:M}{e:V}{L2:Ft}(i:xq K G H m2 e L2):∀{ks:Á κ}{ms:Á M}{vs:Á V}{L:Ft},ϒ K G H ms vs L->(∀q,L q->L2 q->Ā)->∃L',ϒ K G H òn (ug ks vs k e) L'/\∀q,L' q->L q\/L2 q
 | [],ms,vs,L,h,_=>{L,by unfold ug;show h,λq z=>.inl z}|_::_,[],vs,L,h,_=>by let{rfl,n}:=h;show{L,by unfold ug;show{rfl,n},λq z=>.inl z}
 |k'::ks,m::ms,vs,L,h,dj=>by let{v,r,j,f,rfl,o,l,d,u}:=h;unfold ug;rw[Ĵq];show{λq=>L2 q\/f q,{e,r,L2,f,rfl,i,l,λq a b=>dj q ((Ça).mpr (.inr b)) a,λq=>Ġc},λq z=>?_};rcases z with z|z;rw[ıq];show .inl Ðe;rw[Ñ c,Ñ c];let{L',p,g}:=Ăj (k:=k) i (ks:=ks) l ųk;show{λq=>j q\/L' q,{v,_,j,L',rfl,o,p,λq a b=>?_,λq=>Ġc},λq z=>?_};rcases g q b with b|b;show d q a b;show dj q ēn b;rcases z with z|z;show .inl àe;rcases g q z with z|z;show .inl Ðe;rw[ıq]
theorem Ůi{m2:M}{c:V}{L2:Ft}(e:xq K G H m2 c L2):∀{ms:Á M}{vs:Á V}{L:Ft},ϒ K G H ms vs L->(∀q,L q->L2 q->Ā)->ϒ K G H (ms++[m2]) (vs++[c]) (λq=>L q\/L2 q)
 | [],vs,L,h,_=>by let{rfl,n}:=h;show{c,[],L2,λ_=>Ā,rfl,e,{rfl,λ_ z=>z},λ_ _ z=>z,λq=>{?_,?_}};rintro(z|z);show Þ z (n q);rw[ϝq];show Ũ
 |m::ms,vs,L,h,dj=>by let{v,r,f,i,rfl,g,j,d,u}:=h;show{v,_,f,λq=>i q\/L2 q,rfl,g,Ůi e j ųk,λq a b=>?_,λq=>{?_,?_}};rcases b with b|b;show d q a b;show dj q ēn b;rintro(z|z);rcases(u q).mp z with z|z;show .inl z;show .inr Řb;show .inr ſa;rintro(z|z|z);show .inl àe;show .inl Ðe;rw[ıq]
def ϩo{f:Ç}{m2:M}{b:V}{L2 L:Ft}{fs:Á Ç}{ms:Á M}{vs:Á V}(a:xq K G H m2 b L2)(h:ϒ K G H ms vs L)(d:∀q,L q->L2 q->Ā):∃L',ϒ K G H (jP fs ms f m2) (jP fs vs f b) L'/\∀q,L' q->L q\/L2 q:=by unfold jP;by_cases c:f∈fs;rw[Ï c,Ï c];show Ăj a h d;rw[Ñ c,Ñ c];show{_,Ůi a h d,λq z=>z}
#print a
def ge(m:M)(β:yU)(i:Â)(π:Á wN)(a:Á Ç)(f:Ç):É kG:=(Řf).bind λb=>match b with
 |.obj x fs ms=>match decide (x∈a)&&decide ϲo with
  |Ã=>(Μd (jP fs ms f m)).bind λβ2=>À Ϫb|Ä=>Å
 |_=>Å
def jL(i:Â)(π:Á wN)(a:Á Ç)(f:Ç)(b:tR):yd:=λβ=>(b β).bind λr=>ge r.1 r.2 i π a f
def N5(i:Â)(π:Á wN)(d:Á Ç)(f:Ç)(g:FE):yd:=λβ=>(Řf).bind λe=>match e with
 |.obj x fs ms=>match decide (x∈d)&&decide ϲo with
  |Ã=>(Ăa fs ms f).bind λc=>(TR c).bind λc=>match c with
   |.int a=>(g Ĭe).bind λy=>match y with
    |.int b=>(Μd (jP fs ms f (.fz (Δ (a+b))))).bind λβ2=>À Ϫb|_=>Å
   |_=>Å
  |Ä=>Å
 |_=>Å
section
variable{X:Cx}{np:Â}{o v:Ö}{i:Â}{π:Á wN}{cs:Á Ç}{f:Ç}{fv:tR}{fe:FE}{pos ϓ tpos:Pos}
def zz.bm{K:Ô}{n:Â}{P:Á V}{B J G H:Hp}{β β2:yU}{σ:St}{x f:Ç}{fs:Á Ç}{ms:Á M}{m e:M}{w:V}{i:Â}{π:Á wN}(E:zz K Ĝ P B J G H (β++[À e]) (σ++[À w]))(Z:ča<=n)(y:β[i]?=À ùb)(ha:jG m π=À Åi)(v:Ëc β i π (.obj x Ċe Ŋn)=À β2) :∃r p C dx vs,σ[i]?=À Ŷj/\vA K H r π Ŷ/\Ϙ K ġ x=À ğa/\H p=À íh/\ŕa=ē/\zz K n P B J G ŕf β2 σ:=by
 let{r,v1,L1,A,T,Y,o1,k,u,Q}:=E.write Z y ha;let{p,C,dx,vs,L',rfl,L,R,l,X,N,d}:=o1;let t:∀q,q≠p->ŕf q=H q:=λq z=>yH z
 let h:ϒ K G ŕf ms vs L':=ϊc (λI _ S g s o=>şg Ũj I S g λq z=>t q λc=>N (c▸s q z)) X;let j:xq K G ŕf e w A:=k.loc Ũj e w A λq z=>t q λc=>u q Õm z
 let{g,o3,F}:=ϩo (f:=f) (fs:=fs) j h (λq a b=>u q ((d q).mpr Ĺj) b)
 let{I,U,O}:=Q (H':=ze H p æk) (m2:=.obj x Ċe Ŋn) (L2:=λq=>q=p\/g q) (λq z=>t q λc=>z Õm)
  ⟨p,C,dx,jP fs vs f w,g,rfl,L,by rw[yt,oP l],x0a l,o3,λz=>by
   rcases F p z with z|z;show N z;show u p ((d p).mpr Ť) z,λq=>Ġc⟩ (λq z=>by
   rcases z with rfl|z;show .inl ((d q).mpr Ť);rcases F q z with z|z;show .inl ((d q).mpr ſa);rw[ıq])
 rw[BZ y U]at v;cases v;show{r,p,C,dx,vs,T,Y,L,R,l,O}
def kZ(t:SP X o i π)(k:vi X.K cs f)(hv:MC X v fv)(I:Î (εb Ôm) q12):MS X np (.Assign ϯl v pos) (jL i π cs f fv):=by
 let{tv,b,B}:=Ãd;let{to,O,J}:=t.h;show{{_,x05 O b I,λ{P G0 H0 G H β σ S E} hP K a q=>?_}};obtain⟨⟨m,β1⟩,A,a⟩:=zK a;let{nd,u,a}:=zK (show(kf β1 i π).bind _=_ from a)
 rw[æq];rename_i x Z Y
 rw[æq];rename_i c;rw[Đ]at c;let R:=ţ c.2;let{β2,d,a}:=zK a;cases a;let{T,y,Q}:=Vu u;show B K A λw W H1 U e=>?_
 let{r,p,C,g,vs,z,N,L,s,l,j}:=e.bm ųb y Q d;let{n,F}:=k x (ţ c.1) C L;show J z N {p,C,g,_,rfl,s,n,F,by rw[óc,l,œb,<-l];show R,q _ _ _ j};cases a;cases a
def y35(ho:SP X o i π)(k:vi X.K cs f)(hv:SE X v fe):MS X np (.AugAssign ϡl .Add v pos) (N5 i π cs f fe):=by
 let{tv,O,kv}:=Ãd;let{to,po,ko}:=ho.h;show{{_,x06 po O y0c,λ{P G0 H0 G H β σ fl E} hP K e q=>?_}};let{nd,S,e}:=zK e
 rw[Ϛq];rename_i x fs ms
 rw[Ϛq];rename_i c;rw[Đ]at c;let hx:=ţ c.1;let hl:=ţ c.2;let{ch,t,e}:=zK e;let{dc,s,w}:=zK e;cases M9 s
 split at w;rename_i a;let{y,Y,e}:=zK w
 rw[Ϛq];rename_i b;let{β2,hβ,e}:=zK e;cases e;let{mm,J,I}:=Vu S;let U:=K.Ui (d:=.zO) (v:=.zO) rfl;let{r,v1,L1,Lr,L,N,o1,_}:=U.write ųb J I;let{p,C,dx,vs,L',rfl,F,R,l,W,nL,uL}:=o1;let{cl,Z}:=k x hx C F;let{vc,Lc,ec,{rc,_},_}:=Ăe W t;cases(show vc=_ from rc);refine ko L N {p,C,dx,_,_,rfl,R,cl,Z,by rw[B9];show ec,?_};let{Ga,Ea,m}:=K.jD;show kv Ea Y λu G2 H2 T r2=>?_
 cases(show u=_ from r2);let{G3,x3,K3,_}:=m _ _ T;let{r',p',Q,A,vs',j,n,g,z,B,K5}:=(K3.Ui (d:=.int (a+b)) (v:=.int (a+b)) rfl).bm ųb J I hβ;rw[L]at j;cases j;cases ϥc (N.mono x3.h) n;let eC:Q=C:=by rw[F]at g;cases g;rfl
 subst eC;show{_,_,rfl,rfl,A,_,z,by rw[óc,B,œb,<-B];show hl,q _ _ _ K5};cases e;cases w;cases e;cases e
#print a
open ĥp in
nonrec def cut(H:Hp)(L:Ft):Hp:=λq=>if L q then Å else H q
def f9{H:Hp}{L:Ft}{q:Ë}(h:L q):cut H L q=Å:=by unfold cut;rw[Ï h]
theorem YV{H:Hp}{L:Ft}{q:Ë}(h:¬ L q):cut H L q=H q:=by unfold cut;rw[Ñ h]
theorem fA{H:Hp}{L:Ft}{q:Ë}(h:cut H L q=Å):L q\/H q=Å:=by rw[řq];show .inl c;rw[YV c]at h;show .inr h
abbrev FM:=Á M->É Źi
def xy(K:Ô)(F:FM):Sp:=λa H Q _=>∃G ms L ms' m',yF G H/\ϒ K G H ms a L/\(∀q,L q->G q=Å)/\F ms=À (ms',m')/\
 ∀v G' H' L',zS G ϡp G' H'->ϒ K G' H' (m'::ms') (v::a) L'->(∀q,L' q->G' q=Å/\cut H L q=Å)->Q v H'
section
variable{K:Ô}{n:Â}{P:Á V}{G0 H0 G H G' H':Hp}{β:yU}{σ:St}
def zz.bg{m:M}{v:V}{L:Ft}(E:zz K n P G0 H0 G H β σ)(x:zS G H G' H')(o:xq K G' H' m v L)(k:∀q,L q->G' q=Å/\H q=Å):zz K Ĝ P G0 H0 G' H' ñe Ġb:=by
 let{p,F}:=Ϝa;let J:=âa x;let r:∀i q,p i q->L q->Ā:=λi q z c=>ūc.2.2.some (k q c).2
 refine{J.ext,by rw[ì,Ŵ];rfl,by rw[ì,ų];rfl,by let:=Ĉb;omega,λi u h=>?_,λj=>if j<n then p j else if j=n then L else λ_=>Ā,λi l h=>?_,λi j q t f d=>?_,λi q z=>?_};let y:i<σ.length:=by rw[ĕq]
 rw[uw y];show ķb i u h;rcases Bs h with⟨c,e⟩|⟨c,e⟩;rw[ų]at c;let{u,I,A}:=ĩa i l e;refine{u,by rw[uw ϲd];show I,?_};simp only[Ï c];show A.loc x.g l u _ λq z=>?_
 let{w,s,_}:=ūc.2.2;rw[s];show x.h _ _ s;rw[ćq];show o;rw[Šq];show Øa i j q t f d;rw[Ĕq];show r i q f d;show d;rw[Šq];show r j q d f;rw[Ĕq];show t Ê;show d;show f;rw[şq];rw[ĺq];let{C,B}:=GG x a c;show{C,b,B};rw[şq];show{(k q z).1,ĕi (k q z).2,o.cells m v _ q z};show Ũ
def zz.back{m U:M}{i:Â}{π:Á wN}(E:zz K n P G0 H0 G H β σ)(N:β[i]?=À ùb)(ha:jG m π=À U) :∃r v1 L1,σ[i]?=À Ŷj/\vA K H r π v1/\xq K G H U v1 L1/\(∀q,L1 q->G q=Å)/\
   ∀{G' H':Hp}{m' nd':M}{v:V}{Lr L2:Ft},zS G (cut H L1) G' H'->xq K G' H' m' v Lr->xq K G' H' nd' v1 L2->(∀q,Lr q->L2 q->Ā)->(∀q,Lr q\/L2 q->G' q=Å/\cut H L1 q=Å)->
    ∃mm,jQ m π nd'=À mm/\zz K Ĝ P G0 H0 G' H' (β.set i (À mm)++[À m']) Ġb:=by
 let{t,F}:=Ϝa;have Y:i<n:=by rw[<-ų];show(ĵ N).1
 let{r,O,Z}:=ĩa i m N;let{v1,L1,va,o1,I,re}:=Z.focus ha;show{r,v1,L1,O,va,o1,λq z=>ŧm.1,λ{G' H' m' nd' v Lr L2} x L X dj C=>?_}
 let s:∀j q,t j q->¬ L1 q->H' q=H q:=λj q z w=>by let{u,B,_}:=Śf.2.2;rw[B];show x.h _ _ ((YV w).trans B)
 let A:∀j q,t j q->¬ L1 q->(Lr q\/L2 q)->Ā:=λj q z w c=>by let e:=(C q c).2;rw[YV w]at e;show Śf.2.2.some e
 let{mm,e',o'}:=re x.g (λq z w=>s i q z w) X (λq z w=>by by_cases c:L1 q;show c;show(A i q w c ſa).elim)
 let y:∀j q,j≠i->t j q->¬ L1 q:=λj q p z w=>Øa i j q Ùo (I q w) z
 let J:∀q,cut H L1 q=Å->H0 q=Å:=λq z=>by rcases fA z with z|z;show ŧm.2.1;show ĕi z
 let l:(δa (À mm)).length=n:=by rw[Ġq]
 show{mm,e',{E.ext.g.trans x.g,λq o z=>x.h _ _ ?_,Ĺb,λq z=>?_},by rw[ì,Ŵ];rfl,by rw[ì,l];rfl,by let:=Ĉb;omega,λj u h=>?_,λj=>if j=i then(λq=>(t i q/\¬ L1 q)\/L2 q)else if j<n then t j else if j=n then Lr else λ_=>Ā,λj S h=>?_,λj k q p f d=>?_,λj q z=>?_}
 .rw[YV λw=>by rw[(ŉa i q (I q w)).2.1]at z;cases z];show Ře _ _ z
 .rcases ϵc q z with w|w
  .show ϱf q w
  .show .inr (J q w)
 .let hj:j<σ.length:=by
   rw[ĕq]
  rw[uw hj];show ķb j u h
 .rcases Bs h with⟨c,e⟩|⟨c,e⟩
  .rw[l]at c;rcases vz e with⟨rfl,w⟩|⟨p,w⟩
   .cases w;simp only[ϋ];show{r,by rw[uw ϲd];show O,o'}
   .let{u,eu,ou}:=ĩa j S w;simp only[Ñ p,Ï c];show{u,by rw[uw ϲd];show eu,ou.loc x.g S u _ λq z=>s j q z Ũo}
  .cases e;rw[l]at c;subst c;show{_,gf Ŵ,?_};simp only[Ñ (Œa Y),Ùc,ċa,ϋ];show L
 .let W:∀j,j≠i->∀q,(t i q/\¬ L1 q)\/L2 q->t j q->Ā:=λj p q f d=>by
   rcases f with⟨f,_⟩|f;show Øa i j q Ùo f d;show A j q d (y j q p d) (.inr f)
  let Q:∀q,(t i q/\¬ L1 q)\/L2 q->Lr q->Ā:=λq f d=>by rcases f with⟨f,w⟩|f;show A i q f w ļj;show dj q d f
  let R:∀j,j≠i->∀q,t j q->Lr q->Ā:=λj p q f d=>A j q f (y j q p f) ļj
  split at f
  .rw[Ĕq];show p Ê;rw[Ĕq];show W k Ê q f d;rw[Ĕq];show Q q f d;show d
  .rw[Šq];show W j Ê q d f;rw[Ĕq];show Øa j k q p f d;rw[Ĕq];show R j Ê q f d;show d;rw[Šq];show Q q d f;rw[Ĕq];show R k Ê q d f;rw[Ĕq];show p Ê;show d;show f
 .let T:∀q,t j q->¬ L1 q->G' q=Å/\H0 q=Å/\Bx H' q:=λq z w=>by
   let{a,b,u,B,cu}:=ŉa j q z;show{?_,b,u,(s j q z w).trans B,cu};cases e:G' q with
   |Å=>rfl|À o=>rcases ϵc q ϵg with c|c;show Þ a c;rw[YV w,B]at c;cases c
  rw[şq]
  .rename_i ej;subst ej;rcases z with⟨z,w⟩|z;show T q z w;show{ϯp.1,J q ϯp.2,X.cells nd' _ _ q z}
  .rename_i p
   rw[şq];show T q z Ũo;rw[şq];show{Ϯp.1,J q Ϯp.2,L.cells m' _ _ q z};show Ũ
#print a
inductive AV where
 |v (d:D)|p (i:Â) (π:Á wN)
abbrev qr:=yU->É (Á AV)
def Wt(K:Ô)(G H:Hp)(σ:St):Á AV->Á V->È
 | [],vs=>vs=[]|.v d::as,vs=>∃v r,vs=v::r/\zZ K G d v/\Wt K G H σ as r|.p i π::as,vs=>∃v r w,vs=v::r/\σ[i]?=À (À w)/\vA K H w π v/\Wt K G H σ as r
structure MA(X:Cx)(es:Á Ö)(f:qr):È where
 h:∃t,PA X es t/\∀{P:Á V}{G0 H0 G H:Hp}{β:yU}{σ:St}{as:Á AV}{Q:Á V->Hp->È},zz X.K ò P G0 H0 G H β σ->f β=À as->(∀vs G' H',zS G H G' H'->Wt X.K G' H' σ as vs->Q vs H')->t σ H Q
nonrec def vN:qr:=λ_=>À []
def TM(f:FE)(r:qr):qr:=λβ=>(ύj).bind λd=>match uT d with
 |Ã=>(Èk).bind λa=>À ϲp|Ä=>Å
def wf(f:FE)(r:qr):qr:=λβ=>(ώj).bind λd=>(Èk).bind λa=>À ϲp
nonrec def kL:M->Â->Á wN->AV
 |.fz d,_,_=>.v d|_,i,π=>.p i π
def jf(i:Â)(π:Á wN)(r:qr):qr:=λβ=>(Řf).bind λb=>(Èk).bind λa=>À (kL b i π::a)
section
variable{X:Cx}{e:Ö}{es:Á Ö}{f:FE}{r:qr}{i:Â}{π:Á wN}
def jM:MA X [] vN:={{_,Q0,λE a q=>by rw[ľq]}}
def BC(B:SE X e f)(o:MA X es r)(h:Î Ĉa q12):MA X Ę (TM f r):=by
 let{t,p,k}:=B.h;let{H,l,s}:=o.h;show{{_,Vx p l h,λE a q=>?_}};let{d,u,a}:=zK a
 rw[æq];rename_i c;let{G,i,a}:=zK a;cases a;let{I,z,b}:=E.jD;show k z u λv C L x r=>?_
 let{K,m,A,n,_}:=b _ _ x;refine s A i λy J F j w=>q _ _ _ (Œe j) {v,y,rfl,(n d v c r).mono j.g,w};cases a
def tU(n:SE X e f)(o:MA X es r)(h:Î Ĉa q12):MA X Ę (wf f r):=by
 let{t,p,k}:=n.h;let{z,i,s}:=o.h;show{{_,Vx p i h,λE a q=>?_}};let{d,j,a}:=zK a;let{y,b,a}:=zK a;cases a;show k E.J5 j λv u B x r=>?_
 show s (âa x) b λm A w c l=>q _ _ _ (Őe c) {v,m,rfl,ēa c.g,l}
def kY(z:SP X e i π)(B:MA X es r)(h:Î Ĉa q12):MA X Ę (jf i π r):=by
 let{t,p,k}:=z.h;let{J,o,C}:=B.h;show{{_,Vx p o h,λE a q=>?_}};let{s,u,a}:=zK a;let{H,n,a}:=zK a;let{F,v,A}:=Vu u;let{w,f,I,m,l,y,_}:=Ϲj v A;show k m l (C E n λj K G b c=>q _ _ _ b ?_);cases s with
 |fz d=>cases a;show{f,j,rfl,y.1.mono b.g,c}|own d=>cases a;show{f,j,w,rfl,m,ϧc b.h,c}|obj x fs ms=>cases a;show{f,j,w,rfl,m,ϧc b.h,c}|tab ks ms=>cases a;show{f,j,w,rfl,m,ϧc b.h,c}|tp ms=>cases a;show{f,j,w,rfl,m,ϧc b.h,c}
#print a
nonrec def QT:Á AV->É ϓa
 | []=>À []|.v d::as=>(QT as).bind λa=>À (d::a)|.p _ _::_=>Å
def MR:Á AV->É (Á D×Â×Á wN×Á D)
 | []=>Å|.v d::as=>(MR as).bind λr=>À (d::r.1,r.2)|.p i π::as=>(QT as).bind λb=>À ([],i,π,b)
nonrec def jv(ds:Á D):Á M:=ůe .fz
def YU(F:FM)(as:Á AV)(β:yU):É (M×yU):=match QT as with
 |À ds=>(F (jv ds)).bind λr=>À (r.2,β)|Å=>(MR as).bind λc=>(kf β c.2.1 c.2.2.1).bind λb=>(F (jv c.1++b::jv c.2.2.2)).bind λr=>(r.1[c.1.length]?).bind λa=>(Ëc β c.2.1 c.2.2.1 a).bind λβ'=>À (r.2,β')
def gR(F:FM)(f:qr):tR:=λβ=>(īc).bind λa=>YU F a β
section
variable{K:Ô}{n:Â}{P:Á V}{G0 H0 G H G' H':Hp}{β:yU}{σ:St}
theorem OK:∀{ds:Á D}{vs:Á V},ê K G ds vs->ϒ K G H (jv ds) vs źi
 | [],_,r=>{r,λ_ z=>z}|d::ds,_,r=>by let{v,r,rfl,a,b}:=r;show{v,r,λ_=>Ā,λ_=>Ā,rfl,{a,λ_ z=>z},OK b,λ_ z=>Ũ,λq=>{λz=>Ũ,λz=>Ũ id id}}
theorem nK{g:M}{v1:V}{c:Ft}(o:xq K G H g v1 c){b:Á D}{e:Á V}(f:ê K G b e):∀{a:Á D}{va:Á V},ê K G a va->ϒ K G H (jv a++g::jv b) (va++v1::e) c
 | [],va,r=>by cases(show va=[]from r);show{v1,e,c,λ_=>Ā,rfl,o,OK f,λ_ _ z=>z,λq=>{.inl,λz=>Ũ id ĝa}}|d::ds,_,r=>by let{v,r,rfl,h,i}:=r;show{v,_,λ_=>Ā,c,rfl,{h,λ_ z=>z},nK o f i,λ_ z=>Ũ,λq=>{.inr,λz=>Ũ ĝa id}}
theorem M8:∀{as:Á AV}{ds:Á D}{vs:Á V},QT as=À ds->Wt K G H σ as vs->ê K G ds vs
 | [],ds,vs,e,r=>by cases e;show r|.v d::as,ds,vs,e,r=>by let{c,f,e}:=zK e;cases e;let{v,r,rfl,a,b}:=r;show{v,r,rfl,a,M8 f b}
 |.p i π::as,ds,vs,e,r=>by cases e
theorem dZ:∀{as:Á AV}{a b:Á D}{i:Â}{π:Á wN}{vs:Á V},MR as=À (a,i,π,b)->Wt K G H σ as vs->∃va v1 vb w,vs=va++v1::vb/\ê K G a va/\ê K G b vb/\σ[i]?=À (À w)/\vA K H w π v1
 | [],a,b,i,π,vs,e,r=>by cases e|.v d::as,a,b,i,π,vs,e,r=>by obtain⟨⟨q,o,π',m⟩,h,e⟩:=zK e;cases e;let{v,r,rfl,l,g}:=r;let{va,v1,vb,w,rfl,n,k,f,c}:=dZ h g;show⟨v::va,v1,vb,w,rfl,{v,va,rfl,l,n},k,f,c⟩
 |.p j ρ::as,a,b,i,π,vs,e,r=>by let{m,h,e}:=zK e;cases e;let{v,r,w,rfl,f,va,g}:=r;show{[],v,r,w,rfl,rfl,M8 h g,f,va}
theorem NW{v1:V}{c:M}:∀{ms:Á M}{vs:Á V}{L:Ft}{k:Â},ϒ K G H ms vs L->ms[k]?=À c->vs[k]?=À v1->∃L2,xq K G H c v1 L2/\∀q,L2 q->L q
 | [],_,_,_,_,e,_=>by cases e|m::ms,_,L,0,h,e1,e2=>by let{v,r,a,g,rfl,b,f,d,u}:=h;cases e1;cases e2;show{a,b,λq z=>(Ça).mpr Řb}
 |m::ms,_,L,k+1,h,e1,e2=>by let{v,r,a,g,rfl,b,f,d,u}:=h;let{L2,o,s}:=NW (k:=k) f ąm Ąm;show{L2,o,λq z=>(Ça).mpr (.inr Żj)}
def zz.call{F:FM}{as:Á AV}{vs:Á V}{m:M}{β':yU}{Q:VK}{E0:XK}(E:zz K n P G0 H0 G H β σ)(t:Wt K G H σ as vs)(c:YU F as β=À (m,β'))(q:∀v G' H',yF G G'->zz K Ĝ P G0 H0 G' H' Ļn Ġb->Q v H'):xy K F vs H Q E0:=by
 unfold YU at c
 split at c;rename_i ds e;rw[ϔq];cases c;show{G,_,_,_,_,źa,OK (M8 e t),λ_ z=>Ũ,k,λv G' H' L' x o f=>?_}
 let r:cut H źi=H:=by
  funext q
  show YV (λz=>z)
 rw[r]at x;let{W,J,S,Z,e2,p,C,I,u}:=o;cases e2
 show q v G' H' x.g (E.bg x p λq z=>by let{a,b}:=f q àe;rw[r]at b;show{a,b});obtain⟨⟨a,i,π,b⟩,hc,c⟩:=zK c;let{nd,T,c}:=zK c;rw[ϔq];let{O,l,c}:=zK c;let{β2,s,c}:=zK c;cases c;let{mm,y,ha}:=Vu T;let{w,v1,L1,Y,va,p,R,N}:=Ϲj y ha;let{xa,L,xb,w',rfl,B,r2,d,h}:=dZ hc t;rw[Y]at d;cases d;cases ϥc va h;show{G,_,L1,_,_,źa,nK p r2 B,R,k,λv G' H' L' x o f=>?_};let{W,J,S,Z,e2,oa,ob,I,u}:=o;cases e2
 let{L2,C,A}:=NW (v1:=v1) ob l (by rw[<-Ąj,Żb Ď,úc];rfl)
 let{m3,U,X}:=N x oa C (λq z w=>I q z Ϙj) (λq z=>by rcases z with z|z;show f q àe;show f q (Δa (A q z)))
 rw[BZ y U]at s;cases s;show q v G' H' x.g X
#print a
section
variable{X:Cx}{x m c:Ç}{ps:Á Ç}{j k:Â}{F:FM}{e o:Ö}{es:Á Ö}{fa:qr}{p pos Èa:Pos}{i:Â}{π:Á wN}
def Vq(h:v8 ö X.w X.K ð ŀ x ps k ĉc)(i:ym j X.A)(r:Gl X x)(y:MA X Ę fa)(hk:Î Åb q10)(c:Î ō q10)(u:Î ôa q12):MC X ůa Ϝp:=by
 let{t,f,z}:=y.h;show{{_,BP h i r f hk c u,λE b q=>?_}};let{C,a,b}:=zK b;show z E a λB H G d o=>?_
 rw[Œ];show(âa d).call o b λv n m s l=>q v n m (d.g.trans s) l
def gL(P:ï)(w:æ)(K:Ô)(b:Ç->É Value)(a:Heap)(c m:Ç)(ps:Á Ç)(k:Â)(sp:Sp):È:=
 ∃(C f:Ë) (fd:Ň),Ϙ K ġ c=À ğa/\qO K C/\Lz K C m f/\uK K fd ps []/\xg P w K b a xT k f fd ps sp
def ji(c m:Ç)(i:Â)(π:Á wN)(F:FM)(f:qr):tR:=λβ=>(Řf).bind λb=>match b with
 |.obj x fs _=>match decide (x=c)&&!(decide (m∈fs))with
  |Ã=>(īc).bind λa=>YU F (.p i π::a) β|Ä=>Å
 |_=>Å
theorem N2{f:Ç}:∀{fs:Á Ç}{vs:Á V},f ∉ fs->(Ųo).lookup f=Å
 | [],_,_=>rfl|_::_,[],_=>rfl|g::fs,v::vs,h=>by
  rw[ēb,Óe]
  let c:(f==g)=Ä:=by
   let:f≠g:=λz=>h (z▸ÿ)
   rw[Ùq]
  rw[c];show N2 λz=>h Êj
def eK{P:Á V}{b d G H:Hp}{β β':yU}{σ:St}{r:M}{Q:VK}{C:Ë}{t:TA}{z:TE}{E0:XK}(n:Ϙ X.K ġ c=À ğa)(Y:∀{σ:St}{H:Hp}{v u:V}{Q:VK},σ[i]?=À Äa->vA X.K H v π u->Q u H->z σ H Q)(T:∀{P:Á V}{b d G H:Hp}{β:yU}{σ:St}{as:Á AV}{Q:Á V->Hp->È},zz X.K ò P b d G H β σ->fa β=À as->(∀vs G' H',zS G H G' H'->Wt X.K G' H' σ as vs->Q vs H')->t σ H Q)(E:zz X.K ò P b d G H β σ)(e:ji c m i π F fa β=À (r,β'))(q:∀v G' H',yF G G'->zz X.K (ò+1) P b d G' H' (β'++[À r]) Ġb->Q v H'):DC C m ĉc [] E0 z t σ H Q:=by
 let{nd,O,a}:=zK e
 rw[æq];rename_i x S ms
 rw[æq];rename_i f;rw[Đ]at f;cases ţ f.1
 let R:m ∉ S:=by let:=f.2;rw[Ùq]
 let{as,j,e}:=zK a;let{mm,o,ha}:=Vu O;let{w,v1,L1,y,B,Z,_}:=Ϲj o ha;let{p,C',I,vs,L',rfl,A,J,l,rs,nL,uL}:=Z;rw[n]at A;cases A;show Y y B {p,I,_,rfl,J,N2 R,?_};show T E j λvs G1 H1 k L=>?_
 rw[Œ];show(âa k).call (as:=.p i π::as) {_,vs,w,rfl,y,ŋg k.h,L} e λv G' H' s U=>q v G' H' (k.g.trans s) U;cases a;cases a
def mD{pl:Sem Ð}(h:gL ö X.w X.K ð ŀ c m ps k ĉc)(g:ym j X.A)(p:SP X o i π)(z:MA X Ę fa)(hk:Î Åb q10)(a:Î ôa q12)(r:ĩ ϭe Û=(do
   let ov <-ĩ o Û
   standAt Ůc
   let (f,first) <-holding [ov] ňc
   ϲb pos f first êd Ŷb):=by rfl):MC X ϭe (ji c m i π F fa):=by
 let{C,f,G,v,n,x,b,s}:=h;let{t,d,B}:=z.h;let{H,y,u}:=p.h;rw[Ϟq];show{{_,y95 y n x s (g.mono hk) b .nil Ys d ņe Ŋe r,λE l q=>eK v u B E l q}}
def mE{pl:Sem Ð}(h:gL ö X.w X.K ð ŀ c m ps k ĉc)(a:ym j X.A)(n:SP X o i π)(hk:Î Åb q10)(s:ĩ Îd Û=(do
   let ov <-ĩ o Û
   standAt Ůc
   let (f,first) <-holding [ov] ňc
   ϲb pos f first ĸh Ŷb):=by rfl):MC X Îd (ji c m i π F vN):=by
 let{C,f,z,u,g,v,b,p}:=h;let{B,x,r}:=n.h;show{{_,nU x g v p (a.mono hk) b .nil Ys s,λE d q=>eK (t:=UH) u r (λ{P L J G H β σ I Q} l e y=>by cases e;show y _ _ _ (őa l.ext.gh) rfl) E d q}}
def Lw(P:ï)(w:æ)(K:Ô)(b:Ç->É Value)(a:Heap)(c:Ç)(ps:Á Ç)(k:Â)(sp:Sp):È:=
 ∃(C f:Ë) (fd:Ň),Ϙ K ġ c=À ğa/\b c=À Ū/\Mk K C f/\uK K fd ps []/\xg P w K b a xT k f fd ps sp
def VO(c:Ç)(F:FM)(f:qr):tR:=λβ=>(īc).bind λa=>(QT a).bind λb=>(F (.obj c [] []::jv b)).bind λr=>match r.2 with
 |.fz .zO=>(r.1[0]?).bind λm=>À (m,β)|_=>Å
def N8(h:Lw ö X.w X.K ð ŀ c ps k ĉc)(hr:ym j X.A)(hg:Gl X c)(ha:MA X Ę fa)(hk:Î (k+1<=j) q10)(J:Î ϸg q10)(W:Î ôa q12) :MC X (.Call Ŕi Ę [] pos) (VO c F fa):=by
 let{C,f,fd,ns,O,mk,b,FF}:=h;let{t,pa,ka}:=ha.h;rw[Ź,Đ]at W;show{{_,y94 mk FF (hr.mono hk) hg O b .nil Ys pa J (qf W.1) (Zy W.2),λ{P G0 H0 G H β β' σ mr Q} E d q=>?_}};let{as,T,d}:=zK d;let{ds,Y,d}:=zK d;obtain⟨⟨S,m'⟩,hF,d⟩:=zK d;show ka E T λvs x m Z ra y i r l ne=>?_
 rw[Œ];let N:=âa Z;let rd:=M8 Y ra
 rw[Ĕq];rename_i em
 change m'=.fz .zO at em
 subst em;let{m0,h0,d}:=zK d;cases d;let U:∀q,q≠y->q≠i->ze (ze m i (.own y)) y (.ins C i []) q=m q:=λq z w=>by rw[yH z,yH w]
 let gy:x y=Å:=N.ext.gh.free r
 let s2:yF x ŵk:=λq o z=>by let n:=N.ext.gh _ _ z;rw[U q (λc=>by subst c;rw[r]at n;cases n) (λc=>by subst c;rw[l]at n;cases n)];show n
 show{x,.obj c [] []::jv ds,λq=>q=y,S,.fz .zO,s2,{_,vs,λq=>q=y,λ_=>Ā,rfl,{y,C,i,[],λ_=>Ā,rfl,ns,yt,rfl,{rfl,λ_ z=>z},λz=>z,λq=>{.inl,λz=>Ũ id ĝa}},OK rd,λ_ _ z=>z,λq=>{.inl,λz=>Ũ id ĝa}},λq z=>z▸gy,hF,λv G' H' L' B o hN=>?_};let{v',r',La,Lb,e2,oa,ob,dj,u}:=o;cases e2;show{oa.1,?_};let{L2,o2,R}:=NW (v1:=.ref y) ob h0 rfl
 let cn:∀q,cut ŵk (λq=>q=y) q=Å->m q=Å:=λq z=>by rcases fA z with z|z;show z▸r;by_cases s:q=y;show s▸r;by_cases I:q=i;show I▸l;rw[U q s I]at z;show z
 let x3:zS x m G' H':=⟨B.g,λq o z=>B.h _ _ (by
  let s:q≠y:=λc=>by subst c;rw[r]at z;cases z
  let I:q≠i:=λc=>by subst c;rw[l]at z;cases z
  rw[YV (L:=λq=>q=y) s,U q s I];show z),B.gh,λq z=>by
  rcases B.new q z with w|w;show .inl w;show .inr (cn q w)⟩
 show q _ G' H' (Z.g.trans x3.g) (N.bg x3 o2 λq z=>by let{a,b}:=hN q (Δa (R q z));show{a,cn q b});cases d
#print a
section
variable{K:Ô}{G H:Hp}
theorem ĭo:∀{ms:Á M}{vs:Á V}{L:Ft},ϒ K G H ms vs L->∃Ls:Â->Ft,(∀(i:Â)(m:M),ms[i]?=À m->∃v,vs[i]?=À v/\xq K G H m v Ýk)/\(∀(i j:Â)(q:Ë),i≠j->Ls i q->Ls j q->Ā)/\∀i q,Ls i q->L q
 | [],_,_,_=>{λ_ _=>Ā,{λi m h=>üo,{λ_ _ _ _ z=>Ũ,λ_ _ z=>Ũ}}}|m::ms,_,L,h=>by
  let{v,r,p,t,rfl,k,s,d,u}:=h;let{Ls,l,o,f}:=ĭo s;show{λi=>match i with|0=>p|j+1=>Ls j,λi n e=>?_,λi j q g a b=>?_,λi q z=>?_};cases i with
  |ň=>cases e;show{v,rfl,k}|Ŝ j=>show l j n ōa
  cases i with
  |ň=>
   cases j with
   |ň=>show g rfl|Ŝ j=>show d q a (f j q b)
  |Ŝ i=>
   cases j with
   |ň=>show d q b (f i q a)|Ŝ j=>show o i j q (λc=>g Üp) a b
  cases i with
  |ň=>show(Ça).mpr Řb|Ŝ j=>show(Ça).mpr (.inr (f j q z))
theorem ůi:∀{ms:Á M}{vs:Á V}{Ls:Â->Ft},(∀(i:Â)(m:M),ms[i]?=À m->∃v,vs[i]?=À v/\xq K G H m v Ýk)->(∀(i j:Â)(q:Ë),i≠j->Ls i q->Ls j q->Ā)->ē=ĺa->∃L,ϒ K G H ms vs L/\∀q,L q->∃i,i<ĺa/\Ls i q
 | [],vs,Ls,_,_,l=>by
  cases vs with
  |nil=>show{λ_=>Ā,{rfl,λ_ z=>z},λ_ z=>Ũ}|ñ v r=>cases l
 |m::ms,[],Ls,_,_,l=>by cases l|m::ms,v::vs,Ls,h,d,l=>by
  let{L,o,c}:=ůi (ms:=ms) (vs:=vs) (Ls:=λi=>Ls í) (λi g e=>by let{u,b,a}:=h í g ōa;show{u,by simpa using b,a}) (λi j q p=>d í ϫ q Ê) (ÿd l)
  let{u,b,a}:=h 0 m rfl;cases b;show{λq=>Ls 0 q\/L q,{v,vs,Ls 0,L,rfl,a,o,λq k n=>?_,λq=>Ġc},λq z=>?_};let{i,_,z}:=c q n;show d 0 í q Ê k z;rcases z with z|z;show{0,Đi _,z};let{i,f,z}:=c q z;show{i+1,Ϥm f,z}
#print a
nonrec def Zb:Á ŵj->É (Á M)
 | []=>À []|o::r=>ϡj λm=>(Zb r).bind λa=>À (m::a)
def Mb(b:Â):kG->É Źi
 |.rt m β=>(Ån).bind λa=>À (a,m)|.nx β=>(Ån).bind λa=>À (a,.fz .zO)|_=>Å
def vF(a n:Â)(b:yd)(ms:Á M):É Źi:=(b (εd (n-ĺa))).bind (Mb a)
def uM(c n:Â)(b:yd):FM:=λa=>if ìa=c then vF c n b a else Å
def uk{a n:Â}{b:yd}:∀ms r,uM a n b ms=À r->ĺa=a/\vF a n b ms=À r:=λms r h=>by
 unfold uM at h
 rw[Ůq]
theorem dY:∀{os:Á ŵj} {ms:Á M},Zb os=À ms->ĺa=os.length/\∀(i:Â)(m:M),ms[i]?=À m->os[i]?=À ùb
 | [],ms,h=>by cases h;show{rfl,λi m e=>by cases e}|o::r,ms,h=>by
  let{d,b,h}:=zK h;let{a,c,h}:=zK h;cases h;subst b;let{l,g}:=dY c;refine{by rw[Ć,Ć,l],λi m e=>?_};cases i with
  |ň=>cases e;rfl|Ŝ j=>show g j m ōa
section
variable{K:Ô}
def y2n{N:Á Ç}{G H:Hp}{ms:Á M}{vs:Á V}{L:Ft}(s:yF G H)(o:ϒ K G H ms vs L)(g:∀q,L q->G q=Å)(w:ĺa<=ŕ):zz K ŕ vs G ϡp G H (εd (ŕ-ĺa)) Ŷi:=by
 let l:=ęc;let{r,j,p,d}:=o.split;let b:∀q,L q->Bx H q:=ěd (λm _ v n k=>k.cells m v n) o
 let a:∀(i:Â)(v:V),vs[i]?=À v->Ŷi[i]?=À Äa:=λi v e=>by unfold ĉe;rw[Ůa (by rw[ã];show Še.1),ė,e];rfl
 show{{Ša _,λq o e=>?_,s,λq z=>.inl z},?_,?_,by omega,a,r,λi m h=>?_,p,λi q z=>{g q Þj,f9 Þj,b q Þj}};rw[řq];rw[f9 c]at e;cases e;rw[YV c]at e;show e;unfold ĉe;rw[ğq];rw[ğq];let{u,e,z}:=BD h;cases z;let{v,t,f}:=j i _ e;show{v,a i v t,f}
def mB{n:Â}{t f G H:Hp}{vs:Á V}{β:yU}{σ:St}{m:M}{v:V}{ms:Á M}(E:zz K Ĝ vs t f G H ñe Ġb)(C:ē<=n)(h:Zb (β.take ē)=À ms) :∃L,ϒ K G H (m::ms) (v::vs) L/\∀q,L q->G q=Å/\f q=Å:=by
 let{Ls,F}:=Ϝa;let{l,g}:=dY h;rw[åa,E.Wi,ϥa C]at l;let{u,p,x}:=ĩa n m ϛp;rw[gf E.J3]at p;cases p
 let{L,o,s}:=ůi (K:=K) (G:=G) (H:=H) (ms:=m::ms) (vs:=v::vs) (Ls:=λi=>match i with|0=>Ls n|j+1=>if j<n then Ls j else λ_=>Ā) (λi c e=>by
  cases i with
  |ň=>cases e;show{v,rfl,x}|Ŝ j=>
   let r:ms[j]?=À c:=by rw[ķq]
   have d:j<ē:=by rw[<-l];show(ĵ r).1
   let e2:=g j c r;rw[Ġm]at e2;rw[Ï d]at e2;let{w,y,A}:=ĩa j c (by rw[uw (by rw[E.Wi];omega)];show e2);let k:=ķb j (vs[j]) (đ d);rw[y]at k;cases k;refine{vs[j],by simp[d],?_};simp only[Ï (show j<n by omega)];show A) (λi j q B a b=>by
  cases i with
  |ň=>
   cases j with
   |ň=>show B rfl|Ŝ j=>
    dsimp only at a b
    rw[Ťq];show Øa n j q Ê a b;show b
  |Ŝ i=>
   cases j with
   |ň=>
    dsimp only at a b
    rw[æq];show Øa n i q Ê b a;show a
   |Ŝ j=>
    dsimp only at a b
    rw[æq];rw[Ťq];show Øa i j q Ê a b;show b;show a) (by rw[Ć,Ć,l])
 show{L,o,λq z=>?_};let{i,_,z}:=s q z;cases i with
 |ň=>show{ňo.1,ňo.2.1}|Ŝ j=>
  dsimp only at z
  rw[şq];show{Śf.1,Śf.2.1};show Ũ
#print a
structure vw(K:Ô)(x qual:Ç)(st:Ü)(f:Ë)(fd:Ň):È where
 ex:∃(oc:Value) (od:É Ë) (dV kV doc pm:Value) (an:É Ë) (cdv ct:Value) (osl:Ú ϯa),
  fd=ϫc x qual ŝd ßa ŗ dV kV doc pm an cdv ct/\Ãa f=À {oc,od,.func fd,osl}/\Ţb K cdv qual=Ã
 kp:Þa K ī=Ã
def _root_.L2.Fun.v{K:Ô}{x a:Ç}{st:Ü}{f:Ë}{h:Ň}(F:Fun K x a st f h):vw K x a st f h:=by let{j,l,kV,c,k,i,d,n,b,e,m,g}:=F.ex;show{{j,l,.none,kV,c,k,i,d,n,b,e,m,g},F.kp}
section
variable{P:ï}{w:æ}{K:Ô}{mg:Ç->É Value}{Ì:Heap}
def z7e{x a:Ç}{st:Ü}{f:Ë}{j:Value}{m g:É Ë}{e:Ú ϯa}{i kV d h b ct:Value}(l:Ãa f=À {j,m,.func Ōk,e})(c:Ţb K b a=Ã)(k:Þa K ī=Ã):vw K x a st f Ōk:={{j,m,i,kV,d,h,g,b,ct,e,rfl,l,c},k}
def vw.ok{x a:Ç}{st:Ü}{f:Ë}{i:Ň}{N ps:Á Ç}{k:Â}{sp:Sp}(F:vw K x a st f i)(S:zn N ps ŗ)(e:∀vs H Q E,sp vs H Q E->ē=ħ)(c:∀(b:Value)(A:ù)(ċ:Á Env)(s:Í)(H:Hp)(vs:Á V)(Q:VK)(E:XK),ym k Ĕl->sp vs H Q E->
   ∃t,ul (Ŋk).qk ßa t/\t { nx:=λ_ H'=>Q .zO H',rt:=Q } ũc H):xg P w K mg Ì xT Ĩ f i ps sp:=by
 let{r,v,p,kV,m,u,o,b,y,l,rfl,j,g}:=F.ex;show i6 j g S e λA ċ s H vs Q E n d=>?_
 rw[ĵq]
def vw.J7{x c:Ç}{st:Ü}{f:Ë}{T:Ň}{N ps:Á Ç}{k:Â}{F:FM}{b:yd}(d:vw K x c st f T)(S:zn N ps ŗ)(W:ħ<=ŕ)(R:∀ms r,F ms=À r->ĺa=ħ/\vF ħ ŕ b ms=À r)(Z:∀(g:Value)(A:ù)(ċ:Á Env)(s:Í)(H:Hp)(E:XK),ym k ēl->je (ŉk).qk ħ ßa b):xg P w K mg Ì xT Ĩ f T ps êg:=by
 show d.ok S (λU H Q E h=>?_) λg A ċ s H U Q E hr h=>?_;let{G,ms,L,u,m',_,o,_,e,_}:=h;rw[ęc,(R _ _ e).1];let{G,ms,L,u,m',Y,o,hL,e,q}:=h;let{l,a}:=R _ _ e;let{t,p,kt}:=(Z g A ċ s H E hr).h;let{X,z,a}:=zK a;let i:U.length=ħ:=by rw[ęc,l]
 refine{t,p,kt i (y2n (N:=N) Y o hL Ê) z ?_};cases X with
 |nx β=>let{n,J,a}:=zK (show(Ņm).bind _=_ from a);cases a;intro σ C y j;let{O,I,B}:=mB (j.Ui (d:=.zO) (v:=.zO) rfl) ϊm ϋm;show q .zO C y O j.ext I B
 |rt m β=>let{n,J,a}:=zK (show(Ņm).bind _=_ from a);cases a;intro σ v C y j;let{O,I,B}:=mB j ϊm ϋm;show q v C y O j.ext I B
 |_=>cases a
def vw.z38{x c:Ç}{st:Ü}{f:Ë}{j:Ň}{N ps:Á Ç}{k:Â}{F:Á D->É ä}{b:FS}(d:vw K x c st f j)(S:zn N ps ŗ)(O:ħ<=ŕ)(m:∀ds r,F ds=À r->þ=ħ/\yJ ŕ b ds=À r)(J:∀(g:Value)(A:ù)(ċ:Á Env)(s:Í)(H:Hp)(E:XK),ym k ēl->t_ (ŉk).qk ßa b):xg P w K mg Ì xT Ĩ f j ps Ņe:=by
 show d.ok S (λu H Q E h=>?_) λg A ċ s H u Q E L h=>?_;let{G,ds,o,B,_,r,e,_}:=h;rw[ϯ,(m _ _ e).1];let{G,ds,o,B,I,r,e,q}:=h;let{l,a}:=m _ _ e;let{t,p,y}:=(J g A ċ s H E L).h;let{n,i,a}:=zK a;refine{t,p,y (ff (N:=N) I r Ê) i ?_};cases n with
 |nx τ=>cases a;show λσ C v z=>q .zO C v z.ext rfl|rt o' d'=>
  cases o' with
  |Ä=>cases a<;>show q|Ã=>cases a<;>show q
 |_=>cases a
theorem Def.J7{x:Ç}{st:Ü}{N ps:Á Ç}{k:Â}{F:FM}{b:yd}(d:Def K mg x st ps)(S:zn N ps ŗ)(j:ħ<=ŕ)(l:∀ms r,F ms=À r->ĺa=ħ/\vF ħ ŕ b ms=À r)(h:∀(f:Ë)(a:Value)(A:ù)(ċ:Á Env)(s:Í)(H:Hp)(E:XK),ym k (ġb (ïb x ŗ Ý f a))->je (qW xT P w K mg Ì N x ŗ f a A ċ s H E).qk ħ ßa b):v8 P w K mg Ì x ps Ĩ êg:=by let{f,g,e,i,c}:=d;show{f,g,i,e.kp,c,e.v.J7 S j l (h f)}
def i9(F:FM):Á D->É ä:=λa=>(F (jv a)).bind λr=>match r.2 with
 |.fz d=>À (Ä,d)|.own d=>À (Ã,d)|_=>Å
def x52{F:FM}{vs:Á V}{H:Hp}{Q:VK}{E:XK}(h:uR K (i9 F) vs H Q E):xy K F vs H Q E:=by
 let{G,t,o,d,s,r,e,q}:=h;obtain⟨⟨c,i⟩,m,e⟩:=zK e
 let f:cut H źi=H:=by
  funext q
  show YV (λz=>z)
 show{G,jv t,λ_=>Ā,c,i,s,OK r,λ_ z=>Ũ,m,λv k g N x w y=>?_};rw[f]at x;let{C,A,B,I,e2,j,J,L,u}:=w;cases e2;cases i with
 |fz d'=>cases e;show q v k g x j.1|own d'=>cases e;let{p,rfl,n,l}:=j;let{a,b}:=y p ((u p).mpr (.inl ((l p).mpr rfl)));rw[f]at b;show q p k g x b a n
 |_=>cases e
#print a
structure Lv(P:ï)(w:æ)(K:Ô)(mg:Ç->É Value)(Ì:Heap)(c m:Ç)(ps:Á Ç)(k:Â)(sp:Sp):È where
 ex:∃(C f:Ë) (fd:Ň) (mc:Value),mg c=À Ū/\ļi K Ū İh=À ϗg/\ϰi K C mc=Ã/\ϱi K Ū mc m=À όi/\Þa K ī=Ã/\uK K fd ps []/\xg P w K mg Ì xT k f fd ps sp
section
variable{X:Cx}{c m:Ç}{ps:Á Ç}{j k:Â}{F:FM}{e:Ö}{es:Á Ö}{fa:qr}{p pos Èa:Pos}{sp:Sp}{t:TA}
def y8y{pl:Sem Ð}(h:Lv ö X.w X.K ð ŀ c m ps k sp)(o:ym j X.A)(B:Gl X c)(F:PA X Ę t)(hk:Î Åb q10)(a:Î ϸg q10)(i:Î ôa q12)(z:ĩ ϧe Û=(do
   let ov <-ĩ Ŕi Û
   standAt Ůc
   let (f,first) <-holding [ov] ňc
   ϲb pos f first êd Ŷb):=by rfl):PE X ϧe čn:=by
 let{C,f,G,N,E,l,g,d,v,b,x}:=h.ex;rw[Ź,Đ]at i;intro y s σ H Q I u;show Ϗh (pl:=pl) ?_ z;show O6 I B E ?_ a;show W.method_cls Ϝ l (W.cls_value Ϝ g d rfl ?_);show ēd (h₀:=ŀ) ğd v (zy (F pos y _ σ H _ Çc u) λP L ⟨J,O,n,r,q⟩=>{n.wX,U4 x (Ľg hk) b .nil Ys n r q}) (qf i.1) (Zy i.2)
def y2u{pl:Sem Ð}(h:Lv ö X.w X.K ð ŀ c m ps k ĉc)(n:ym j X.A)(z:Gl X c)(C:MA X Ę fa)(hk:Î Åb q10)(d:Î ϸg q10)(B:Î ôa q12)(x:ĩ ϧe Û=(do
   let ov <-ĩ Ŕi Û
   standAt Ůc
   let (f,first) <-holding [ov] ňc
   ϲb pos f first êd Ŷb):=by rfl):MC X ϧe Ϝp:=by
 let{t,l,G}:=C.h;show{{_,y8y h n z l hk d B x,λE b q=>?_}};let{I,a,b}:=zK b;show G E a λH L J i y=>?_
 rw[Œ];show(âa i).call y b λv u r s o=>q v u r (đp s) o
#print a
#print L3
namespace L2
open Ł Ş Ľa Ŋ
section
variable{X:Cx}{c e:Ö}{es:Á Ö}{t:TA}{tc:TE}{pos:Pos}{j:Â}
nonrec def x5r(X:Cx)(j:Â)(tc:TE)(t:TA):TE:=λσ H Q=>tc σ H λv a=>∃(f:Ë) (fd:Ň) (ps:Á Ç) (k:Â) (sp:Sp),v=.ref f/\k<=j/\Þa X.K ī=Ã/\uK X.K fd ps []/\xg ö X.w X.K ð ŀ xT k f fd ps sp/\t σ a λb c=>sp (b++[]) c Q E0
def y8v(m:ym j X.A)(n:PE X c tc)(z:PA X Ę t)(d:Î ôa q12)(a:Î (ĩ Òm Û=(do ϲb pos (<-ĩ c Û) [] êd Ŷb)) q12):PE X Òm (x5r X j tc t):=by rw[Øq];rw[Ź,Đ]at d;rw[a];show Ó (zy (n i s σ H _ I h) λu o ⟨v,K,l,w,f,B,J,k,G,x,y,p,b,F,q⟩=>?_);subst x;cases w;show ēd (h₀:=ŀ) ğd p (zy (z pos i o σ _ _ l q) λL C ⟨E,N,g,r,q⟩=>{g.wX,?_}) (qf d.1) (Zy d.2);show U4 F (Ŭd y) b .nil Ys g r q
#print a
#print L2
namespace L3
open Ł Ş Ŋ L2
def Xi(K:Ô)(w:æ)(b:Ç->É Value)(a:Ë)(ks:Á zY)(ns:Á Ç):È:=
 ∃fs:Á Ë,ĵa=Ä/\Ō=ŕa/\(∀(i:Â)(n:Ç),ns[i]?=À n->∃f,fs[i]?=À f/\b n=À ī)/\ť=ŕa/\∀(P:ï)(h:Heap),Ž h->∃vs,KV (ŀg ċd) vs/\Ķe êb a vs
inductive VE(mg:Ç->É Value):Á Ç->Á Ë->È
 |nil:VE mg [] []
 |ñ {n:Ç} {f:Ë} {ns:Á Ç} {fs:Á Ë} (h:mg n=À ī) (r:VE mg ns fs):VE mg Ĭg (f::fs)
theorem VE.at_{c:Ç->É Value}:∀{ns:Á Ç}{fs:Á Ë},VE c ns fs->(∀(i:Â)(n:Ç),ns[i]?=À n->∃f,fs[i]?=À f/\c n=À ī)/\ť=ŕa
 |_,_,.nil=>{λi n h=>üo,rfl}|_,_,.cons h r=>by
  let{a,b}:=r.at_;show{λi n e=>?_,by rw[Ć,Ć,b]};cases i with
  |ň=>cases e;show{_,rfl,h}|Ŝ i=>show a i n ōa
theorem z19:∀{fs:Á Ë},zo ċd Ňp
 | []=>.nil|_::_=>.cons rfl z19
def z7l{K:Ô}{c:Ç->É Value}{w:æ}{a:Ë}{es:Á Ďc}{n:Â}{xs ns:Á Ç}{fs:Á Ë}(l:Ãa a=À { cls:=.type Ña,Ċ:=.dict es.toArray n })(e:YK w es xs Ňp)(k:xs.Nodup)(g:ĵa=Ä)(m:VE c ns fs) :Xi K w c a ϰo ns:=by
 let d:(ģc Æc:Á zY).length=(ċd).length:=by rw[ã,e.len,ã,ã]
 let{o,j}:=m.at_;refine{fs,g,by rw[d,ã],o,j,λP h f=>{_,y1o z19 d,?_}};let{p,q}:=e.pairs (P:=P);refine{_,_,_,f _ _ l,{rfl,rfl,rfl},rfl,λe i=>q e (by simpa using i),p,?_};rw[z20 (by rw[ã];show e.len)];show řh _ (λa b h z=>h (Łi z)) k
section
variable{X:Cx}
def z7j{A:Ë}{ks:Á zY}{ns:Á Ç}(g:Xi X.K X.w ð A ks ns):xG X Ģe (λx y H Q=>y=.ref A/\∃k,x=kV k/\Q đn H):=by intro l s σ H x y v u Q I i d h;let{rfl,k,rfl,q}:=h;cases d;let{m,a,c,_,_,f}:=g;let{j,b,e}:=f ö â Ϝ;show ęo (Zi i) a e.mapOf ?_;rw[<-(b.val k).Ue,UQ k Ĉm,HJ k Ĉm];show{.bl _,H,Óa _,rfl,q}
def x5d{A:Ë}{ks:Á zY}{ns:Á Ç}{x:Ç}{p pos:Pos}{a:Ö}{e:FE}(h:v7 ð x þg)(g:Xi X.K X.w ð A ks ns)(l:Gl X x)(r:SE X a e)(f:Î ō q10)(n:Î (ťc .In ϓb=Ä) q12) :ST X (.Compare a [.In] [.Name x p] pos) (tE (e1 (VS ks) e)):=by let{C,i,s}:=r.h;show{{_,oH (z7j g) i (OL h l f) n,λ{I B G H τ σ d Q} E c q=>?_}};let{z,b,c}:=zK c;let{y,j,b}:=zK b;let{k,o,b}:=zK b;cases b;cases c;show s E j λu v F t m=>{rfl,k,Yg o m,_,rfl,q _ _ t}
def z7k{A:Ë}{ks:Á zY}{ns:Á Ç}(g:Xi X.K X.w ð A ks ns):jd X (λx y H Q=>x=.ref A/\∃k n,y=kV k/\ĉ ks ns k=À n/\∀f,ð n=À ī->Q ī H):=by
 intro m j O s σ H x y v u Q I P G h U;let{rfl,k,n,rfl,R,q}:=h;cases P;let{a,B,Z,b,W,L}:=g;let{T,l,C}:=L ö â Ϝ
 let d:∀{ks:Á zY}{ns:Á Ç}{a:Á Ë},(∀(i:Â)(n:Ç),ns[i]?=À n->∃f,a[i]?=À f/\ð n=À ī)->ĉ ks ns k=À n->∃f,ĉ ks (Ìc ϛa) k=À ī/\ð n=À ī:=λ{ks}=>by
  induction ks with
  |nil=>intro ns a _ e;cases e|ñ k' ks ih=>
   intro ns a b e;cases ns with
   |nil=>cases e|ñ n' ns=>
    let{f0,z,Y}:=b 0 n' rfl;cases a with
    |nil=>cases z|ñ f1 a=>cases z;unfold ĉ at e;rw[Ļ];unfold ĉ;by_cases c:k'=k;rw[Ï c]at e ⊢;cases e;show{_,rfl,Y};rw[Ñ c]at e ⊢;show ih (λi n h=>b í n Ća) e
 let{f,E,J}:=d b R;let{t,S,p}:=źf (v:=ϛa f) (o:=Ĝc T k) (by rw[<-E,<-UQ k (by rw[ã];show Z)];show l.val k)
 show ϰe (x:=t) C.typeIs ϧk
  (ϝm (Q:=λr N=>r=t/\EP X O σ Q r N) (Zi G) C.mapOf S {rfl,_,H,Óa _,p,q f J}) U
inductive uG(X:Cx)(j:Â):Á Ç->Á FM->È
 |nil:uG X j [] []
 |ñ {n:Ç} {ps:Á Ç} {k:Â} {F:FM} {ns:Á Ç} {Fs:Á FM} (h:v8 ö X.w X.K ð ŀ n ps k ĉc) (hk:k<=j) (r:uG X j ns Fs):uG X j Ĭg (F::Fs)
theorem uG.get{X:Cx}{j:Â}{k:zY}{F:FM}:∀{ks:Á zY}{ns:Á Ç}{Fs:Á FM},uG X j ns Fs->ĉ ks Fs k=À F->∃n ps i,ĉ ks ns k=À n/\i<=j/\v8 ö X.w X.K ð ŀ n ps i ĉc
 | [],_,_,_,e=>by cases e|_::_,_,_,.nil,e=>by cases e|k'::ks,_,_,.cons (n:=n) (ps:=ps) (k:=i) h hk r,e=>by unfold ĉ at e;rw[âq];show{n,ps,i,by unfold ĉ;rw[Ï c],hk,h};rw[Ñ c]at e;let{d,a,f,g,b}:=Éb e;show{d,a,f,by unfold ĉ;rw[Ñ c];show g,b}
def GI(ks:Á zY)(c:Á FM)(b:FE)(a:qr):tR:=λβ=>(b Ĭe).bind λx=>(Źe).bind λk=>(ĉ ks c k).bind λF=>gR F a β
def y2v{A:Ë}{ks:Á zY}{ns:Á Ç}{z:Á FM}{x:Ç}{p p2 pos:Pos}{k e:Ö}{es:Á Ö}{I:FE}{C:qr}{j:Â}(h:v7 ð x þg)(g:Xi X.K X.w ð A ks ns)(Y:Gl X x)(D:uG X j ns z)(hr:ym j X.A)(hk:SE X k I)(ha:MA X Ę C)(hs:Î ϑf q12)(hd:Î ō q10)(he:Î ôa q12)(r:Î (ĩ Ŧk Û=(do ϲb pos (<-ĩ (.Subscript ϓb k p2) Û) [] êd Ŷb)) q12):MC X Ŧk (GI ks z I C):=by
 let{tk,S,T}:=Äd;let{ta,N,ka}:=ha.h;show{{_,y8v hr (BO (z7k g) (OL h Y hd) S (BS hs)) N he r,λ{P G0 H0 G H β β' σ m Q} E a q=>?_}};let{y,hy,a}:=zK a;let{o,c,a}:=zK a;let{F,hF,a}:=zK a;let{as,t,a}:=zK a;let{n,ps,i,Z,L,{f,fd,hm,R,b,FF}}:=D.get hF;let{G1,E1,l}:=E.jD;show T E1 hy λu G2 H2 x2 r2=>?_
 let{G3,U,J,_}:=l _ _ x2;show{rfl,o,n,Yg c r2,Z,λf' d=>?_};rw[hm]at d;cases d;show{f,fd,ps,i,_,rfl,L,R,b,FF,ka J t λvs G4 H4 B W=>?_};rw[Œ];show(J.go B).call W a λv G' O s K'=>q v G' O (U.g.trans (B.g.trans s)) K'
#print a
def wK(a:Á Ç)(f:Ç):D->É D
 |.obj x fs vs=>if x∈a then Ăa fs vs f else Å|_=>Å
theorem ġp{K:Ô}{G:Hp}{κ:Type}[řb κ]{k:κ}{d:D}:∀{ks:Á κ}{ds:Á D}{vs:Á V},ê K G ds vs->Ŗj ks ds k=À d->∃v,Ŗj ks vs k=À v/\zZ K G d v
 | [],_,_,_,e=>by cases e|_::_,[],_,_,e=>by cases e|k'::ks,d'::ds,vs,r,e=>by let{v,f,rfl,b,a}:=r;unfold Ŗj at e ⊢;by_cases c:k'=k;rw[Ï c]at e ⊢;cases e;show{v,rfl,b};rw[Ñ c]at e ⊢;show ġp a e
nonrec def qB(c m:Ç)(b:FE)(fs:FA):FA:=λτ=>(b τ).bind λo=>match o with
 |.obj x fl _=>match decide (x=c)&&!(decide (m∈fl))with
  |Ã=>(fs τ).bind λa=>À (o::a)|Ä=>Å
 |_=>Å
section
variable{X:Cx}{e o:Ö}{f m c:Ç}{cs:Á Ç}{fe fo:FE}{pos Èa:Pos}{ps:Á Ç}{j k:Â}{FF:Á D->É ä}
def vd(h:SE X e fe)(k:vi X.K cs f)(m:Î õl q12):SE X óf (e1 (wK cs f) fe):=by
 let{t,p,w}:=h.h;show{{_,nQ p m,λ{J N G H τ σ d Q} E b q=>?_}};let{y,r,b}:=zK b;show w E r λv F O c z=>?_
 unfold wK at b
 rw[Ťq];rename_i x I L;rw[ϗq];let{a,C,g,P,rfl,A,B,l,n}:=z;let{u,o,j}:=n.getA b;let{i,s}:=k x hx C A;show{a,C,g,_,u,rfl,ĸc _ _ B,i,s,by rw[B9];show o,q _ _ _ c j};rw[Ñ hx]at b;cases b;cases b
def x3v{f b G H:Hp}{τ:zx}{σ:St}{ds:Á D}{Q:VK}{C:Ë}{t:TA}{n:TE}{sp:Sp}{fs:FA}(j:Ϙ X.K ġ c=À ğa)(F:∀{f b G H:Hp}{τ:zx}{σ:St}{d:D}{Q:VK},zw X.K ò f b G H τ σ->fo τ=À d->(∀v G' H',zS G H G' H'->zZ X.K G' d v->Q v H')->n σ H Q)(A:∀{f b G H:Hp}{τ:zx}{σ:St}{ds:Á D}{Q:Á V->Hp->È},zw X.K ò f b G H τ σ->fs τ=À ds->(∀vs G' H',zS G H G' H'->ê X.K G' ds vs->Q vs H')->t σ H Q)(E:zw X.K ò f b G H τ σ)(h:qB c m fo fs τ=À ds)(q:∀vs G' H',zS G H G' H'->ê X.K G' ds vs->sp vs H' Q E0):DC C m sp [] E0 n t σ H Q:=by
 let{y,w,e}:=zK h
 rw[Ϛq];rename_i x u vs
 rw[Ϛq];rename_i k;rw[Đ]at k;cases ţ k.1
 let J:m ∉ u:=by let:=k.2;rw[Ùq]
 let{B,s,h}:=zK e;cases h;show F E w λv T S i o=>?_
 let{a,R,z,U,rfl,p,L,l,P}:=id o;rw[j]at p;cases p;show{a,z,_,rfl,i.gh _ _ L,N2 J,A (âa i) s λvs O Y r I=>?_};rw[Œ];show q _ _ _ (i.trans r) {_,vs,rfl,Ľg r.g,I};cases e;cases e
def x53{G H:Hp}{ds:Á D}{vs:Á V}{Q:VK}{b a:Hp}{d:D}{o:Ð}{E:XK}(x:zS b a G H)(r:ê X.K G ds vs)(h:FF ds=À (o,d))(q:∀v G' H',zS b a G' H'->zZ X.K G' d v->Q v H'):uR X.K FF vs H Q E:=by
 show{G,ds,o,d,Ĺb,r,h,?_};cases o with
 |Ä=>show λv G' H' c r=>q v G' H' (Őe c) r|Ã=>intro p G' H' c f e o;let{u,g,r}:=o.yj e;show q _ _ _ (Őe (c.yj f e g)) r
def UA{pl:Sem Ð}(h:gL ö X.w X.K ð ŀ c m ps k Će)(n:ym j X.A)(i:SE X o fo)(hk:Î Åb q10)(l:ĩ Îd Û=(do
   let ov <-ĩ o Û
   standAt Ůc
   let (f,first) <-holding [ov] ňc
   ϲb pos f first ĸh Ŷb):=by rfl):SE X Îd (zf FF (qB c m fo zE)):=by
 let{C,f,P,J,g,L,b,F}:=h;let{R,N,I}:=i.h;show{{_,nU N g L F (n.mono hk) b .nil Ys l,λ{s B G H τ σ d Q} E a q=>?_}};let{z,y,a}:=zK a;obtain⟨⟨T,U⟩,p,a⟩:=zK a;cases a;show x3v (t:=UH) J I (λ{s B G H τ σ z Q} u e v=>by cases e;show v _ _ _ (őa u.ext.gh) rfl) E y λS W O x r=>x53 x r p q
#print a
open Ľa
def z51{X:Cx}:vg X ąc (λxs H Q=>∃a kvs,xs=Ϯ/\Rd H a ũ/\∀p,H p=Å->Q Ŷ (ze H p ũ)):=by
 intro y s σ H xs z Q I r h;let{a,kvs,rfl,e,q}:=h;rw[Ōq];let{k,c,l,d,t}:=kN ĝ e;let g:īb=ŋ:=O0 d;refine kt_call_dict c t (by rw[g];show k) λx w m=>?_
 let f:ϸo=Ä:=by let:=I.big;rw[õf];show xj ϳo
 let n:∀b o,ø b=À o->x.get? b=À o:=λb o j=>by let i:=Ĥ j;show(m.2 b æo).trans (ě _ j)
 show{.ref Ý,_,ϖa (a:=Ý) (o:=.dK kvs) (t':=ĕ) n Ď (GR k f d w),rfl,q _ Ϟc}
nonrec def Me:Á D->É D
 | [.dic ks ds]=>À Ďo|_=>Å
def x43{X:Cx}{e:Ö}{fs:FA}{p pos:Pos}(r:Gl X Ña)(s:ð Ña=Å)(hv:ϔ Ña=À ąc)(w:SA X [e] fs)(n:Î Ĉa q12):SF X æm (eL Me fs):=by
 let{t,g,k}:=w.h;refine{{_,(U1 z51 r s hv {g} Ò Ò (by rw[Ź,n];rfl)).h,λ{J B G H τ σ d Q} E b q=>?_}};let{A,i,b}:=zK b;show k E i λy F C c o=>?_
 unfold Me at b
 rw[Ťq];rename_i I z;cases b;let{v,rfl,a,u,rfl,m,x,j,l}:=py o;show{a,_,rfl,Âc ĸc m,λp f=>?_};show q p _ _ (ϋa (Ńa ĸc f)) (ýj f) (ϫi f) {u,yt,x,j,l};cases b
#print L3
namespace L3
def x7l:uT .zO=Ã:=rfl
def x7m(b:Ð):uT ıb=Ã:=rfl
def x7n(i:Æ):uT Ϩ=Ã:=rfl
def x7o(x:ϯf):uT Ϻb=Ã:=rfl
def x7p(ds:Á D):uT àj=ĳb ds:=rfl
def x7q:ĳb []=Ã:=rfl
def x7r(d:D)(ds:Á D):ĳb (d::ds)=ńn:=rfl
def z40(i:Â)(π:Á wN)(d:D):kL Ļd i π=.v d:=rfl
def x6u(d:D):vU Ļd=d:=rfl
def x6v(d:D):vU Ĳj=d:=rfl
def x6w(x:ϯf)(fs:Á ϯf)(ms:Á M):vU Åi=.obj x fs Ċc:=rfl
def x6x(ks:Á (Sum Æ ϯf))(ms:Á M):vU Ĉo=.dic ks Ċc:=rfl
def x6y:Ϸc []=[]:=rfl
def x6z(m:M)(ms:Á M):Ϸc (m::ms)=vU m::Ϸc ms:=rfl
def z44(x:M):jG x []=À x:=rfl
def x0b(x y:M):jQ x [] y=À y:=rfl
def y2j(g:MG)(b:yd)(x:yU):gV g b [] x=À (.nx x):=rfl
def y2k(g:MG)(b:yd)(x:yU)(d:D)(r:Á D):type_of% (gV.eq_2 g b x d r):=rfl
open Ł Ş Ŋ L2
def fldk_nil{K:Ô}{f:Ç}:vi K [] f:=λx a=>Þ a ô
def fldk_cons{K:Ô}{f c:Ç}{C:Ë}{d:Á Ç}(ns:Ϙ K ġ c=À ğa)(g:qO K C)(e:şa K Ū f=À Å)(r:vi K d f):vi K (c::d) f:=λx b h a=>by rcases Ğ b with rfl|b;rw[ns]at a;cases a;show{g,e};show r x b h a
def Gu:Á D->É D
 | [.lst xs]=>(Ir xs).bind λa=>match a.all ĸk&&decide (ìa<=1000)with
  |Ã=>À (.int a.sum)|Ä=>Å
 |_=>Å
theorem z0h:∀{ns:Á Æ},(∀n∈ns,0<=n/\n<1099511627776)->0<=Ϣj/\Ϣj<=1099511627776*(ť:Æ)
 | [],_=>{Ϭa _,by decide}|n::ns,h=>by
  let{a,b}:=z0h λm e=>h m ůp
  let{c,d}:=h n ÿ;rw[Ļf,Ć]
  rw[ńq];omega;push_cast
  omega
def y7g{K:Ô}:Jk K (rF K) Gu:=λG H j t d Q s r b q=>by
 rcases j with _|⟨x_,r_⟩;cases b
 cases x_<;>first|(cases b;done)|skip
 cases r_<;>first|(cases b;done)|skip
 rename_i m;let{ns,o,b}:=zK (show(Ir m).bind _=À d from b);cases c:(ns.all ĸk&&decide (ť<=1000))with
 |Ä=>rw[c]at b;cases b|Ã=>
  rw[c]at b;cases b;rw[Đ]at c;let y:=ţ c.2
  let g:∀n∈ns,0<=n/\n<1099511627776:=λn e=>by let:=ãa c.1 n e;rw[Đ]at this;show{ţ this.1,ţ this.2}
  let{v,rfl,a,w,rfl,f,h,l}:=py r;rw[ig o h]at f;show{a,ns,rfl,.inl f,{λn e=>?_,λk x=>?_},q _ _ _ þa rfl};let:=g n e
  constructor<;>omega;let:=z0h (ns:=ns.take k) λn e=>g n (åd e)
  let p:(ůf).length<=1000:=by rw[åa];omega
  let u:((ůf).length:Æ)<=1000:=by exact_mod_cast p
  constructor<;>omega
def N4(i:Â)(F:D->D->É D)(f:FE):yd:=λβ=>(e2 F Âk f īe).bind λd=>À (.nx ãn)
section
variable{X:Cx}{np:Â}{x c:Ç}{p pos ϓ:Pos}{e:Ö}{f:FE}{F:D->D->É D}
def y34{i:Â}{m:Łd}{n:Jp}(p:M1 X m n)(z:tu X.K n F)(O:êa)(hi:X.N[i]?=À x)(c:qR ϻ x)(T:np<=i)(L:SE X e f)(a:Î Ŭa q7) :MS X np (.AugAssign Òe m e pos) (N4 i F f):=by let{t,o,k}:=L.h;show{{_,n_ O hi c o p a,λ{P U W G H β σ S E} Y K a q=>?_}};rw[ïq];let{x,c,b}:=zK b;let{y,A,b}:=zK b;let l:=K.J5;let{v,J,Q}:=l.fr _ _ (GW c);show{v,J,k l A λu r B j C=>z r B x y v u d _ j.gh (Q.mono j.g) C b λw R Z s I=>?_};show q _ _ _ (((Öa j).go s).Fj îb.1 Ê I)
#print a
open Ľa
section
variable{P:ï}{w:æ}{K:Ô}{mg:Ç->É Value}{Ì:Heap}
def y20{x:Ç}{st:Ü}{N:Á Ç}{k:Â}{F:FM}{b:yd}{f:Ë}{i:Ň}(d:Fun K Āb Āb st f i)(S:zn N [x] ŗ)(t:1<=ŕ)(y:∀ms r,F ms=À r->ĺa=1/\vF 1 ŕ b ms=À r)(e:∀ns:Á Æ,ť<=63->(∀m∈ns,vW m<=1048576)->∃r,F ųh=À (r,.fz Ķ))(p:∀(g:Value)(A:ù)(ċ:Á Env)(s:Í)(H:Hp)(E:XK),ym k (ġb (ïb Āb ŗ Ý f g))->je (qW xT P w K mg Ì N Āb ŗ f g A ċ s H E).qk 1 ßa b):xg P w K mg Ì xT Ĩ f i [x] Ük:=
 (d.v.J7 (F:=F) S t y p).imp λB H Q E h=>by let{a,ns,rfl,o,l,c,q}:=h;let{r,u}:=e ns l c;let j:ê K H ŵi Ϯ:={_,_,rfl,{a,_,rfl,o,ıd,by rw[ã];show Ăb Ê},rfl};show x52 {H,_,Ä,.bl Ã,Ša H,j,?_,λv C n _ z=>?_};exact(F (jv ŵi)).bind _=_;rw[show jv ŵi=ųh from rfl,u];rfl;cases(show v=.bl Ã from z);show q n
#print a
#print L3
namespace L3
open Ł Ş Ŋ L2
def zT(K:Ô)(x:Ç)(st:Ü):È:=
 ∃(f:Ë) (od an:É Ë) (sl:Ú ϯa) (oc kV dc pm cd ct:Value),Ϙ K ġ x=À řa/\Ãa f=Mh x st oc od sl kV dc pm an cd ct/\Ţb K cd x=Ã/\Þa K ī=Ã
section
variable{K:Ô}{mg:Ç->É Value}{h:Heap}{x p0 p1 p2 p3:Ç}{st:Ü}{ps:Á Ç}
def fnp_mk{f:Ë}{h d:É Ë}{i:Ú ϯa}{e kV j g b ct:Value}(a:Ϙ K ġ x=À řa)(l:Ãa f=Mh x st e h i kV j g d b ct)(c:Ţb K b x=Ã)(k:Þa K ī=Ã):zT K x st:={_,_,_,_,_,_,_,_,_,_,a,l,c,k}
def zT.d(a:zT K x st)(X:Ž h)(G:īa ġ mg)(b:∀(kV e j:Value)(i:É Ë)(g ct:Value)(us:Á Value),éa=ħ->Þg (ϫc x x ŝd ßa ŗ .none kV e j i g ct) {us,[]}=pure Ąc):Def K mg x st ps:=by let{f,p,i,m,o,kV,q,j,n,ct,a,l,c,k}:=a;let F:=iA (st:=st) l c k;show{_,_,F,Åc X G a,F.binds b}
abbrev BA(x:Ç)(st:Ü)(us:Á Value)(ps:Á Ç):È:=∀(kV doc pm:Value)(an:É Ë)(cdv ct:Value),Þg (ϫc x x ŝd ßa ŗ .none kV doc pm an cdv ct) {us,[]}=pure Ąc
def zT.d0(a:zT K x st)(X:Ž h)(G:īa ġ mg)(b:Î (BA x st [] []) q15):Def K mg x st []:=a.d X G λ_ _ _ _ _ _=>z14 (b _ _ _ _ _ _)
def zT.d1(a:zT K x st)(X:Ž h)(G:īa ġ mg)(b:Î (∀u,BA x st [u] [p0]) q15):Def K mg x st [p0]:=a.d X G λ_ _ _ _ _ _=>us1 λu=>b u _ _ _ _ _ _
def zT.d2(a:zT K x st)(X:Ž h)(G:īa ġ mg)(b:Î (∀u v,BA x st [u,v] ře) q15):Def K mg x st ře:=a.d X G λ_ _ _ _ _ _=>us2 λu v=>b u v _ _ _ _ _ _
def zT.d3(a:zT K x st)(X:Ž h)(G:īa ġ mg)(b:Î (∀u v y,BA x st [u,v,y] ϭo) q15):Def K mg x st ϭo:=a.d X G λ_ _ _ _ _ _=>us3 λu v y=>b u v y _ _ _ _ _ _
def zT.d4(a:zT K x st)(X:Ž h)(G:īa ġ mg)(b:Î (∀u v y z,BA x st [u,v,y,z] îe) q15):Def K mg x st îe:=a.d X G λ_ _ _ _ _ _=>us4 λu v y z=>b u v y z _ _ _ _ _ _
def _root_.L2.Def.oS(d:Def K mg x st ps)(P:ï)(w:æ)(a:Heap)(k:Â)(F:Á D->É ä)(S:zn N ps ŗ)(i:∀ds r,F ds=À r->þ=ħ/\yJ ŕ b ds=À r)(e:∀{f:Ë}{c:Value}{A:ù}{ċ:Á Env}{s:Í}{H:Hp}{E:XK},ym k Úh->t_ (Ŕk).qk ßa b)(g:Î ϋf q10):v8 P w K mg a x ps Ĩ Ņe:=Def.z39 d S g i λ_ _ _ _ _ _ _ h=>e h
def _root_.L2.Def.oM(d:Def K mg x st ps)(P:ï)(w:æ)(a:Heap)(k:Â)(F:FM)(S:zn N ps ŗ)(i:∀ms r,F ms=À r->ĺa=ħ/\vF ħ ŕ b ms=À r)(e:∀{f:Ë}{c:Value}{A:ù}{ċ:Á Env}{s:Í}{H:Hp}{E:XK},ym k Úh->je (Ŕk).qk ħ ßa b)(g:Î ϋf q10):v8 P w K mg a x ps Ĩ êg:=Def.J7 d S g i λ_ _ _ _ _ _ _ h=>e h
def vw.oM(d:vw K x q st f fd)(P:ï)(w:æ)(mg:Ç->É Value)(a:Heap)(k:Â)(F:FM)(S:zn N ps ŗ)(i:∀ms r,F ms=À r->ĺa=ħ/\vF ħ ŕ b ms=À r)(e:∀{c:Value}{A:ù}{ċ:Á Env}{s:Í}{H:Hp}{E:XK},ym k Ēl->je (ŕk).qk ħ ßa b)(g:Î ϋf q10):xg P w K mg a xT Ĩ f fd ps êg:=d.J7 S g i λ_ _ _ _ _ _ h=>e h
def vw.oF(d:vw K x q st f fd)(P:ï)(w:æ)(mg:Ç->É Value)(a:Heap)(k:Â)(F:Á D->É ä)(S:zn N ps ŗ)(i:∀ds r,F ds=À r->þ=ħ/\yJ ŕ b ds=À r)(e:∀{c:Value}{A:ù}{ċ:Á Env}{s:Í}{H:Hp}{E:XK},ym k Ēl->t_ (ŕk).qk ßa b)(g:Î ϋf q10):xg P w K mg a xT Ĩ f fd ps Ņe:=d.z38 S g i λ_ _ _ _ _ _ h=>e h
#print a
#print L3
namespace L2
open Ł Ş Ľa Ŋ
nonrec def wj(p:ß):Æ:=numOf p.1
def ye(p q:ß):È:=wj p<=wj q
def UC(p:ß):È:=∃n t,p.1=.int n t
def uS(x:Ú ß):È:=∀(i:Â) p,x[i]?=À p->UC p
nonrec def VZ:Ð->ß->Ú ß->Â->Â->Â->Š ā Sem ϕ:=sortPriv% PySem.Builtin.gallop
nonrec def mH:Ú ß->Ú ß->Š ā Sem Đc:=sortPriv% PySem.Builtin.mergeLo
nonrec def mG:Ú ß->Ú ß->Š ā Sem Đc:=sortPriv% PySem.Builtin.mergeHi
section
variable{ă:ï}{w:æ}{A:ù}{E:Value->Í->È}{s:Í}
def uU{x:Ú ß}{i:Â}{p:ß}{st:ā}{Q}(h:x[i]?=À p)(q:Q p st):wpS è A E s (Ĕa x i) Q st:=by rw[elem'_eq,h];show ü q
def w_lt{p q:ß}{st:ā}{Q:É Ð->ā->È}(hk:Łg st=Ĳe)(c:UC p)(d:UC q)(h:Q (À (decide (wj p<wj q))) st):wpS è A E s (lt' p q) Q st:=by obtain⟨⟨a,t,e⟩,⟨b,u,f⟩⟩:=é c d;rw[lt'_eq];show î Łe;unfold wj at h;rw[hk,keyLt'_oneType,e,f];rw[e,f]at h;show î (ųl (øf (oneLt_int {rfl,ü h})))
def SH(B:Â->Ð)(n hi:Â):È:=hi<=n/\(∀i,i<hi->B i=Ã)/\∀i,hi<=i->i<n->B i=Ä
nonrec def gg(left:Ð)(k:Æ)(f:Â->Æ)(i:Â):Ð:=if left then decide (f i<k)else !decide (k<f i)
def w0r{left:Ð}{a x:ß}{st:ā}{Q:É Ð->ā->È}(hk:Łg st=Ĳe)(b:UC a)(c:UC x)(h:Q (À (gg left (wj a) (λ_=>wj x) 0)) st) :wpS è A E s (if left=Ã then lt' x a else do let y <-lt' a x;pure Ļl) Q st:=by
 cases left with
 |Ã=>show w_lt hk c b h|Ä=>show î (w_lt hk b c (ü h))
def DN{β:Type}{n:Â}{c:β}{f:Â->β->Š ā Sem (åb β)}{st:ā}{Q R:β->ā->È}(I:Â->β->È)(h:I 0 c)(a:∀i c,i<n->I i c->wpS è A E s (f i c) (λr st'=>match r with|.done c'=>Q c' st'|.yield c'=>st'=st/\I í c') st)(e:∀c,I n c->Q c st)(d:∀c st',Q c st'->R c st'):wpS è A E s İn R st:=by show ϙd (ác (I:=λi c st'=>st'=st/\I i c) (Q:=Q) ?_ ?_ {rfl,h}) d;rintro i c _ _ b ⟨rfl,h⟩;show a i c b h;rintro c _ ⟨rfl,h⟩;rw[ďi]at h;show e c h
def z1c{B:Â->Ð}{n lo hi:Â}{st:ā}{f:Â->É ϕ×Â×Â->Š ā Sem (åb (É ϕ×Â×Â))}{R:É ϕ×Â×Â->ā->È}(a:∀i j,i<=j->j<n->B j=Ã->B i=Ã)(C:lo<=hi)(u:hi<=n)(H:∀i,i<lo->B i=Ã)(F:∀i,hi<=i->i<n->B i=Ä)(I:∀x l r Q,r<=l->Q (.done (Å,l,r)) st->wpS è A E s ön Q st)(G:∀x l r Q,l<r->r<=n->(B Űf=Ã->Q (.yield (Å,l+(r-l)/2+1,r)) st)->(B Űf=Ä->Q (.yield (Å,l,l+(r-l)/2)) st)->wpS è A E s ön Q st)(q:∀m,SH B n m->R (Å,m,m) st):wpS è A E s (Ĵb [:n] (Å,lo,hi) f) R st:=by show DN (Q:=λc o=>o=st/\∃m,c=(Å,m,m)/\SH B n m) (λx c=>∃l r,c=(Å,l,r)/\l<=r/\r<=n/\r+x<=n+l/\(∀i,i<l->B i=Ã)/\∀i,r<=i->i<n->B i=Ä) {lo,hi,rfl,C,u,Ĥn u ũb,H,F} ?_ ?_ ?_;rintro x _ J ⟨l,r,rfl,t,b,y,d,h⟩;by_cases c:r<=l;cases ύb t c;show I _ _ _ _ c {rfl,l,rfl,b,d,h};let v:=įa l ((r-l)/2);let k:=Ŵl (Nat.div_lt_self (œh òf) (Čb 1));show G _ _ _ _ òf b ?_ ?_<;>(generalize l+(r-l)/2=m at v k ⊢;intro e);show{rfl,_,r,rfl,k,b,by omega,λi p=>a i m (ŉb p) (ŭ k b) e,h};refine{rfl,l,_,rfl,v,by omega,by omega,d,λi p z=>?_};cases e2:B i;rfl;rw[a _ i p z e2]at e;cases e;rintro _ ⟨l,r,rfl,t,b,y,d,h⟩;cases ύb t Ê;show{rfl,l,rfl,b,d,h};rintro _ _ ⟨rfl,m,rfl,g⟩;show q m g
def w0u{left:Ð}{f:ß}{x:Ú ß}{b n d:Â}{st:ā}{Q:É Â->ā->È}(hk:Łg st=Ĳe)(P:UC f)(J:uS x)(W:b+n<=Āa)(H:d<n)(T:∀i j,i<=j->j<n->K x (b+i)<=K x (b+j))(h:∀hi,SH Ål n hi->Q (À hi) st) :wpS è A E s (VZ left f x b n d) Q st:=by
 have G:∀i Q,i<n->Q (À (gg left ŷe Ěf i)) st->wpS è A E s (Ĕa x (b+i) >>= λx=>if left=Ã then lt' x f else do let y <-lt' f x;pure Ļl) Q st:=by
  intro i Q hi q;rw[ŏq];show î (uU e (w0r hk P (J _ _ e) ?_));let e2:K x (b+i)=wj x[b+i]:=by unfold K;rw[e];rfl
  let L:gg left ŷe (λ_=>wj x[b+i]) 0=gg left ŷe Ěf i:=by unfold gg;simp only[e2]
  rw[L];show q
 let k:∀i j,i<=j->j<n->gg left ŷe Ěf j=Ã->gg left ŷe Ěf i=Ã:=by intro i j R S;let:=T i j R S;unfold gg;cases left;simp only[Ňb,ċa,ţm,decide_eq_false_iff_not];omega;simp only[ϋ,ąf];omega
 generalize Ål=B at h G k;unfold VZ;show î (G d _ H ?_);cases e:B d;show î (DN (Q:=λc v=>v=st/\∃l o,c=(Å,l,o)/\l<=d/\B (d-l)=Ä/\l<o/\∀i,i+o<=d->B i=Ã) (λx c=>∃l o,c=(Å,l,o)/\l<=d/\B (d-l)=Ä/\l<o/\x<o) {0,1,rfl,ŵ _,e,Öe,Öe} ?_ ?_ ?_);rw[ŗq]
 split;show ü {rfl,l,o,rfl,t,p,u,λi _=>by omega};let lo:=Öb (Nat.sub_le d o) H;show î Ϫn;cases e2:B (d-o);show ü {rfl,o,_,rfl,by omega,e2,by omega,by omega};show ü {rfl,l,o,rfl,t,p,u,λi F=>k i _ (Nat.le_sub_of_add_le F) lo e2};rintro _ ⟨l,o,rfl,t,p,u,C⟩;show{rfl,l,o,rfl,t,p,u,λi _=>by omega};rw[Űq];refine î (z1c (B:=B) (lo:=d+1-min o (d+1)) (hi:=d-l) k (ý (Þm (ϲh {u,õa t}) _) (Œb (Nat.add_sub_add_right ..))) (Ûa (Öb Ĵa H)) (λi a=>C i (by let:=Nat.add_lt_of_lt_sub a;omega)) (λi F N=>?_) òm Ŋl λm g=>ü (h m g));cases e2:B i;rfl;rw[k _ i F N e2]at p;cases p;rw[żq];show î (DN (Q:=λc v=>v=st/\∃l o,c=(Å,l,o)/\d+l<n/\B (d+l)=Ã/\l<o/\∀i,d+o<=i->i<n->B i=Ä) (λx c=>∃l o,c=(Å,l,o)/\d+l<n/\B (d+l)=Ã/\l<o/\x<o) {0,1,rfl,H,e,Öe,Öe} ?_ ?_ ?_);rw[ŗq]
 split;rename_i c
 replace c:=Nat.le_add_of_sub_le c
 show ü {rfl,l,o,rfl,t,p,u,λi _ _=>by omega};rename_i c;let lo:=Ŵl òf;show î Ϫn;cases e2:B (d+o);show ü {rfl,l,o,rfl,t,p,u,λi F N=>by cases L:B i;rfl;rw[k _ i F N L]at e2;cases e2};show ü {rfl,o,_,rfl,lo,e2,by omega,by omega};rintro _ ⟨l,o,rfl,t,p,u,C⟩;show{rfl,l,o,rfl,t,p,u,λi _ _=>by omega};rw[Űq];show î (z1c (B:=B) (lo:=d+l+1) (hi:=d+min o (n-d)) k (Nat.add_lt_add_left (Nat.lt_min.mpr {u,Nat.lt_sub_of_add_lt (ĕd .. ▸ t)}) _) (ý (åc (ϣg ..) _) (Œb (ßd (Ûa H)))) (λi F=>k i (d+l) (ŉb F) t p) (λi a b=>?_) òm Ŋl λm g=>ü (h m g));rcases ōf o (n-d)with z|z;rw[ϥa z]at a;show C i a b;rw[ĕf z,ßd (Ûa H)]at a;show Þ b (äe a);rw[żq]
#print a
structure tI(R:ß->ß->È)(t o x y:Á ß):È where
 p:(o++ĵg).Perm t
 sx:(o++x).Pairwise R
 sy:(o++y).Pairwise R
section
variable{R:ß->ß->È}{t o m x y:Á ß}
def ĉg(h:tI R t o x y):tI R t o y x:={(ăh o List.perm_append_comm).trans h.p,h.sy,h.sx}
def Ċg(h:tI R t o (m++x) y)(c:∀p∈m,∀q∈y,R p q):tI R t (o++m) x y:=by let{p,a,b}:=h;show{?_,?_,?_};rw[Ţ]at p ⊢;show p;rw[Ţ];show a;rw[List.pairwise_append]at a b ⊢;show{?_,b.2.1,λp e q d=>?_};show Ϥd {a.1,(żb a.2.1).1,λp e q d=>a.2.2 p e q (Ÿb _ d)};rcases ύ e with z|z;show b.2.2 p z q d;show c p z q d
def Ϟj(h:tI R t o x y)(c:∀p∈x,∀q∈y,R p q):(ϕp).Perm t/\(ϕp).Pairwise R:=by let:=(Ċg (m:=x) (x:=[]) (by rw[Œ];show h) c);show{by rw[Ţ];show h.p,this.sy}
#print a
def Çb{p q r:ß}(a:ye p q)(b:ye q r):ye p r:=ãb a b
section
variable{ă:ï}{w:æ}{A:ù}{E:Value->Í->È}{s:Í}
def QV{left:Ð}{a:ß}{x:Ú ß}{b n d:Â}{st:ā}{Q:É Â->ā->È}(hk:Łg st=Ĳe)(f:UC a)(o:uS x)(t:b+n<=Āa)(q:d<n){z:Á ß}(m:(Ţn b).take n=z)(r:z.Pairwise ye)(h:∀k,k<=n->(∀p∈z.take k,if left then wj p<wj a else ye p a)->(∀p∈z.drop k,if left then ye a p else wj a<wj p)->Q (À k) st) :wpS è A E s (VZ left a x b n d) Q st:=by
 have y:Ņ=n:=by rw[<-m,åa,ŏa,ļ];omega
 let g:∀i (l:i<Ņ),K x (b+i)=wj z[i]:=by intro i l;subst m;rw[ŏq];unfold K;rw[e,Ŗh,Ĉf,đb];rfl
 show w0u hk f o t q (λi j u v=>?_) λk c=>h k c.1 (λp f=>?_) λp f=>?_;rw[g i Ê,g j Ê];by_cases e:i=j;subst e;show Ϭa _;show Ϡd r i j _ _ Ê;let{i,l,rfl}:=List.mem_take_iff_getElem.mp f;let:=c.2.1 i Ê;simp only[gg,g i (show i<Ņ by omega)]at this;cases left;show Œc ϗl;rw[Ùq];let{i,l,rfl}:=List.mem_drop_iff_getElem.mp f;let:=c.2.2 (k+i) Ê Ê;simp only[gg,g (k+i) Ê]at this;simp only[ĕd k i]at this ⊢;cases left;rw[Ùq];show Œc ϗl
def g8{β:Type}(Q I:β->È):åb β->È
 |.done c=>Q c|.yield c=>I c
abbrev yR(a:Ú ß)(p:Ú ųa)(f:É Value)(g:Â):ā:=Ćc Ĳe a p g f
def QU{β:Type}{n:Â}{c:β}{f:Â->β->Š ā Sem (åb β)}{a p fl g}{R:β->ā->È}(I:Â->β->È)(Q:β->È)(h:I 0 c)(b:∀i c g,i<n->I i c->wpS è A E s (f i c) (λr st'=>∃g',st'=yR a p fl g'/\g8 Q (I í) r) êi)(j:∀c,I n c->Q c)(e:∀c g,Q c->R c êi):wpS è A E s İn R êi:=by show ϙd (ác (I:=λi c st'=>∃g,st'=yR a p fl g/\I i c) (Q:=λc st'=>∃g,st'=yR a p fl g/\Q c) ?_ ?_ {g,rfl,h}) ?_;rintro i c _ _ d ⟨g,rfl,h⟩;show ϙd (b i c g d h) ?_;rintro r _ ⟨g,rfl,h⟩;cases r<;>show{g,rfl,h};rintro c _ ⟨g,rfl,h⟩;rw[ďi]at h;show{g,rfl,j c h};rintro c _ ⟨g,rfl,h⟩;show e c g h
#print a
def wU(t:Á ß)(a b o:Ú ß)(i j:Â):È:=tI ye t ôj Ĝg (ùc j)
def uy(t:Á ß)(r:Ú ß):È:=r.toList.Perm t/\r.toList.Pairwise ye
section
variable{t:Á ß}{a b o:Ú ß}{i j k:Â}{p:ß}
def GT(h:a[i]?=À p):Üb i=p::Üb í:=by let{b,rfl}:=Ôd h;rw[Žb ćm,đb]
theorem wU.swap(h:wU t a b o i j):wU t b a o j i:=ĉg h
def wU.pa(h:wU t a b o i j)(e:a[i]?=À p)(c:∀q∈ùc j,ye p q):wU t a b ĺd í j:=by unfold wU at h ⊢;rw[GT e]at h;rw[Ëe];show Ċg (m:=[p]) h λq d=>Ľ d▸c
def wU.pb(h:wU t a b o i j)(e:b[j]?=À p)(c:∀q∈Üb i,ye p q):wU t a b ĺd i ϫ:=(õn).swap
def wU.ca(h:wU t a b o i j)(c:∀p∈(Ĝg).take k,∀q∈ùc j,ye p q):wU t a b Ĝf Ϻc j:=by unfold wU at h ⊢;rw[<-ϡa k Ĝg,ϴh]at h;rw[çc,ϱd,ϣd,æh];show h.move c
def wU.cb(h:wU t a b o i j)(c:∀p∈(ùc j).take k,∀q∈Üb i,ye p q):wU t a b (o++çb j (j+k)) i (j+k):=(ēp c).swap
theorem wU.fin(h:wU t a b o i j)(c:∀p∈Üb i,∀q∈ùc j,ye p q):uy t (o++őb i Ŏ++çb j ϗ):=by
 let e:∀(x:Ú ß) k,(Ęe k Āa).toList=Ţn k:=λx k=>by rw[ϱd,ϣd];show ãc (by rw[ŏa,ļ];show Ĭ _)
 unfold uy;rw[çc,çc,e,e];show Ϟj h c
def wU.hd(h:wU t a b o i j)(e:a[i]?=À p):∀q∈Üb i,ye p q:=by unfold wU at h;let:=(żb h.sx).2.1;rw[GT e]at this ⊢;intro q c;rcases Ğ c with rfl|c;show Ϭa _;show(ϯd this).1 q c
def wU.sa(h:wU t a b o i j):(Ĝg).Pairwise ye:=ϒk.2.1
def mW(h:i=Ŏ){P:ß->È}:∀p∈Üb i,P p:=by rw[àd Çe];intro p b;cases b
def į(h:ϗ-i=k):(ùc i).take k=ùc i:=ãc (by rw[ŏa,ļ];omega)
#print a
abbrev sr:=É Đc×Ú ß×Â×Â×Â
abbrev Bv:=É Đc×Ú ß×Â×Â×Â×Â
abbrev WJ:=É Đc×Ú ß×Â×Â×Â×Â×Â
structure UD(t:Á ß)(a b:Ú ß)(x:Â)(o:Ú ß)(i j:Â):È where
 l:wU t a b o i j
 p:i+1<Ŏ
 q:j<ϗ
 s:x<i+j
section
variable(t:Á ß)(a b:Ú ß)(x:Â)
inductive D0:sr->È
 |mk {o i j m}:UD t a b x o i j->D0 (Å,o,i,j,m)
inductive Oz:Bv->È
 |mk {o i j m n}:UD t a b x o i j->Oz (Å,o,i,j,m,n)
inductive WK:Bv->È
 |fin {r c}:uy t r->WK (À r,c)
 |go {o i j m n}:UD t a b x o i j->WK (Å,o,i,j,m,n)
inductive QH:WJ->È
 |mk {o i j m n q}:UD t a b x o i j->QH (Å,o,i,j,m,n,q)
inductive gj:WJ->È
 |fin {r c}:uy t r->gj (À r,c)
 |go {o i j m n q}:UD t a b x o i j->gj (Å,o,i,j,m,n,q)
#print a
def Yq{a b:Â}(h:a<=b)(c:¬Že=Ã):a<b:=Āf h λe=>c (ώb e)
def W1{a:Â}(c:¬(a==0)=Ã):∃n,a=n+1:=Nat.exists_eq_succ_of_ne_zero λe=>c (ώb e)
nonrec def Bz(r:É Â)(f:Â->Š ā Sem β)(g:Š ā Sem β):Š ā Sem β:=(sortPriv% PySem.Builtin.mergeLo.match_1) æf r f λ_=>g
section
variable(a b:Ú ß)
nonrec def X1(o:Ú ß)(i j:Â):Ú ß:=o++őb i Ŏ++çb j ϗ
nonrec def Bu(o:Ú ß)(i j:Â):Ú ß:=o++çb j ϗ++őb i Ŏ
def SV(o:Ú ß)(i j g k m:Â):Š ā Sem åg:=do
 let p <-Ĕa a i
 if øo=Ã then pure (.done (À ŉm,ϐ p,i+1,j,g,k,m))
 else if(decide (k<7)&&decide (m<7))=Ã then pure (.done (Å,ϐ p,i+1,j,g,k,m))else pure (.yield (Å,ϐ p,i+1,j,g,k,m))
def SU(o:Ú ß)(i j g k u:Â):Š ā Sem åg:=do
 let q <-Ĕa b j
 if Øp=Ã then pure Ĝk
 else do
  let p <-Ĕa a i
  let r <-VZ Ã p b ϫ (ϗ-ϫ) 0
  Bz r (λm=>
   if m>0 then
    if(j+1+m==ϗ)=Ã then pure (.done (À (X1 a b ıl i ϊj),ϐ q++çb ϫ ϊj,i,j+1+m,g,k,m))
    else SV a b ıl i ϊj g k m
   else SV a b ěg i ϫ g k m) (pure Ĝk)
def SR(o:Ú ß)(i j n u g:Â):Š ā Sem åg:=do
 Ϧc λs=>Ćc Żc ϑc Ģc g Ūc
 let q <-Ĕa b j
 let r <-VZ Ä q a i (Ŏ-i) 0
 Bz r (λk=>
  if k>0 then
   if(i+k+1==Ŏ)=Ã then pure (Γd (Bu a b Ĝf Ϻc j) Ϻc)
   else if(i+k==Ŏ)=Ã then pure (Γd (X1 a b Ĝf Ϻc j) Ϻc)
   else SU a b Ĝf Ϻc j g k u
  else SU a b o i j g k u) (pure (.done (À ĳf,o,i,j,g,n,u)))
nonrec def Oy(r:É α)(f:α->Š ā Sem β)(g:Š ā Sem β):Š ā Sem β:=Break.runK.match_1 æf r f λ_=>g
nonrec def sw(r:É Ð)(f:Ð->Š ā Sem β)(g:Š ā Sem β):Š ā Sem β:=(sortPriv% PySem.Builtin.countRun.match_1) æf r f λ_=>g
def z01(o:Ú ß)(i j g m n:Â):Š ā Sem (åb Bv):=do
 let q <-Ĕa b j
 let p <-Ĕa a i
 let r <-lt' q p
 sw r (λt=>
  if t=Ã then do
   let q <-Ĕa b j
   if Øp=Ã then pure (.done (À (X1 a b ěg i ϫ),ϐ q,i,j+1,0,n+1))
   else if n+1≥g then pure (.done (Å,ϐ q,i,j+1,0,n+1))else pure (.yield (Å,ϐ q,i,j+1,0,n+1))
  else do
   let p <-Ĕa a i
   if øo=Ã then pure (.done (À ŉm,ϐ p,i+1,j,m+1,0))
   else if m+1≥g then pure (.done (Å,ϐ p,i+1,j,m+1,0))else pure (.yield (Å,ϐ p,i+1,j,m+1,0))) (pure (.done (À ĳf,o,i,j,m,n)))
def x57(x:WJ):Š ā Sem åg:=if x.2.2.2.2.1>1 then SR a b x.2.1 x.2.2.1 x.2.2.2.1 x.2.2.2.2.2.1 x.2.2.2.2.2.2 (x.2.2.2.2.1-1)else SR a b x.2.1 x.2.2.1 x.2.2.2.1 x.2.2.2.2.2.1 x.2.2.2.2.2.2 x.2.2.2.2.1
def x58(o:Ú ß)(i j g:Â):Š ā Sem (åb sr):=do
 let d <-Ĵb [:Ŏ+ϗ] ((Å,o,i,j,0,0):Bv) λ_ d=>z01 a b d.2.1 d.2.2.1 d.2.2.2.1 g d.2.2.2.2.1 d.2.2.2.2.2
 Oy d.1 Ġk do
  liftM ěl
  let e <-Ĵb [:Ŏ+ϗ] ((Å,d.2.1,d.2.2.1,d.2.2.2.1,g+1,d.2.2.2.2.1,d.2.2.2.2.2):WJ) λ_ e=>x57 a b e
  Oy e.1 čk do
   Ϧc λs=>Ćc Żc ϑc Ģc Ąn Ūc
   pure Ĥk
#print a
def ĵb(x:Ú ß)(i:Â)(h:i<Āa):∃p,x[i]?=À p:={_,getElem?_pos x i h}
section
variable{t:Á ß}{a b:Ú ß}(hl:∀q∈ĺe,∀p∈Üb Ěg,ye q p)
include hl in
theorem wU.lst{o i j}(l:wU t a b o i j)(e:i+1=Ŏ):uy t (Bu a b o i j):=Ϛo λq c p d=>hl q (List.drop_subset _ _ c) p (by rw[show Ŏ-1=i by omega];show d)
def wU.da{o i j}(l:wU t a b o i j)(e:i=Ŏ):uy t ĳf:=Šg (mW e)
def wU.db{o i j}(l:wU t a b o i j)(e:j=ϗ):uy t ĳf:=Šg λp c=>mW e
#print a
section
variable{ă:ï}{w:æ}{A:ù}{E:Value->Í->È}{s:Í}
def xt{α:Type}{c:È}[ĝe c]{m n:Š ā Sem α}{Q:α->ā->È}{st:ā}(b:c->wpS è A E s m Q st)(a:¬c->wpS è A E s n Q st):wpS è A E s (if c then m else n) Q st:=by by_cases h:c;rw[Ï h];show b h;rw[Ñ h];show a h
section
variable{t:Á ß}{a b:Ú ß}(ha:uS a)(hb:uS b)(hl:∀q∈ĺe,∀p∈Üb Ěg,ye q p){a0:Ú ß}{p0:Ú ųa}{f0:É Value}{x y g m k u:Â}{o:Ú ß}{i j:Â}{p q:ß}
include hl in
theorem z1i(l:wU t a b o i j)(ep:a[i]?=À p)(c:∀r∈ùc j,ye p r)(e:i+1<Ŏ)(d:j<ϗ)(f:x<=i+j)(h:y<=x):wpS è A E s (SV a b o i j g k m) (η (gj t a b y) (QH t a b x)) ôc:=by
 replace l:=l.pa ep c
 show î (uU ep (υ (οb ňn)))
 replace c:=Yq e c
 show xt (λ_=>ü {g,rfl,gj.go {l,c,d,by omega}}) λ_=>ü {g,rfl,QH.mk {l,c,d,by omega}}
include ha hb hl in
theorem z1h(l:wU t a b o i j)(n:b[j]?=À q)(c:∀r∈Üb i,ye q r)(f:i+1<Ŏ)(F:x<i+j+1)(e:y<=x):wpS è A E s (SU a b o i j g k u) ϓk ôc:=by
 let z:=(Ôd n).1
 replace l:=l.pb n c
 show î (uU n (υ (οb (l.db Øb))))
 replace c:=Yq z c
 replace e:=ϊb e
 let{p,d}:=ĵb a i (ëc f);show î (uU d (î (QV rfl (ha _ _ d) hb èn (œh c) Šp čp λm h e1 e2=>?_)));rw[ϴh]at e2
 replace h:j+1+m<=ϗ:=ĕd .. ▸ Ϩl Őd h
 show xt đc λC=>?_;let v:=l.cb λp B r G=>Çb (øa (e1 p B)) (l.hd d r G)
 refine xt (οb (v.db Øb)) λc=>z1i hl v d e2 f (Yq h c) Ê e;cases Ϯg C;show z1i hl l d e2 f c F e
include ha hb hl in
theorem z1g(l:wU t a b o i j)(z:i+1<Ŏ)(F:j<ϗ)(H:x<i+j)(B:y<=x){n G:Â}:wpS è A E s (SR a b o i j n u g) ϓk (yR a0 p0 f0 G):=by
 let{q,e}:=ĵb b j F;let h:=ëc z;show î (θ (ςd (QV rfl (hb _ _ e) ha (Œb (ßd (Ûa h))) (œh h) Šp l.sa λk m K d=>?_)));rw[ϴh]at d
 replace d:=λp f=>øa (d p f)
 replace m:i+k<=Ŏ:=ĕd .. ▸ Ϩl (Ûa h) m
 show xt đc λc=>?_;let v:=l.ca λp f r J=>Çb (K p f) (ϧf e r J)
 refine xt (Ρd (v.lst hl Øb)) λC=>xt (Ρd Îp) λI=>z1h ha hb hl v e d (Yq (Yq m I) C) Ê B;cases Ϯg c;show z1h ha hb hl l e d z (Ņb H) B
include ha hb hl in
theorem w0x(l:UD t a b x o i j)(B:y<=x+1){n:Â}:wpS è A E s (z01 a b o i j g m n) (η (WK t a b y) (Oz t a b Ąb)) ħf:=by
 let{l,k,h,z}:=l;let{p,e}:=ĵb a i (ëc k);let{q,f}:=ĵb b j h;show î (uU f (ςd (Νc (hb _ _ f) (ha _ _ e))));by_cases c:wj q<wj p;rw[ú c];let d:=l.pb f λr v=>Çb (øa c) (l.hd e r v)
 show î (uU f (ωc (d.db Øb)))
 replace c:=Yq h c
 show xt (λ_=>ü {_,rfl,WK.go {d,k,c,by omega}}) λ_=>ü {_,rfl,Oz.mk {d,k,c,Ϥm z}};rw[Ē c];let d:=l.pa e λr v=>Çb ūj (ϧf f r v)
 show î (uU e (ωc (d.lst hl Øb)))
 replace c:=Yq k c
 show xt (λ_=>ü {_,rfl,WK.go {d,c,h,by omega}}) λ_=>ü {_,rfl,Oz.mk {d,c,h,by omega}}
include ha hb hl in
theorem w0y(l:UD t a b x o i j):wpS è A E s (x58 a b o i j g) (η Âf (D0 t a b Ąb)) ħf:=by show î (Λb (λz=>Oz t a b (x+z)) (WK t a b Ąb));rintro z _ g m ⟨l⟩;show w0x ha hb hl l ìn;rintro _ ⟨_,e,d,h⟩;rw[Íq];show î (Οa (Λb (λz=>QH t a b (x+1+z)) (gj t a b Ąb)));rintro z _ g m ⟨l,e,d,h⟩;let k:=įa Ąb z;show xt (λ_=>z1g ha hb hl l e d h k) λ_=>z1g ha hb hl l e d h k;rintro _ ⟨_,e,d,h⟩;rw[Íq];show î (θ (ü {_,rfl,D0.mk l}))
#print a
def w11{a b:Ú ß}{a0 p0 f0 g}{t:Á ß}{Q:Ú ß->ā->È}(u:uS a)(o:uS b)(m:0<Ŏ){y:ß}(i:b[0]?=À y)(d:wU t a b #[y] 0 1)(j:∀q∈ĺe,∀p∈Üb Ěg,ye q p)(h:∀r g,uy t r->Q r ôc):wpS è A E s (mH a b) Q ôc:=by let k:0<ϗ:=(Ôd i).1;unfold mH;show î (Οa (uU i (xt (Δb (d.db Ęg)) λn=>xt (Δb (d.lst j Ęg)) λv=>?_)));show î (Μc (QU (λx=>D0 t a b x) Âf {d,Yq m v,Yq k n,Nat.one_pos} ?_ ?_ ?_));rintro x _ g B ⟨l⟩;show w0y u o j l;rintro _ ⟨_,z,C,F⟩;rw[Ģq]
#print a
def wZ(t:Á ß)(a b o:Ú ß)(i j:Â):È:=tI (λp q=>ye q p) t ôj (ŝe).reverse (Ŭj).reverse
section
variable{t:Á ß}{a b o:Ú ß}{i j k:Â}{p:ß}
def Si(h:a[i]?=À p):ńb í=ńb i++[p]:=by let{b,rfl}:=Ôd h;rw[Ñd ćm,đb]
theorem wZ.swap(h:wZ t a b o i j):wZ t b a o j i:=ĉg h
def wZ.pa(h:wZ t a b o í j)(e:a[i]?=À p)(c:∀q∈όb j,ye q p):wZ t a b ĺd i j:=by unfold wZ at h ⊢;rw[Si e,Ĝh]at h;rw[Ëe];show Ċg (m:=[p]) h λq f r d=>Ľ f▸c r ŧj
def wZ.pb(h:wZ t a b o i ϫ)(e:b[j]?=À p)(c:∀q∈ńb i,ye q p):wZ t a b ĺd i j:=(õn).swap
def wZ.ca(h:wZ t a b o i j)(hk:k<=i)(c:∀p∈(ŝe).drop k,∀q∈όb j,ye q p):wZ t a b öh k j:=by unfold wZ at h ⊢;rw[<-ϡa k ŝe,Ĝh,ϳh,ϥa hk]at h;rw[çc,ϭl,ϱd,ϣd,<-List.drop_take];show h.move λp d r e=>c p ŧj r (ϥg e)
def wZ.cb(h:wZ t a b o i j)(hk:k<=j)(c:∀p∈(Ŭj).drop k,∀q∈ńb i,ye q p):wZ t a b (o++(çb k j).reverse) i k:=(ēp hk c).swap
theorem wZ.fin(h:wZ t a b o i j)(c:∀p∈ńb i,∀q∈όb j,ye p q):uy t (őb 0 i++çb 0 j++ϡi):=by
 let e:∀(x:Ú ß) k,(Ęe 0 k).toList=x.toList.take k:=λx k=>by rw[ϱd,ϣd];rfl
 let:=Ϟj (ĉg h) λq g p d=>c p ŧj q (ϥg g)
 unfold uy;rw[çc,çc,e,e,ϭl]
 let f:(ôj++(Ŭj).reverse++(ŝe).reverse).reverse=ńb i++όb j++o.toList.reverse:=by simp only[Ĝh,List.reverse_reverse,Ţ]
 rw[<-f];show{(ŕh _).trans this.1,Òh this.2}
def wZ.sa(h:wZ t a b o i j):(ŝe).Pairwise ye:=List.pairwise_reverse.mp ϒk.2.1
def wZ.hd(h:wZ t a b o í j)(e:a[i]?=À p):∀q∈ńb í,ye q p:=by let:=h.sa;rw[Si e]at this ⊢;intro q c;rcases ύ c with c|c;show(żb this).2.2 q c p ÿ;rw[Ľ c];show Ϭa _
def mR(h:i=0){P:ß->È}:∀p∈ńb i,P p:=by subst h;intro p b;cases b
#print a
abbrev QF:=É Đc×Â×Â×Ú ß×Â×Â×Â
abbrev ss:=É Đc×Â×Â×Ú ß×Â
abbrev Bw:=É Đc×Â×Â×Ú ß×Â×Â
structure WL(t:Á ß)(a b:Ú ß)(x:Â)(o:Ú ß)(i j:Â):È where
 l:wZ t a b o í ϐd
 p:i<Ŏ
 q:j+1<ϗ
 s:x+i+j+3<Ŏ+ϗ
section
variable(t:Á ß)(a b:Ú ß)(x:Â)
inductive D2:ss->È
 |mk {o i j m}:WL t a b x o i j->D2 (Å,i+1,j+2,o,m)
inductive O_:Bw->È
 |mk {o i j m n}:WL t a b x o i j->O_ (Å,i+1,j+2,o,m,n)
inductive WM:Bw->È
 |fin {r c}:uy t r->WM (À r,c)
 |go {o i j m n}:WL t a b x o i j->WM (Å,i+1,j+2,o,m,n)
inductive QJ:QF->È
 |mk {o i j m n q}:WL t a b x o i j->QJ (Å,i+1,j+2,o,m,n,q)
inductive gm:QF->È
 |fin {r c}:uy t r->gm (À r,c)
 |go {o i j m n q}:WL t a b x o i j->gm (Å,i+1,j+2,o,m,n,q)
#print a
section
variable(a b:Ú ß)
nonrec def X2(o:Ú ß)(i j:Â):Ú ß:=őb 0 i++çb 0 j++ϡi
nonrec def B_(o:Ú ß)(i j:Â):Ú ß:=çb 0 j++őb 0 i++ϡi
def SQ(o:Ú ß)(i j g k m:Â):Š ā Sem ċj:=do
 let p <-Ĕa a Ϟe
 if(i-1==0)=Ã then pure (.done (À Êm,i-1,j,ϐ p,g,k,m))
 else if(decide (k<7)&&decide (m<7))=Ã then pure (.done (Å,i-1,j,ϐ p,g,k,m))else pure (.yield (Å,i-1,j,ϐ p,g,k,m))
def SN(o:Ú ß)(i j g k u:Â):Š ā Sem ċj:=do
 let q <-Ĕa b Íb
 if(j-1==1)=Ã then pure (Αd Ūl)
 else do
  let p <-Ĕa a Ϟe
  let r <-VZ Ã p b 0 Íb (j-1-1)
  Bz r (λm=>
   if j-1-m>0 then
    if(m==1)=Ã then pure (ξc (B_ a b ϲg i m) Ŕo)
    else if(m==0)=Ã then pure (ξc (X2 a b ϲg i m) Ŕo)
    else SQ a b ϲg i m g k (j-1-m)
   else SQ a b ěg i Íb g k (j-1-m)) (pure (Αd (X2 a b ěg i Íb)))
def SM(o:Ú ß)(i j n u g:Â):Š ā Sem ċj:=do
 Ϧc λs=>Ćc Żc ϑc Ģc g Ūc
 let q <-Ĕa b Íb
 let r <-VZ Ä q a 0 i Ϟe
 Bz r (λk=>
  if i-k>0 then
   if(k==0)=Ã then pure (.done (À (X2 a b öh k j),k,j,o++(őb k i).reverse,g,i-k,u))
   else SN a b öh k j g (i-k) u
  else SN a b o i j g (i-k) u) (pure (.done (À Ĳf,i,j,o,g,n,u)))
def z00(o:Ú ß)(i j g m n:Â):Š ā Sem (åb Bw):=do
 let q <-Ĕa b Íb
 let p <-Ĕa a Ϟe
 let r <-lt' q p
 sw r (λt=>
  if t=Ã then do
   let p <-Ĕa a Ϟe
   if(i-1==0)=Ã then pure (.done (À Êm,i-1,j,ϐ p,m+1,0))
   else if m+1≥g then pure (.done (Å,i-1,j,ϐ p,m+1,0))else pure (.yield (Å,i-1,j,ϐ p,m+1,0))
  else do
   let q <-Ĕa b Íb
   if(j-1==1)=Ã then pure (.done (À Ūl,i,j-1,ϐ q,0,n+1))
   else if n+1≥g then pure (.done (Å,i,j-1,ϐ q,0,n+1))else pure (.yield (Å,i,j-1,ϐ q,0,n+1))) (pure (.done (À Ĳf,i,j,o,m,n)))
def x56(o:Ú ß)(i j g:Â):Š ā Sem (åb ss):=do
 let d <-Ĵb [:Ŏ+ϗ] ((Å,i,j,o,0,0):Bw) λ_ d=>z00 a b d.2.2.2.1 d.2.1 d.2.2.1 g d.2.2.2.2.1 d.2.2.2.2.2
 Oy d.1 Ġk do
  liftM ěl
  let e <-Ĵb [:Ŏ+ϗ] ((Å,d.2.1,d.2.2.1,d.2.2.2.1,g+1,d.2.2.2.2.1,d.2.2.2.2.2):QF) λ_ e=>if e.2.2.2.2.1>1 then SM a b e.2.2.2.1 e.2.1 e.2.2.1 e.2.2.2.2.2.1 e.2.2.2.2.2.2 (e.2.2.2.2.1-1)else SM a b e.2.2.2.1 e.2.1 e.2.2.1 e.2.2.2.2.2.1 e.2.2.2.2.2.2 e.2.2.2.2.1
  Oy e.1 čk do
   Ϧc λs=>Ćc Żc ϑc Ģc Ąn Ūc
   pure Ĥk
#print a
section
variable{ă:ï}{w:æ}{A:ù}{E:Value->Í->È}{s:Í}
section
variable{t:Á ß}{a b:Ú ß}(ha:uS a)(hb:uS b)(hl:∀q∈ÿj,∀p∈όb 1,ye p q){a0:Ú ß}{p0:Ú ųa}{f0:É Value}{x y g m k u:Â}{o:Ú ß}{i j:Â}{p:ß}
include hl in
theorem wZ.lst(l:wZ t a b o i j)(e:j=1):uy t (B_ a b o i j):=Ϛo λq c p d=>hl p (List.take_subset _ _ d) q (e▸c)
def wZ.da(l:wZ t a b o i j)(e:i=0):uy t Ĳf:=Šg (mR e)
def wZ.db(l:wZ t a b o i j)(e:j=0):uy t Ĳf:=Šg λp c=>mR e
def z1f(l:wZ t a b o í j)(ep:a[i]?=À p)(c:∀r∈όb j,ye r p)(f:2<=j)(e:j<=ϗ)(q:x+i+j<Ŏ+ϗ)(h:y<=x):wpS è A E s (SQ a b o í j g k m) Ϲk ôc:=by
 let d:=(Ôd ep).1
 replace l:=l.pa ep c
 show î (uU ep (υ (Βb (l.da Øb))));let{i,rfl}:=W1 c;obtain⟨j,rfl⟩:∃n,j=n+2:={j-2,(ïd f).symm};show xt (λ_=>ü {g,rfl,gm.go {l,ëc d,e,by omega}}) λ_=>ü {g,rfl,QJ.mk {l,ëc d,e,by omega}}
include ha hb hl in
theorem z1e(l:wZ t a b o í ϐd)(n:b[j+1]?=À q)(c:∀r∈ńb í,ye r q)(G:i<Ŏ)(J:x+i+j+1<Ŏ+ϗ)(C:y<=x):wpS è A E s (SN a b o í ϐd g k u) Ϲk ôc:=by
 let h:=(Ôd n).1
 replace l:=l.pb n c
 show î (uU n (υ (Βb ňn)));let{j,rfl}:=W1 (a:=j) λe=>c Ńh
 let{p,f}:=ĵb a i G
 replace h:=Ûa h
 show î (uU f (î (QV rfl (ha _ _ f) hb (show 0+(j+1+1)<=ϗ from(Ůj).symm▸h) ϟc (z:=όb (j+1+1)) rfl čp λm d e1 e2=>?_)))
 replace d:m<=j+1+1:=d
 rw[ϳh,ϥa d]at e1
 replace e1:=λp v=>øa (e1 p v)
 show xt đc λc=>?_;let B:=l.cb d λp v r I=>Çb (l.hd f r I) (e2 p v)
 show xt (Βb (B.lst hl Øb)) λF=>xt (Βb (B.db Øb)) λH=>by
  let{m,rfl}:=W1 H;let{m,rfl}:=W1 (a:=m) λe=>F Ńh
  show z1f B f e1 Ìm (ý d h) Ê C
 cases ύb d Èl;show z1f l f e1 Ìm h Ê C
include ha hb hl in
theorem z1d(l:WL t a b x o i j)(e:y<=x){n F:Â}:wpS è A E s (SM a b o í ϐd n u g) (η (gm t a b y) (QJ t a b Ąb)) (yR a0 p0 f0 F):=by
 let{l,h,G,I}:=l;let{q,d}:=ĵb b ϫ G
 replace e:=ϊb e
 show î (θ (î (uU d (î (QV rfl (hb _ _ d) ha (show 0+í<=a.size from(Ůj).symm▸h) ϟc (z:=a.toList.take í) rfl l.sa λk f m B=>?_)))));rw[ϳh,ϥa f]at m;show xt đc λc=>?_;let v:=l.ca f λp C r H=>Çb (ϧf d r H) (øa (B p C))
 show xt (λc=>ü {_,rfl,gm.fin Îp}) λc=>?_
 let{k,rfl}:=W1 c;show z1e ha hb hl v d m (ý f h) Ê e;cases ύb f Èl;show z1e ha hb hl l d m h Ê e
include ha hb hl in
theorem w0v(l:WL t a b x o i j)(B:y<=x+1){n:Â}:wpS è A E s (z00 a b o í ϐd g m n) (η (WM t a b y) (O_ t a b Ąb)) ħf:=by
 let{l,d,f,C}:=l;let{p,v}:=ĵb a i d;let{q,k}:=ĵb b ϫ f;show î (uU k (î (uU v (î (Νc (hb _ _ k) (ha _ _ v))))));by_cases c:wj q<wj p;rw[ú c];let h:=l.pa v λr z=>Çb (ϧf k r z) (øa c)
 show î (uU v (ψc (h.da Øb)));let{i,rfl}:=W1 c
 replace d:=ëc d
 show xt Ŝk λ_=>ü {_,rfl,O_.mk {h,d,f,by omega}};rw[Ē c];let h:=l.pb k λr z=>Çb (l.hd v r z) ūj
 show î (uU k (ψc (h.lst hl Øb)));let{j,rfl}:=W1 (a:=j) λe=>c Ńh
 replace f:=ëc f
 show xt Ŝk λ_=>ü {_,rfl,O_.mk {h,d,f,by omega}}
include ha hb hl in
theorem w0w(l:WL t a b x o i j):wpS è A E s (x56 a b o í ϐd g) (η Âf (D2 t a b Ąb)) ħf:=by show î (Λb (λz=>O_ t a b (x+z)) (WM t a b Ąb));rintro z _ g e ⟨l⟩;show w0v ha hb hl l ìn;rw[Ũq];rw[Íq];show î (Οa (Λb (λz=>QJ t a b (x+1+z)) (gm t a b Ąb)));rintro z _ g e ⟨l⟩;let d:=įa Ąb z;show xt (λ_=>z1d ha hb hl l d) λ_=>z1d ha hb hl l d;rw[Ũq];rw[Íq];show î (θ (ü {_,rfl,D2.mk l}))
#print a
def w10{a b:Ú ß}{a0 p0 f0 g}{t:Á ß}{Q:Ú ß->ā->È}(u:uS a)(o:uS b)(j:0<ϗ){y:ß}(k:a[Ŏ-1]?=À y)(d:wZ t a b #[y] Ěg ϗ)(i:∀q∈ÿj,∀p∈όb 1,ye p q)(h:∀r g,uy t r->Q r ôc):wpS è A E s (mG a b) Q ôc:=by
 unfold mG;show î (Οa (uU k (xt (Δb (d.da Ęg)) λm=>xt (Δb (d.lst i Ęg)) λv=>?_)));let{n,e1}:=W1 m;obtain⟨F,e2⟩:∃n,ϗ=n+2:={ϗ-2,(ïd (Āf j λe=>v (ώb Ůd))).symm};let B:Ŏ=n+2:=by omega
 rw[e1,e2]at d;refine î (Μc (QU (λx=>D2 t a b x) Âf (by rw[e1,e2];show{d,by omega,by omega,by omega}) ?_ ?_ ?_));rintro x _ g C ⟨l⟩;show w0w u o i l;rw[Ũq];rw[Ģq]
#print a
def gk(x:Ú ß)(l n:Â):È:=∀i j,i<=j->j<n->K x (l+i)<=K x (l+j)
def sv(x:Ú ß):È:=∀i j,i<Āa->j<Āa->K x i=K x j->i=j
def x49(h:gk x l n)(c:n=0\/K x (l+n-1)<=K x (l+n)):gk x l Ĝ:=by
 intro i j a b;by_cases e:j<n;show h i j a e;obtain rfl:j=n:=by omega
 rw[ϒq];let:=h i Íb Ê Ê;rw[show l+Íb=l+j-1 by omega]at this;show ãb this (ġn Ê)
section
variable{ă:ï}{w:æ}{A:ù}{E:Value->Í->È}{s:Í}
def QW{i j p f g}(c:uS x)(hi:i<Āa)(d:j<Āa)(h:Q (À (decide (K x i<K x j))) ϗb):wpS è A E s (ltAt' i j) Q ϗb:=by let b:x[i]?=À x[i]:=getElem?_pos x i hi;let a:x[j]?=À x[j]:=getElem?_pos x j d;rw[ltAt'_eq];show î (Μc (uU b (î (uU a (Νc (c _ _ b) (c _ _ a))))));unfold K at h;rw[b,a]at h;show h
def z1b{x:Ú ß}{a lo n p f g}{F:Â->É ϕ×Â->Š ā Sem (åb (É ϕ×Â))}{R:É ϕ×Â->ā->È}(l:1<=a)(d:a<=n)(i:gk x lo a)(k:∀y m Q,1<=m->m<n->(K x ϰc<K x Ņd->Q (.done (Å,m)) ϗb)->(¬ K x ϰc<K x Ņd->Q (.yield (Å,m+1)) ϗb)->wpS è A E s (F y (Å,m)) Q ϗb)(h:∀m,a<=m->m<=n->gk x lo m->(m=n\/K x ϰc<K x Ņd)->R (Å,m) ϗb):wpS è A E s (Ĵb [a:n] (Å,a) F) R ϗb:=by show ác (I:=λy c st=>st=yR x p f g/\c=(Å,y)/\gk x lo y) ?_ ?_ {rfl,rfl,i};rintro y _ _ j e ⟨rfl,rfl,b⟩;show k _ _ _ Ê e (λc=>h y j Ê b (.inr c)) λc=>{rfl,rfl,x49 b (.inr ūj)};rintro _ _ ⟨rfl,rfl,b⟩;rw[ŭh d]at b ⊢;show h n d Ď b Ť
def mI{lo m j:Â}(h:j<m):lo+ϰc-1-Ðk=lo+(m-1-j):=by rw[įo,įo,Nat.add_left_comm 1,Nat.add_sub_add_left,Nat.add_sub_assoc (by rw[ĕd];show h)]
theorem w0t{x:Ú ß}{lo n p f g}{Q:É Â->ā->È}(o:uS x)(B:sv x)(P:lo+n=Āa)(H:1<=n)(h:∀m y,Áb x->(∀k,k<lo->y[k]?=x[k]?)->1<=m->m<=n->gk y lo m->Q ùb äo):wpS è A E s (ěp lo n) Q ϗb:=by
 unfold ěp;refine î (z1b (lo:=lo) (Ĭ 1) H (λi j a b=>by rw[show i=j by omega];show Ϭa _) ?_ ?_);intro y m Q a b u z;refine î ţh;by_cases c:K x ϰc<K x Ņd;rw[óq];intro m a b r c;show xt (λe=>ü (h m x šj Ŕf a b r)) λe=>?_
 replace c:=ġn ōa
 replace b:m<n:=by simp at e;omega
 show xt (λe=>?_) λe=>?_;refine î ţh
 let:K x lo<K x Ņd:=by let v:=r 0 (m-1) Ê (by rw[Ńq];omega);rw[show lo+(m-1)=lo+m-1 by omega,Éo]at v;let G:=B lo Ņd Ê Ê;rw[Ńq];omega
 simp only[this,ϛb,ϋ];show ü (h m x šj Ŕf a Ê r);obtain rfl:m=1:=by rw[Ńq];omega
 show î (ųl (ìd {rfl,?_}));show î (ξa (ác (I:=λy c st=>st=yR x p f g/\c=(Å,y,0)/\∀i j,i<=j->j<y->K x Ðk<=K x Äb) (Q:=λc st=>st=yR x p f g/\∃m,c=(Å,m,0)/\2<=m/\m<=n/\∀i j,i<=j->j<m->K x Ðk<=K x Äb) ?_ ?_ {rfl,rfl,?_}));rintro y _ _ G C ⟨rfl,rfl,d⟩;refine î (QW o Ċh Ċh ?_);by_cases c:K x Ïk<K x Ĥj;simp only[c,ϛb,ϋ];show ü {rfl,rfl,λi j q l=>?_};by_cases e:j<y;show d i j q e;obtain rfl:j=y:=by omega
 rw[ϒq];let:=d i Íb Ê Ê;rw[show lo+Íb=lo+j-1 by omega]at this;omega;simp only[c,Ŋf,Ňb,ċa];refine î ţh
 let:K x Ĥj<K x Ïk:=by let O:=B Ĥj Ïk Ê Ê;omega
 simp only[this,ϛb,ϋ];show ü {rfl,y,rfl,by omega,by omega,d};rintro _ _ ⟨rfl,rfl,d⟩;rw[ŭh Ê]at d ⊢;show{rfl,n,rfl,by omega,by omega,d};intro i j q l;by_cases e2:i=j;rw[e2];show Ϭa _;rw[show i=0 by omega,show j=1 by omega];show øa c;rintro _ _ ⟨rfl,m,rfl,G,C,d⟩;let F:∀k,K ϴe k=_:=λk=>K_mirror Ê k
 refine î (wpS_reverse (î (z1b (x:=mirror x lo ϰc ((lo+m-lo)/2)) (lo:=lo) Ċh C ?_ ?_ ?_)));intro i j q l;dsimp only at l;rw[F,F,Ï Ê,Ï Ê];let:=d (m-1-j) (m-1-i) (Þm q _) (Öb Ĵa (Nat.sub_lt (Öb ũb l) Öe));rw[mI (Öb q l),mI l];rw[Ôq];intro y t Q a b u z;let N:(ϴe).Perm x:=Ġo _ _ _ _;show î (QW ?_ ċl ċl ?_);intro i p L;let{J,v}:=àh ((Ϻg N).mem_iff.mp (Ϫg (ϱg L)));show o J p (by rw[<-Ōa];show v);by_cases c:K ϴe (lo+t)<K ϴe (lo+t-1);rw[óq];intro t a b r _;show ü (h t _ (Ġo _ _ _ _) (λk R=>?_) (by dsimp only at a;omega) b r);rw[getElem?_mirror_all Ê,Ñ Ê]
#print a
def Jy{x y:Ú ß}(h:uS x)(p:Áb x):uS y:=by intro i q c;let{b,a}:=àh ((Ϻg p).mem_iff.mp (Ϫg (ϱg c)));show h b q ϙl
section
variable{ă:ï}{w:æ}{A:ù}{E:Value->Í->È}{s:Í}
def y31{l r:Â}(h:l<r):l<=(l+r)/2/\(l+r)/2<r:=by omega
def w0s{x:Ú ß}{lo n ok p f g}{Q:Ð->ā->È}(hx:uS x)(hn:lo+n<=Āa)(zi:ok<=n)(d:gk x lo ok)(h:∀y,Áb x->(∀k,k<lo->y[k]?=x[k]?)->gk y lo n->Q Ã äo):wpS è A E s (ĥo lo n ok) Q ϗb:=by
 unfold ĥo;show î (ξa (ác (I:=λk c st=>c=(Å,())/\∃y,st=yR y p f g/\Áb x/\(∀k,k<lo->y[k]?=x[k]?)/\(k<=n->gk y lo k)) (Q:=λc st=>c=(Å,())/\∃y,st=yR y p f g/\Áb x/\(∀k,k<lo->y[k]?=x[k]?)/\gk y lo n) ?_ ?_ {rfl,x,rfl,ŧk _,λ_ _=>rfl,λ_ i j a b=>?_}));rintro k _ _ hk T ⟨rfl,y,rfl,v,F,d⟩
 replace d:=d (Ûa T)
 let hy:=Jy hx v;let L:lo+k<Ũd:=by let:=v.size_eq;omega
 let sj:∀j,j<=k->lo+j<Ũd:=λj hj=>Öb (åc hj lo) L
 show î (DN (Q:=λc st=>st=yR y p f g/\∃l r,c=(Å,l,r)/\l<=k/\(∀i,i<l->K y Äb<=K y Ůb)/\∀i,l<=i->i<k->K y Ůb<K y Äb) (λz c=>∃l r,c=(Å,l,r)/\l<=r/\r<=k/\r+z<=k+l/\(∀i,i<l->K y Äb<=K y Ůb)/\∀i,r<=i->i<k->K y Ůb<K y Äb) {0,k,rfl,ŵ _,Ĭ _,Ĭ _,λi J=>Þ J ëd,λi a b=>Þ b (äe a)} ?_ ?_ ?_);rintro z _ hz ⟨l,r,rfl,R,o,Z,B,C⟩;show xt Ïj λc=>?_;cases ύb R c;show ü {rfl,l,l,rfl,o,B,C};let{X,O}:=y31 òf;dsimp only;generalize (l+r)/2=m at X O ⊢;let P:=ŭ O o;show î (QW hy L (sj m (Ûa P)) ?_);by_cases c2:K y Ůb<K y ϰc;simp only[c2,ϛb,ϋ];show ü {rfl,l,_,rfl,X,Ûa P,by omega,B,λi q S=>Int.lt_of_lt_of_le c2 (d _ _ q S)};simp only[c2,Ŋf,Ňb,ċa];show ü {rfl,_,r,rfl,O,o,by omega,λi q=>ãb (d i m (ŉb q) P) (Œc c2),C};rintro _ ⟨l,r,rfl,R,o,Z,B,C⟩;cases ύb R Ê;show{rfl,l,l,rfl,o,B,C};rintro _ _ ⟨rfl,l,r,rfl,o,B,C⟩;let e:lo+k-ņf=lo+l:=Nat.sub_sub_self (åc o lo);show î (θ (ü {rfl,ϭj y Ůb ņf,rfl,(bubble_perm _ _ _).trans v,λi J=>?_,λ_=>?_}));let z:=ŭ J (įa lo l);rw[<-F i J,getElem?_bubble L _ Ĵa,e,Ñ (Ϟ z),Ñ λc=>Èo z c.1];let H:∀i,K (ϭj y Ůb ņf) i=_:=K_bubble L Ĵa;generalize ϭj y Ůb ņf=b at H;rw[e]at H;let N:∀i,i<l->K b Äb=K y Äb:=λi a=>by rw[H,Ñ λc=>Ϟ a (ěh c),Ñ λc=>Èo a (Nat.lt_of_add_lt_add_left c.1)]
 let Y:K b (lo+l)=K y Ůb:=by rw[H,Ï rfl]
 let U:∀i,l<=i->i<k->K b (lo+í)=K y Äb:=λi a c=>by rw[H,Ñ Ê,Ï Ê];rfl
 intro i j q S;rcases ćf j l with z|rfl|z;rw[N i (Öb q z),N j z];show d i j q (ŭ z o);rcases ıh q with z|rfl;rw[N i z,Y];show B i z;show Ϭa _;obtain⟨j,rfl⟩:∃t,j=t+1:={j-1,by omega};let G:=Nat.lt_of_succ_lt_succ S;rw[U j (ŉb z) G];rcases ćf i l with u|rfl|u;rw[N i u];show d i j Ê G;rw[Y];show øa (C j (ŉb z) G);obtain⟨i,rfl⟩:∃t,i=t+1:={i-1,by omega};let W:=Nat.le_of_succ_le_succ q;rw[U i (ŉb u) (Öb W G)];show d i j W G;rintro _ _ ⟨rfl,y,rfl,v,F,d⟩;show{rfl,y,rfl,v,F,?_};by_cases e:n=0;intro i j a b;omega;rw[ŭh Ê]at d;show d Ď;by_cases e:ok=0;rw[show i=j by omega];show Ϭa _;show d i j a Ê;rintro _ _ ⟨rfl,y,rfl,v,F,d⟩;show ü (h y v F d)
#print a
theorem sO{F:Ú ß->ß×Â->Ú ß}{s:Â}(b:∀a p j,F a (p,j)=ώh (s+j) p){R:Á ß}:∀(l Z P:Á ß)(n:Â)(x:Ú ß),ėc=P++(Z++R)->ča=s+n->Z.length=īb->((l.zipIdx n).foldl F x).toList=P++(l++R)
 | [],Z,P,n,x,h,_,hz=>by rw[Ëh hz]at h;show h|p::l,z::Z,P,n,x,h,hp,hz=>by
  rw[Ůh,Êa,b]
  let:=sO b (R:=R) l Z (P++[p]) Ĝ (x.setIfInBounds (s+n) p) (by rw[Ąl,h,þh _ _ Ê,hp,úc,Ţ];rfl) (by rw[ì,hp];rfl) (ÿd hz)
  rw[this,Ţ];rfl
def h8{x:Ú ß}{P X R:Á ß}{a b:Â}(h:ėc=P++(X++R))(c:ča=a)(d:a+ϥ=b):(Ęe a b).toList=X:=by rw[ϱd,ϣd,h,ϕh c,ϑh Ê]
theorem MF{x:Ú ß}{P R:Á ß}{p:ß}{a:Â}(h:ėc=P++p::R)(b:ča=a):x[a]?=À p:=by rw[<-Ōa,h,Żb Ê,b,úc];rfl
def dX{x y:Ú ß}(h:uS x)(c:∀p∈íb,p∈ėc):uS y:=by intro i q d;let{b,a}:=àh (c q žn);show h b q ϙl
section
variable{ă:ï}{w:æ}{A:ù}{E:Value->Í->È}{s:Í}
def w12{a st:ā}{Q:PUnit->ā->È}(h:Q ⟨⟩ a):wpS è A E s (set a:Š ā Sem PUnit) Q st:=by unfold wpS;rw[StateT.run_set];show ó {rfl,h}
def w0z{x:Ú ß}{p:Ú ųa}{g i d I pw2:Â}{p1 p2:Á ųa}{P u v R:Á ß}{l o:ß}{Q:Ð->ā->È}(O:uS x)(ep:ıe=p1++(d,(ńd).length,I)::(d+(ńd).length,(Że).length,pw2)::p2)(hi:p1.length=i)(ex:ėc=P++(ńd++(Że++R)))(L:ča=d)(K:(ńd).Pairwise ye)(J:(Że).Pairwise ye)(h:∀y q g Z,íb=P++(Z++R)->Z.Perm (ńd++Że)->Z.Pairwise ye->šb=p1++(d,(ńd).length+(Że).length,I)::p2->Q Ã šc):wpS è A E s (Øg i) Q ļn:=by
 generalize eX:u++[l]=X at ep ex K h;generalize eY:o::v=Y at ep ex J h
 have e1:p[i]?=À (d,ϥ,I):=by rw[<-Ōa,ep,Żb Ê,hi,úc];rfl
 have e2:p[i+1]?=À (d+ϥ,ļe,pw2):=by rw[<-Ōa,ep,Żb Ê,hi,æh];rfl
 let e3:(èk).toList=p1++(d,ϥ+ļe,I)::p2:=by rw[Array.toList_eraseIdxIfInBounds,Ąl,ep,þh _ _ Ê,hi,úc,List.eraseIdx_append_of_length_le Ê,hi,æh];rfl
 let xl_:∀q∈X,ye q l:=by intro q f;rw[<-eX]at f K;rcases ύ f with z|z;show(żb K).2.2 q z l ÿ;rw[Ľ z];show Ϭa _
 let H:∀q∈Y,ye o q:=by intro q f;rw[<-eY]at f J;rcases Ğ f with z|z;rw[z];show Ϭa _;show(ϯd J).1 q z
 let mX:l∈X:=eX▸Ĭa _ ÿ;let mY:o∈Y:=eY▸ÿ;have lX:ϥ=u.length+1:=by rw[<-eX,ì];rfl
 have lY:ļe=v.length+1:=by rw[<-eY];rfl
 have szx:Āa=d+(ϥ+(ļe+ġa)):=by rw[<-ļ,ex,ì,ì,ì,L]
 have ay:x[d+ϥ]?=À o:=MF (P:=P++X) (R:=v++R) (by rw[ex,Ţ,<-eY];rfl) Âi;have ax:x[d+ϥ-1]?=À l:=MF (P:=P++u) (R:=Y++R) (by rw[ex,<-eX,Ţ,Ţ];rfl) łm;let both:(∀p∈X,∀q∈Y,ye p q)->Q Ã ϳm:=λc=>h x _ g (X++Y) (by rw[ex,Ţ]) ϛc (Ϥd {K,J,c}) e3
 unfold Øg;show î Łe;exact wpS _ _ _ _ (match(p[i]?,p[i+1]?)with|_=>_) _ _;rw[e1,e2];refine î (w12 (î (uU ay (î (QV (z:=X) (x:=x) (b:=d) (n:=ϥ) rfl (O _ _ ay) O Ê Ê (by rw[ex,ϕh L,ϑh rfl]) K λk hk d1 d2=>?_)))));show xt (Ζd (d1 p ?_) (H q f)) λc=>?_;rw[ãc (by simp at c;omega)];show j
 replace c:k<ϥ:=by simp at c;omega
 let ax2:x[d+k+(ϥ-k)-1]?=À l:=by rw[ée,ßd Őd];show ax
 refine î (uU ax2 (î (QV (z:=Y) (x:=x) (b:=d+ϥ) (n:=ļe) rfl (O _ _ ax) O Ê Ê (by rw[ex,<-Ţ,ϕh Âi,ϑh rfl]) J λe U f1 f2=>?_)));show xt (Ζd (xl_ p j) (f2 q ?_)) λc2=>?_;rw[şc c];show f
 replace c2:0<e:=by simp at c2;omega
 have C:(Ïf).toList=Ŏe k:=h8 (P:=P++ßg k) (R:=Y++R) (Τd Śj) (by rw[ì,åa,L,ϥa Őd]) (by rw[ŏa,ée,ßd Őd]);have B:(Ãf).toList=ĭe e:=h8 (P:=P++X) (R:=ϰj e++R) (Τd Ėg) Âi (by rw[åa,ϥa U])
 have S:∀r g,uy ϳd r->wpS è A E s (do Ϧc λs=>Ćc Żc (r.toList.zipIdx.foldl (λa x=>ώh Ϡp x.1) ϑc) Ģc ģi Ūc;return (failedOf (<-get)).isNone) Q ϳm:=by
  rintro r g ⟨r1,r2⟩;show î (θ (î (Ϧe (ü (h _ _ _ Õl ?_ ?_ ?_ e3)))));have:=sO (F:=λa x=>ώh Ϡp x.1) (s:=d+k) (λ_ _ _=>rfl) (R:=ϰj e++R) r.toList ϳd (P++ßg k) 0 x (by rw[ex];simp only[Ţ];rw[<-Ţ Ėg,ϡa,<-Ţ Śj,ϡa]) (by rw[ì,åa,L,ϥa Őd];rfl) r1.length_eq.symm
  rw[this];simp only[Ţ];let a:(Õl).Perm (ßg k++ϳd++ϰj e):=óh _ (ăh _ r1);rw[<-Ţ Śj Ŝj,ϡa,Ţ X,ϡa]at a;show a;let m:∀q∈r.toList,q∈Ŏe k\/q∈ĭe e:=λq f=>ύ (r1.mem_iff.mp f)
  let tX:=ϡa k X;let tY:=ϡa e Y;let G:=K;let N:=J;rw[<-tX]at G;rw[<-tY]at N;show Ϥd {Ϥd {(żb G).1,r2,λp j q f=>?_},(żb N).2.1,λp j q f=>?_};rcases m q f with z|z;show(żb G).2.2 p j q z;show Çb (d1 p j) (H q (åd z));rcases ύ j with j|j;show Çb (d1 p j) (H q (Ēh f));rcases m p j with z|z;show Çb (xl_ p (Ēh z)) (f2 q f);show(żb N).2.2 p z q f
 let A1:uS Ïf:=dX O λp j=>by rw[C]at j;rw[ex];show Ĭa _ (Ÿb _ (Ēh j))
 let A2:uS Ãf:=dX O λp j=>by rw[B]at j;rw[ex];show Ĭa _ (Ĭa _ (Ÿb _ (åd j)))
 have z1:(Ïf).size=ϥ-k:=by rw[<-ļ,C,ŏa]
 have z2:(Ãf).size=e:=by rw[<-ļ,B,åa,ϥa U]
 let T:(Ŝj).Pairwise ye:=Ÿl (ŝm _ _) K;let W:(Ėg).Pairwise ye:=Ÿl Åj J;have b0:Ãf[0]?=À o:=MF (P:=[]) (R:=v.take (e-1)) (by rw[B,<-eY];obtain⟨n,rfl⟩:∃n,e=n+1:={e-1,by omega};rfl) rfl;have al:Ïf[ϥ-k-1]?=À l:=MF (P:=u.drop k) (R:=[]) (by rw[C,<-eX,List.drop_append_of_le_length Ê]) (by rw[ŏa];omega);generalize Ęe (d+k) (d+ϥ)=xx at *;generalize Ęe (d+ϥ) (d+ϥ+e)=yy at *;refine xt (λ_=>î (w11 (t:=Ŏe k++ĭe e) A1 A2 Ê b0 ?_ ?_ λr g hr=>S r g hr)) λ_=>î (w10 (t:=Ŏe k++ĭe e) A1 A2 Ê (y:=l) ?_ ?_ ?_ λr g hr=>S r g hr);have a0:wU ϳd xx yy #[] 0 0:={by rw[<-C,<-B];show ľc _,C▸T,B▸W};show a0.pb b0 λq f=>øa Ŏn;intro q f p j;rw[z1,GT al,àd Çe]at j;rw[Ľ j];show øa (f1 q (B▸f));rw[z1];show al;let a0:wZ ϳd xx yy #[] ϓn yy.size:=by let t1:xx.toList.take ϓn=xx.toList:=ãc Çe;let t2:yy.toList.take yy.size=yy.toList:=ãc (by rw[ļ];show Ĭ _);unfold wZ;rw[t1,t2,C,B];let pz:=List.Perm.append (ŕh Ŝj) (ŕh Ėg);show{pz,Òh T,Òh W}
 show a0.pa (by rw[z1];show al) λq f=>øa (f1 q (B▸åd f));intro q f p j;rw[Si b0]at j;rw[Ľ j];show øa Ŏn
#print a
def uI:Â->Á ųa->Á ß->È
 |_,[],L=>L=[]|n,r::p,L=>r.1=n/\∃X M,L=X++M/\ϥ=r.2.1/\X≠[]/\Ŭi ye/\uI (n+r.2.1) p M
theorem rT:∀{p q:Á ųa} {n:Â} {L:Á ß},uI n (p++q) L->∃M N,L=M++N/\uI n p M/\uI ðo q N
 | [],q,n,L,h=>{[],L,rfl,rfl,h}|r::p,q,n,L,h=>by let{e,X,M,rfl,c,f,g,d}:=h;let{M,N,rfl,a,b}:=rT d;show{X++M,N,(Ţ ..).symm,{e,X,M,rfl,c,f,g,a},by rw[ì,c,<-ée];show b}
theorem P5:∀{p q:Á ųa} {n:Â} {M N:Á ß},uI n p M->uI ðo q N->uI n (p++q) (M++N)
 | [],q,n,M,N,h,h2=>by rw[show M=[]from h]at h2 ⊢;show h2|r::p,q,n,M,N,h,h2=>by let{c,X,M,rfl,a,d,e,b}:=h;show{c,X,M++N,Ţ ..,a,d,e,P5 b (by rw[ì,a,<-ée]at h2;show h2)}
theorem rV:∀{p:Á ųa} {n:Â} {L:Á ß},uI n p L->ój<=ϟ
 | [],n,L,h=>ŵ _|r::p,n,L,h=>by let{c,X,M,rfl,e,b,d,a}:=h;let:=rV a;let:=Ńl b;rw[ì,Ć];omega
theorem rW{F:Â×Â×Â->Â×Â×Â}(a:∀r,(F r).1=r.1/\(F r).2.1=r.2.1):∀{p:Á ųa} {k n:Â} {L:Á ß},uI n p L->uI n (p.modify k F) L
 | [],0,n,L,h=>h| [],_+1,n,L,h=>h|r::p,0,n,L,h=>by let{c,X,M,rfl,f,d,e,b}:=h;show{(a r).1.trans c,X,M,rfl,f.trans (a r).2.symm,d,e,(a r).2▸b}
 |r::p,k+1,n,L,h=>by let{c,X,M,rfl,f,d,e,b}:=h;show{c,X,M,rfl,f,d,e,rW a b}
def x3u{x y:Ú ß}{L R:Á ß}{lo m:Â}(ex:ėc=L++R)(o:ϟ=lo)(d:∀k,k<lo->y[k]?=x[k]?)(c:gk y lo m)(n:lo+m<=Ũd):∃X M,íb=L++ϊe/\ϥ=m/\Ŭi ye:=by
 let e:y.toList.take lo=L:=by
  show ìc λk=>?_
  rw[Ġm]
  split;rename_i l;rw[Ōa,d k l,<-Ōa,ex,Ůa Ê];rw[Ùa Ê]
 let f:(Êi).length=m:=by rw[åa,ŏa,ļ];omega
 show{(ϭg).take m,(ϭg).drop m,?_,f,List.pairwise_iff_getElem.mpr λi j a h b=>?_};rw[ϡa,<-e,ϡa];let g:∀i (a:i<(Êi).length),K y Äb=wj Êi[i]:=by intro i a;let e:y[lo+i]?=À y[lo+i]:=getElem?_pos _ _ Ê;unfold K;rw[e,Ŗh,Ĉf,đb];rfl
 let:=c i j (Ûa b) Ê;rw[g i a,g j h]at this;rw[Ôq]
def z71{x y:Ú ß}(h:(ŷm).Nodup)(p:Áb x):sv y:=by
 let n:(Ŷm).Nodup:=((Ϻg p).map wj).nodup_iff.mpr h;intro i j a b e
 let g:∀i (a:i<Ũd),Ŷm[i]?=À (K y i):=by intro i a;let e:y[i]?=À y[i]:=getElem?_pos y i a;rw[ė,Ōa];unfold K;rw[e];rfl
 show(ŗh (by rw[ã,ļ];show a) n).mp (by rw[g i a,g j b,e])
section
variable{ă:ï}{w:æ}{A:ù}{E:Value->Í->È}{s:Í}
def z1j{x:Ú ß}{p:Ú ųa}{g i:Â}{L R:Á ß}{Q:Ð->ā->È}(r:uS x)(ex:ėc=L++R)(m:uI 0 ıe L)(hi:i+1<ļg)(h:∀y q g M,íb=M++R->M.Perm L->uI 0 šb M->Ħc+1=ļg->Q Ã šc):wpS è A E s (Øg i) Q ļn:=by
 let C:p.toList.length=ļg:=ļ;obtain⟨⟨U,W,K⟩,⟨J,S,I⟩,b⟩:∃r1 r2,ıe=Øi i++r1::r2::Ùi (i+2):={ıe[i],ıe[i+1],by rw[<-Žb,<-Žb,ϡa]};let j:(Øi i).length=i:=by rw[åa];omega
 let l:(Ùi (i+2)).length=ļg-(i+2):=by rw[ŏa,C]
 generalize Øi i=p1 at b j;generalize Ùi (i+2)=p2 at b l;rw[b]at m;let{P,N,rfl,F,G}:=rT m;let{f,X,N,rfl,n,B,u,d,Y,N,rfl,o,v,H,a}:=G;dsimp only at f n d o a;let{X0,xl,rfl}:=(āh X).resolve_left B;rw[Ăh]at *;let{T,O,rfl}:=List.exists_cons_of_ne_nil v;subst n o;rw[ĸ]at f d;subst f;subst d;refine w0z r b j (P:=P) (R:=N++R) (by rw[ex];simp only[Ţ]) rfl u H λy q g Z t c z k=>h y q g (P++(Z++N)) (by rw[t];simp only[Ţ]) ?_ ?_ ?_;show ăh _ ((óh N c).trans ?_);rw[Ţ];rw[k];show P5 F {(Ůj).symm,Z,N,rfl,c.length_eq.trans (ì ..),?_,z,?_};intro e;rw[e]at c;let:=c.length_eq;rw[ì,Ć]at this;cases this;rw[ĸ]at a ⊢;rw[ée]at a;show a;let:=ķ ĝd k;rw[ļ,ì,Ć,j,l]at this;omega
abbrev SK:=åb (É ña×Â)
nonrec def SJ(lo n:Â):Š ā Sem SK:=do
 Ϧc λs=>Ćc Żc ϑc ((Ģc).push (lo,n,0)) ģi Ūc
 pure (.yield (Å,lo+n))
nonrec def By{β:Type}(r:É ųa)(f:Â->Â->Â->Š ā Sem β)(g:Š ā Sem β):Š ā Sem β:=(sortPriv% PySem.Builtin.sortRuns.match_1) æf r f λ_=>g
def s_(N lo n:Â)(g:Â->Â->Â):Š ā Sem SK:=do
 let d <-get
 By (Ŝe).back? (λf e _=>do
  let r <-Ĵb [:N] ((Å,()):É ña×ña) λ_ _=>do
   let d <-get
   By (if(Ŝe).size>1 then Ŝe[(Ŝe).size-2]? else Å) (λ_ _ a=>
    if a<=g f e then pure Èn else do
     let b <-Øg ((Ŝe).size-2)
     if(!b)=Ã then pure (.done (À (),()))else pure (.yield (Å,()))) (pure Èn)
  Oy r.1 (λr=>pure (.done (À r,lo))) do
   let _ <-Ϧc λs=>Ćc Żc ϑc ((Ģc).modify ((Ģc).size-1) λx=>(sortPriv% PySem.Builtin.sortRuns.match_3) (λ_=>Â×Â×Â) x λst c _=>(st,c,g f e)) ģi Ūc
   SJ lo n) (SJ lo n)
inductive SL(X M L:Á ß):É ña×ña->ā->È
 |mk {y q g N}:íb=N++ϊe->N.Perm L->uI 0 šb N->SL X M L (Å,()) šc
def w14{x y:Ú ß}{q:Ú ųa}{g k lo N:Â}{L X M:Á ß}{v:Â->Â->Â}{Q:SK->ā->È}(B:uS x)(F:Áb x)(u:uI 0 šb L)(t:ϟ=lo)(m:íb=L++ϊe)(n:ϥ=k)(z:Ŭi ye)(hk:1<=k)(h:∀y q g L,íb=L++M->ϟ=lo+k->uI 0 šb L->Áb x->Q (.yield (Å,lo+k)) šc):wpS è A E s (s_ N lo k v) Q šc:=by
 let o:∀{f:Ú ß}{b},f.toList=b++ϊe->ϯj L->f.Perm x:=λe1 e2=>Array.Perm.trans (Íl (by rw[e1,m];show óh _ e2)) F
 let j:∀{f:Ú ß}{a:Ú ųa} {l b},f.toList=b++ϊe->ϯj L->uI 0 ÿj b->wpS è A E s (SJ lo k) Q (yR f a Å l):=by intro f a l b e1 e2 d;refine î (θ (ü (h _ _ _ (b++X) (by rw[Ţ];show e1) (by rw[ì,Ϲn,t,n]) ?_ ϖp)));exact uI 0 (a.push (lo,k,0)).toList _;rw[Ëe];show P5 d {by rw[ĸ,Ϲn,t],X,[],(Ġg).symm,n,λe=>Œa hk (n▸ķ ĝd e),z,rfl}
 show î Łe;exact wpS _ _ _ _ (By q.back? _ _) _ _;cases q.back? with
 |Å=>show j m ϛc u|À r=>
  show î (ξa (ác (I:=λ_=>SL X M L) (Q:=SL X M L) ?_ (λ_ _ h=>h) (.mk m ϛc u)));rintro _ _ _ _ _ ⟨e1,e2,d⟩;rename_i f a l b;show î Łe;exact wpS _ _ _ _ (By (if Ŏ>1 then a[Ŏ-2]? else Å) _ _) _ _;by_cases c:Ŏ>1;rw[Ï c];cases a[Ŏ-2]? with
  |Å=>show ü ði|À r=>show xt (λ_=>ü ði) λ_=>î (z1j (p:=a) (i:=Ŏ-2) (Jy B ϖp) e1 d Ê λJ P K M2 C H G O=>ü (.mk C (H.trans e2) G))
  rw[Ñ c];show ü ði;rintro _ _ ⟨e1,e2,d⟩;show î (θ (j e1 e2 ?_));exact uI 0 (Array.modify _ _ _).toList _;rw[Array.toList_modify];show rW ?_ d;show λ⟨_,_,_⟩=>{rfl,rfl}
inductive D3(x:Ú ß)(z:Â):É ña×Â->ā->È
 |mk {lo y q g L R}:íb=L++R->ϟ=lo->uI 0 šb L->Áb x->z<=lo->D3 x z (Å,lo) šc
def w13{x:Ú ß}{g:Â}{Q:ña->ā->È}(v:uS x)(hd:(ŷm).Nodup)(h:∀y q g,Áb x->y.toList.Pairwise ye->Q () šc):wpS è A E s ăp Q (yR x #[] Å g):=by
 unfold ăp;show î Łe;show î (ξa (ác (I:=λz=>D3 x z) (Q:=λc st=>c.1=Å/\∃y q g,st=yR y q Å g/\uI 0 šb íb/\Áb x) ?_ ?_ (.mk (L:=[]) (R:=ėc) rfl rfl rfl šj Ď)));rintro z _ _ _ hz ⟨i,t,d,a,l⟩;rw[üq]
 show xt Ïj λc=>?_;let:R=[]:=Ëh (by dsimp only at c;omega);subst this;rw[Œ]at i;show ü {rfl,y,q,g,rfl,i▸d,a};replace c:lo<Āa:=by dsimp only at c;omega
 refine î (w0t (lo:=lo) (n:=Āa-lo) (Jy v a) (z71 hd a) Ê Ê λm y1 B N K C P=>?_);let A1:=Jy v Żo;let z1:=(Żo).size_eq
 let T:∀{k f O},1<=k->lo+k<=Āa->f.Perm y->(∀j,j<lo->f[j]?=y[j]?)->gk f lo k->wpS è A E s (s_ Āa lo k O) (λr st=>g8 ük ŗl r) (yR f q Å g):=by intro k f O U Y F o J;let{X,M,W,Z,sX}:=x3u (m:=k) i t o J (by rw[(Ĕg a).size_eq];show Y);show w14 v (Ĕg a) d t W Z sX U λy q g L e1 e2 e3 e4=>.mk e1 e2 e3 e4 (Ĥn l U)
 show ϙd (Q:=λr st=>g8 ük ŗl r) ?_ λr st h=>by cases r<;>show h
 show xt (λp=>î (Οa (w0s (lo:=lo) (n:=min (Āa-lo) (minRun' Āa Āa 0)) (ok:=m) A1 ?_ ?_ P λf F o J=>xt (λc=>nomatch c) λ_=>T ?_ ?_ (Ĕg B) (λk S=>(o k S).trans (N k S)) J))) λp=>T K Ê B N P;omega;show ϲh {C,Ûa p};show ϲh {ý K C,ý K (Ûa p)};show ý (åc (ðl ..) _) èn;rintro _ _ ⟨i,t,d,a,l⟩;rw[üq]
 let:R=[]:=Ëh (by dsimp only at l;omega);subst this;rw[Œ]at i;show{rfl,y,q,g,rfl,i▸d,a};rintro⟨_,lo⟩ _ ⟨rfl,y,q,g,rfl,d,a⟩;show î (ξa (ác (I:=λz c st=>c=(Å,())/\∃y q g,st=yR y q Å g/\uI 0 šb íb/\Áb x/\(Ħc<=1\/Ħc+z<=Āa)) (Q:=λc st=>c=(Å,())/\∃y q g,st=yR y q Å g/\uI 0 šb íb/\Áb x/\Ħc<=1) ?_ ?_ {rfl,y,q,g,rfl,d,a,.inr ?_}));rintro z _ _ _ hz ⟨rfl,y,q,g,rfl,d,a,u⟩;show î (Ϧe (υ (λc=>ü {rfl,y,q,g,rfl,d,a,c})))
 replace c:¬ Ħc<=1:=c
 show î (z1j (Jy v a) (Ġg).symm d ?_ λf o g2 M H p c3 c4=>?_);let:∀(b:È) [ĝe b],(if b then Ħc-2-1 else Ħc-2)+1<Ħc:=λb _=>by split<;>omega
 show this _;rw[Œ]at H;refine ü {rfl,f,o,g2,rfl,H▸c3,(Íl (H▸p)).trans a,.inr Ê};rw[ůq];show{rfl,y,q,g,rfl,d,a,by rw[ďi]at u;dsimp only at u;omega};let:=rV d;rw[ļ,ļ,Ϭi]at this;rw[Ôq];rw[ůq];show ü (h y q g a ?_)
 match e:šb,d,(ļ (xs:=q))with
 | [],d,_=>rw[show íb=[]from d];show ĉf| [r],d,_=>let{_,X,M,e,_,_,h5,h6}:=d;rw[e,show M=[]from h6,Œ];show h5
 |_::_::_,_,C=>simp only[Ć]at C;omega
def x4w(l:ø a=À (seqObj Ī Ža n))(o:øb vs ns)(J:ns.Nodup)(hz:ē<=å)(h:∀(out:Ú Value)(b:Á Æ),øb če b->ϯj ns->ūi (·<=·)->P (.done ϣl) { s with ç:=sortedHeap â a vs out }):Ù è A (Builtin.«list.sort» {Ϯ,[]}) P E s:=by
 by_cases h64:ē<64;show ϯh l o h64 h
 obtain⟨f,m,r,rfl⟩:∃f m r,vs=f::m::r:=by
  match vs,h64 with
  | [],h=>show Þ Ò h| [_],h=>show Þ (show 1<64 by decide) h|f::m::r,_=>show{f,m,r,rfl}
 generalize e:f::m::r=vs at *;let k:¬ vs.toArray.size<2:=by rw[ĭ];omega
 let u:a<Ý:=Ĥ l;obtain⟨c,B⟩:∃c,(ŝc a (èb λ_=>#[])).get? a=À Ĺm:={_,get?_update_seq l (λ_=>#[])}
 let v:((Ĵk).push äd).get? a=À Ĺm:=by rw[Šm _ _ _ (by rw[ϕo,ϫm];show Ϟ (Ņb u)),Šm _ _ _ (by rw[ϫm];show Ϟ u)];show B
 rw[list_sort_plain];refine Ó (listItems_at l rfl (Ó (Ŧn l rfl (hsz:=by rw[ĭ];show hz) ?_)));show Ó (ĝo B rfl (Ó (ďh ?_ (by show hz))));show Ó (öf (Ϣa ?_));exact Ù è A _ P E { s with ç:=(Ĵk).push äd };rw[Ñ k,Ñ k,<-e,keyKind_ints (e▸o),e];show Ó (χ (ĳa (w13 (x:=pairsOf vs) (g:=7) (Q:=λ_ st=>(Ýp).Perm Ģi/\failedOf st=Å/\SortedTo Ýp (Ģi).size) ?_ ?_ ?_) ?_ λ_ _ e=>e));intro i p d;show o.intKeys p žn;have:(Ģi).toList.map wj=ns:=by rw[pairsOf_toList,show wj=numOf∘Prod.fst from rfl,<-ϭ,ėf Ď,o.nums]
 rw[this];show J;intro y q g d t;show{d,rfl,λi j N O=>?_};let z:=d.size_eq;let I:y[i]?=À y[i]:=getElem?_pos y i Ê;let C:y[j]?=À y[j]:=getElem?_pos y j Ê;unfold K;rw[I,C];by_cases c:i=j;subst c;show Ϭa _;let:=Ϡd t i j Çe Çe Ê;rw[đb,đb]at this;rw[Ôq];rintro⟨⟨⟩,st⟩ _ ⟨rfl,d,G,t⟩;rw[Ûq];show Ó (ĝo v rfl (Ó (Ŧn v rfl ?_ (hsz2:=by refine ý (Œb ((Array.size_map ..).trans (d.size_eq.trans (pairsOf_size _)))) (ϊb hz)))));rw[G];simp only[Őh,Ňb,ċa];let{b,F,H,L}:=sorted_out o d t;show ó (h _ b F H L)
def x4z(v:Ċa=Å)(lo:ĵa=Ä)(o:èe ùa a kvs ep)(hk:ϝc (·.1)=ϣ Į)(hz:ť<=å)(h:∀h' tk p out c ns',Ý<=p->č p=À Ŀh->øb če ns'->õj ns->ăi (·<=·)->(∀b ob,ø b=À ob->č b=À ob)->Q Ŷ { s with ç:=h',Ė:=tk }) :Ù è A Ái Q E s:=by
 let l:ŋ=ť:=by
  let:=ķ ĝd hk
  rwa [ã,ã]at this
 let B:ns.Nodup:=by let:=o.nodup;rw[hk]at this;show(þl).imp λh z=>h (ķ _ z)
 rw[Üq];refine Ó (m:=ũi Ÿa 1 1 _) (χ (eh (by show v) lo o (l▸hz) λi tk d g u j n=>Ó (öf ?_ Æm)));let y:=im d kvs ns g hk u;let k:(i.push Óf).get? Ģo=À Óf:=Ÿ _ rfl;refine Ó (ηc (x4w k y B Æm λout ns' x r q=>{_,rfl,?_}) ņh);let{c,t}:=Õi (vs:=d) (out:=out) k;show ó {_,rfl,h _ tk Ģo out c ns' (Ûa j) t x r q λb ob e=>?_};rw[Œq]
#print a
section
variable{X:Cx}
def x1d:Á V->Hp->VK->È:=λb H Q=>∃(a:Ë) (kvs:Á Æa) (ns:Á Æ),b=Ϯ/\Rd H a ũ/\ϝc (·.1)=ϣ Į/\ť<=å/\∀l,H l=Å->Q Ŧb Ϟg
def z5e(b:ŷ=Ã):vg X ϻd x1d:=by
 intro R s σ H S T Q I r h;let{a,N,d,rfl,y,z,j,q}:=h;rw[ōq];let{_,v,J,f,o,k,A,t,m,C,P,B,K}:=kN ĝ y;let x:èe ŗf a J A:={o,k,t,m,C,P,B,K};show x4z Ūj v x ((Kr f).trans z) j λh' G p g c e i L O E F l=>?_
 obtain rfl:e=Æb d:=Bt (E.trans (ęg).symm) F (öe d);show{.ref p,_,ϖa (t':=G) (h':=h') l i (show xo ö X.w _ _ _ ŉl from{?_,új,c,Kc O,?_}),rfl,q _ (ğb i)};rw[ã,(ęg).length_eq];show j;rw[Ĕh];show L
#print a
#print L2
namespace L3
open Ł Ş Ŋ L2
def Gq:Á D->É D
 | [.dic ks _]=>(Zj ks).bind λa=>À ļl|_=>Å
def x48(f:ŷ=Ã)(s:Gl X Ÿa)(u:ð Ÿa=Å)(F:SA X [e] fs)(A:Î Ĉa q12) :SF X Œp (eL Gq fs):=by
 let{t,o,k}:=F.h;refine{{_,(OW (p:=p) (pos:=pos) (z5e f) s u GH {o} Ò Ò ŀm).h,λ{K O G H τ σ d Q} E b q=>?_}};let{z,x,b}:=zK b;show k E x λL J P g B=>?_
 rcases z with _|⟨x_,r_⟩;cases b
 cases x_<;>first|(cases b;done)|skip
 cases r_<;>first|(cases b;done)|skip
 rename_i w N;let{i,m,b}:=zK b;cases b;let{v,rfl,a,C,rfl,r,I,y,l}:=py B
 let j:ϰb<=å:=by let:=łi y;rw[Mz m,ã]at I;omega
 show{a,w.zip C,i,rfl,Âc g.gh r,?_,j,λn c=>?_};rw[<-Mz m];show ėf Ê;show q n _ _ (g.trans (Ńa g.gh c)) (g.h.free c) (Ęp c) {_,yt,ıd,?_};rw[ã,(øc i).length_eq];show j
def Gn(K:Ô)(x:Ç):È:=Ϙ K ġ x=À Å
def Gs(K:Ô)(x:Ç)(v:Value):È:=Ϙ K ġ x=À Äa
def Tq(K:Ô)(d:É Ë)(a:Ë)(vs:Á Value):È:=∃n sl,Ãa a=À {.type ώ,d,.seq Ža n,sl}
def Dc(K:Ô)(w:æ)(a:Ë)(l:Á Čf):È:=(∃n,Ãa a=À { cls:=.type Ña,Ċ:=.dict (Ďk).toArray n })/\ĵa=Ä
nonrec def vD:Á Value->É ķn
 | []=>À ([],[])|.int i _::r=>(Őg).bind λp=>À (.int i::p.1,.int i::p.2)|.str s _::r=>match Ğc Ęc 1000 with
  |Ã=>(Őg).bind λp=>À (.str s::p.1,.str s::p.2)|Ä=>Å
 |_=>Å
def vT(vs:Á Value):É ķn:=match Ğc ē 1000 with
 |Ã=>vD vs|Ä=>Å
section
variable{K:Ô}{w:æ}{h:Heap}{mg:Ç->É Value}{a:Ë}{x:Ç}{v:Value}{d:É Ë}{n:Â}{i:Æ}{t:Tok}{s:Ç}{sl:Ú ϯa}{vs:Á Value}{us:Á V}{ds:Á D}{l:Á Čf}
def gn_mk(h:Ϙ K ġ x=À Å):Gn K x:=h
def gs_mk(h:Ϙ K ġ x=À Äa):Gs K x v:=h
def tq_mk(h:Ãa a=À {.type ώ,d,.seq Ža n,sl}):Tq K d a vs:={_,_,h}
def dc_mk(h:Ãa a=À { cls:=.type Ña,Ċ:=.dict (Ďk).toArray n })(q:ĵa=Ä):Dc K w a l:={{n,h},q}
def jJ(X:Ž h)(G:īa ġ mg)(g:Gn K x):mg x=Å:=W.mg_none_of X G g
def Zg(X:Ž h)(G:īa ġ mg)(g:Gs K x Ŗ):v7 mg x Ŗ:={_,Åc X G g,rfl}
def VY(X:Ž h)(G:īa ġ mg)(g:Gs K x ϛf):v7 mg x Ϩ:={_,Åc X G g,{_,rfl}}
def z7f(X:Ž h)(G:īa ġ mg)(g:Gs K x (.str s t)):v7 mg x (.str s):={_,Åc X G g,{_,rfl}}
theorem Sv:∀{vs:Á Value}{us:Á V}{ds:Á D},vD vs=À (us,ds)->zo us vs/\∀H,ê K H ds us
 | [],_,_,e=>by cases e;show{.nil,λ_=>rfl}|.int i t::r,_,_,e=>by let{p,e1,e}:=zK (show(Őg).bind _=_ from e);cases e;let{b,c}:=Sv e1;show{.cons {_,rfl} b,λH=>{_,_,rfl,rfl,c H}}
 |.str s t::r,_,_,e=>by
  cases z:Ğc Ęc 1000 with
  |Ä=>rw[show vD Ϭn=match Ğc Ęc 1000 with|Ã=>_|Ä=>Å from rfl,z]at e;cases e
  |Ã=>rw[show vD Ϭn=match Ğc Ęc 1000 with|Ã=>_|Ä=>Å from rfl,z]at e;let{p,e1,e}:=zK (show(Őg).bind _=_ from e);cases e;let{b,c}:=Sv e1;show{.cons {_,rfl} b,λH=>{_,_,rfl,{rfl,Ăb Ģl},c H}}
def X9(g:Tq K d a vs)(e:vT vs=À (us,ds))(H:Hp):zZ K H àj Ŗ:=by
 let{n,sl,g}:=g;cases z:Ğc ē 1000 with
 |Ä=>rw[show vT vs=match Ğc ē 1000 with|Ã=>_|Ä=>Å from rfl,z]at e;cases e
 |Ã=>rw[show vT vs=match Ğc ē 1000 with|Ã=>_|Ä=>Å from rfl,z]at e;let{b,c}:=Sv (K:=K) e;let q:=Ăb Ģl;show{a,us,rfl,f6 g q b H,c H,by rw[<-(c H).length,ëa];show q}
def X8(g:Tq K Å a vs):CW K a:=let ⟨_,_,g⟩:=g;{_,g,rfl,rfl}
theorem fY:∀l:Á Čf,YK w (Õa λp=>({ģn w.params p.1,.str p.1 p.2.1,p.2.2}:Ďc)) (Õa (·.1)) (Õa (·.2.2))
 | []=>.nil|_::l=>.cons (fY l)
#print a
abbrev HD(x:Ç)(ps:Á Ç)(k:Â)(F:Á D->É ä)(P:ï)(w:æ)(K:Ô)(mg:Ç->É Value)(Ì:Heap):È:=v8 P w K mg Ì x ps k Ņe
def VD(K:Ô)(m q:Ç)(st:Ü)(ps:Á Ç)(f:Ë):È:=Űe K ī=Ã/\Þa K ī=Ã/\∃fd,vw K m q st f fd/\uK K fd ps []
def Jh(K:Ô)(m:Ç)(f:Ë)(c:Ç):È:=∃C,Ϙ K ġ c=À ğa/\qO K C/\şa K Ū m=À řa
def ZY(K:Ô)(c d m q:Ç)(st:Ü)(ps:Á Ç):È:=∃f,Jh K m f c/\Jh K m f d/\VD K m q st ps f
def Jg(K:Ô)(c q:Ç)(st:Ü)(ps:Á Ç):È:=∃C f,Ϙ K ġ c=À ğa/\Ϯf K C=Ã/\şa K Ū éb=À řa/\Þa K Ū=Ã/\VD K éb q st ps f
def Lq(K:Ô)(c m q:Ç)(st:Ü)(ps:Á Ç):È:=∃C f,Ϙ K ġ c=À ğa/\ļi K Ū İh=À ϗg/\ϰi K C Ĵf=Ã/\ϱi K Ū Ĵf m=À όi/\VD K m q st ps f
def qQ(K:Ô)(x:Ç)(st:Ü)(f:Ë):È:=Ϙ K ġ x=À řa/\zT K x st
section
variable{K:Ô}{w:æ}{mg:Ç->É Value}{h:Heap}{c d m q x:Ç}{st:Ü}{ps xs ns:Á Ç}{f a:Ë}{C D:Ë}{sp:Sp}{k:Â}{l:Á Čf}{fs:Á Ë}
def cls_mk(a:ďe K C ϴi=Ã)(c:şf K C=Ã)(d:Ľi K C=Ã)(b:şa K Ū Òi=À ϝg):qO K C:={a,c,d,b}
def mdp_mk{j:Value}{n c:É Ë}{o:Ú ϯa}{g kV h d a ct:Value}(i:Űe K ī=Ã)(l:Ãa f=À {j,n,.func ōk,o})(e:Ţb K a q=Ã)(k:Þa K ī=Ã)(b:uK K ōk ps []):VD K m q st ps f:={i,k,_,z7e l e k,b}
def mtc_mk(n:Ϙ K ġ c=À ğa)(a:qO K C)(g:şa K Ū m=À řa):Jh K m f c:={C,n,a,g}
def mtp_mk(a:Jh K m f c)(b:Jh K m f d)(e:VD K m q st ps f):ZY K c d m q st ps:={f,a,b,e}
def mkp_mk(n:Ϙ K ġ c=À ğa)(b:Ϯf K C=Ã)(g:şa K Ū éb=À řa)(a:Þa K Ū=Ã)(e:VD K éb q st ps f):Jg K c q st ps:={C,f,n,b,g,a,e}
def cmp_mk(n:Ϙ K ġ c=À ğa)(b:ļi K Ū İh=À ϗg)(a:ϰi K C Ĵf=Ã)(g:ϱi K Ū Ĵf m=À όi)(e:VD K m q st ps f):Lq K c m q st ps:={C,f,n,b,a,g,e}
def fnq_mk{h d:É Ë}{i:Ú ϯa}{e kV j g b ct:Value}(a:Ϙ K ġ x=À řa)(l:Ãa f=Mh x st e h i kV j g d b ct)(c:Ţb K b x=Ã)(k:Þa K ī=Ã):qQ K x st f:={a,fnp_mk a l c k}
def dq(b:∀s us,Ž â->éa=ħ->Įb s fd {us,[]} Ąc):uK K fd ps []:=λs us c a=>by rw[Œ]at a ⊢;show b s us c a
def ZY.hh(a:ZY K c d m q st ps)(P:ï)(w:æ)(mg:Ç->É Value)(e:Heap)(ok:∀{f fd},vw K m q st f fd->xg P w K mg e xT k f fd ps sp):gL P w K mg e c m ps k sp/\gL P w K mg e d m ps k sp:=by let{f,{C,h,n,j},{D,l,p,o},i,g,fd,F,b}:=a;show{{C,f,fd,h,n,{j,i,g},b,ok F},{D,f,fd,l,p,{o,i,g},b,ok F}}
def Jg.hh(a:Jg K c q st ps)(X:Ž h)(G:īa ġ mg)(P:ï)(w:æ)(d:Heap)(ok:∀{f fd},vw K éb q st f fd->xg P w K mg d xT k f fd ps sp):Lw P w K mg d c ps k sp:=by let{C,f,n,e,g,j,i,l,fd,F,b}:=a;show{C,f,fd,n,Åc X G n,{e,g,i,j},b,ok F}
def Lq.hh(a:Lq K c m q st ps)(X:Ž h)(G:īa ġ mg)(P:ï)(w:æ)(d:Heap)(ok:∀{f fd},vw K m q st f fd->xg P w K mg d xT k f fd ps sp):Lv P w K mg d c m ps k sp:=by let{C,f,n,j,l,g,i,e,fd,F,b}:=a;show{{C,f,fd,_,Åc X G n,j,l,g,e,b,ok F}}
def qQ.n(a:qQ K x st f)(X:Ž h)(G:īa ġ mg):mg x=À ī:=Åc X G a.1
def z6h(g:Dc K w a l)(e:Õa (·.2.2)=Ϣc ę)(b:xs.Nodup)(ex:Õa (·.1)=xs)(m:VE mg ns fs):Xi K w mg a ϰo ns:=by obtain⟨⟨n,g⟩,q⟩:=g;subst ex;show z7l g (e▸fY l) b q m
#print a
section
variable{K:Ô}{fd:Ň}{p0 p1 p2 p3:Ç}
def bd2(b:∀s x y,Ž â->Įb s fd {Ïc,[]} ((ře).zip Ïc)):uK K fd ře []:=dq λs a c d=>us2 (P:=λa=>Įb s fd {a,[]} ((ře).zip a)) (λx y=>b s x y c) a d
def bd4(b:∀s x y z u,Ž â->Įb s fd {ıp,[]} ((îe).zip ıp)):uK K fd îe []:=dq λs a c d=>us4 (P:=λa=>Įb s fd {a,[]} ((îe).zip a)) (λx y z u=>b s x y z u c) a d
#print a
#print L3
namespace L3
open Ł
nonrec def z7m:Á D:=[ĕb,(.str Ða),ép]
def Mm:D:=.tup z7m
nonrec def Ic:Á D:=[Űc,Ĕe,Őf]
def Te:D:=.tup Ic
nonrec def z7o:Á D:=[ϕf,ōc,ġd,ßb,Ŷa,Ŗb,ŵa,ŗb,Ŝb,Ŭc,Ýb,ãi,ϗf]
def HM:D:=.tup z7o
nonrec def z7p:Á D:=[ĉd,âi,ϖf,ßb,Ŷa,Ŗb,ŵa,ŗb,Ŝb,Ŭc,Ýb,ãi,ϗf]
def HN:D:=.tup z7p
nonrec def z7n:Á D:=[Ŷa,ŵa]
def HL:D:=.tup z7n
nonrec def z7r:Á D:=[(.str ś),ϕf,ĉd,âi,ϖf,ßb,Ŷa,Ŗb,ŵa,ŗb,Ŝb,Ŭc,ōc,ġd]
def HQ:D:=.tup z7r
nonrec def z7s:Á D:=[ßb,Ŷa,Ŗb,ŵa,Ýb,ŗb,Ŝb,Ŭc,ōc,ġd]
def HR:D:=.tup z7s
nonrec def z7q:Á D:=[ßb,Ŷa,Ŗb,ŵa,Ýb,ōc,ġd]
def HP:D:=.tup z7q
nonrec def iM:Á D:=[ű,Ëa,ϳa,Ϻp]
def Td:D:=.tup iM
theorem Vm{g:FG}{c:FT}{e:FE}{σ:zx}(p:D->Ð)(v:D->D):∀{ds:Á D},(∀d∈ds,∃σ1,g d σ=À σ1/\c σ1=À (p d)/\(p d=Ã->e σ1=À (v d)))->wB g c e σ ds=À ((ds.filter p).map v)
 | [],_=>rfl|d::ds,h=>by
  let{σ1,e1,e2,b}:=h d ϱ;let a:=Vm p v (ds:=ds) λx f=>h x (ŏ _ f)
  rw[Úq];exact(ϑj).bind _=_;rw[e2];cases hp:p d with
  |Ä=>rw[óa Ńm];show a|Ã=>rw[ăa hp];exact(Şd).bind _=_;rw[b hp];exact(Ϲm).bind _=_;rw[a];rfl
def Zl(v:D->D)(h:∀d∈ds,∃σ1,g d σ=À σ1/\e σ1=À (v d)):wB g xc e σ ds=À (ůe v):=by
 let:=Vm (g:=g) (c:=xc) (e:=e) (σ:=σ) (λ_=>Ã) v (ds:=ds) λd f=>by let{σ1,a,b}:=h d f;show{σ1,a,rfl,λ_=>b}
 rw[this,çh Ŕf]
inductive XV(R:D->D->È):Á D->Á D->È
 |nil:XV R [] []
 |ñ {x y:D} {xs ys:Á D}:R x y->XV R xs ys->XV R ϔa (y::ys)
theorem K_{g:FG}{e:FE}{σ:zx}(R:D->D->È):∀{ds:Á D},(∀d∈ds,∃σ1 x,g d σ=À σ1/\e σ1=À x/\R d x)->∃xs,wB g xc e σ ds=À xs/\XV R ds xs
 | [],_=>{[],rfl,.nil}|d::ds,h=>by
  let{σ1,x,e1,e2,r}:=h d ϱ;let{xs,c,a}:=K_ R (ds:=ds) λx b=>h x ύc
  show⟨x::xs,?_,.cons r a⟩;rw[ĉq]
def UK{n i:Â}{d:D}(h:(wt n)[i]?=À d):i<n/\d=.int (i:Æ):=by
 let a:i<n:=by let:=ϻa.1;rw[Ùq]
 show{a,?_};simp[a]at h;show h.symm
def Su{n:Â}{d:D}(h:d∈wt n):∃i:Â,i<n/\d=.int (i:Æ):=by let{i,a,e}:=ϸd h;show{i,(UK (List.getElem?_eq_some_iff.mpr {a,e}))}
def UL(n:Â):(wt n).length=n:=by simp
def jH{α:Type}{xs:Á α}{i:Æ}{a:α}(b:0<=i)(h:xs[ĝc]?=À a):um xs i=À a:=by unfold um;rw[Ï b,h]
def p9:Â->D->Ð
 |0,_=>Ä|n+1,.tup xs=>ũd (p9 n)|n+1,.lst xs=>ũd (p9 n)|_+1,d=>xw d
theorem GK{f:D->D->Ð}:∀{xs:Á D},(∀x∈xs,f x x=Ã)->pT f xs xs=Ã
 | [],_=>rfl|x::xs,h=>by exact(f x x&&pT f xs xs)=Ã;rw[h x ϱ,GK λy a=>h y ώc];rfl
theorem GN:∀{xs:Á D},(∀x∈xs,xh x x=Ã)->Ϟa xs xs=Ã
 | [],_=>rfl|x::xs,h=>by exact(xh x x&&Ϟa xs xs)=Ã;rw[h x ϱ,GN λy a=>h y ώc];rfl
theorem OG:∀(n:Â)(d:D),p9 n d=Ã->u8 n d d=Ã/\xh d d=Ã
 |0,_,h=>by cases h|n+1,d,h=>by
  cases d with
  |tup xs=>have c:∀x∈xs,p9 n x=Ã:=ãa h;show{GK λx a=>ĝf.1,GN λx a=>ĝf.2}|lst xs=>have c:∀x∈xs,p9 n x=Ã:=ãa h;show{GK λx a=>ĝf.1,GN λx a=>ĝf.2}|dic ks vs=>cases h|exc _=>cases h|obj _ _ _=>cases h|zO=>show{rfl,rfl}|bl b=>show{rfl,ėb b}|int i=>show{rfl,ėb i}|str z=>show{rfl,ėb z}
def fm(h:p9 6 d=Ã):Zd d d=À Ã:=by
 let{b,a}:=OG 6 d h
 have e:Zd d d=match u8 6 d d with
  |Ã=>À (xh d d)|Ä=>Å:=by cases d<;>rfl
 rw[e,b,a]
theorem z78(h:p9 6 d=Ã):zh d d=À Ķ:=by unfold zh;rw[fm h];rfl
def mN(h:p9 6 d=Ã):wp d d=À û:=by unfold wp;rw[fm h];rfl
def ib{i j:Æ}(h:i=j):zh Ϩ Ŏd=À Ķ:=by subst h;exact À (Ñb (i==i))=_;rw[ėb]
theorem ic{i j:Æ}(h:i≠j):zh Ϩ Ŏd=À û:=by exact À îi=_;rw[Òb h]
theorem ϴ{i j:Æ}:xU Ϩ Ŏd=À ťf:=rfl
theorem z0d:∀ts:Á Ç,UF Ġe=À ts
 | []=>rfl|t::ts=>by exact(UF Ġe).bind _=_;rw[z0d ts];rfl
def y0u(h:(Ĕc (·.length)).sum+ϥf*ŵc<=1000000):Gj (.str sep) (Β Ġe)=À (.str (Ţm sep ts)):=by exact(UF Ġe).bind _=_;rw[z0d];exact(if _<=yX then _ else _)=_;rw[Ï Æh]
theorem Ŕe(z:Ç)(lo hi:É Æ):(ſn).length<=Ņ:=by exact((ŏh _).take _).toArray.size<=ši;simp only[ĭ,åa,ŏa,ļ];omega
def iJ:∀{ks:Á ľ} {vs:Á α},Ō=ē->∀k',ĉ Ħe æe k'=if k=k' then À v else ĉ ks vs k':=by
 let f:∀{ks:Á ľ} {vs:Á α},Ō=ē->∀k',yx ks k=Ã->ĉ ks όg k'=if k=k' then À v else ĉ ks vs k':=by
  intro ks
  induction ks with
  |nil=>intro vs _ k' h;cases h|ñ a ks ih=>
   intro vs c k' h;cases vs with
   |nil=>cases c|ñ b vs=>
    rw[ðh];unfold ĉ;by_cases e1:a=k;subst e1;by_cases e2:a=k';rw[Ï e2,Ï e2,Ï rfl];rw[Ñ e2,Ñ e2,Ñ e2];by_cases e3:yx ks a=Ã;let:=ih (vs:=vs) ſb k' e3;rw[this,Ñ e2];let:∀{ks:Á ľ} {vs:Á α},Ō=ē->yx ks a=Ä->ĉ ks (ûc (λk' x=>if k'=a then v else x) ks vs) k'=ĉ ks vs k':=by
     intro ks
     induction ks with
     |nil=>intro vs _ _;rfl|ñ a' ks ih'=>
      intro vs c h;cases vs with
      |nil=>cases c|ñ b vs=>
       let d:decide (a'=a)=Ä/\yx ks a=Ä:=by let:(decide (a'=a)||yx ks a)=Ä:=h;show èh this
       rw[ðh];unfold ĉ;rw[Ñ (of_decide_eq_false d.1),ih' ſb d.2]
    show this ſb (by simpa using e3);let d:yx ks k=Ã:=by let:(decide (a=k)||yx ks k)=Ã:=h;rw[Ē e1]at this;rw[Ôq]
    let:=ih (vs:=vs) ſb k' d;rw[this,Ñ e1];by_cases e2:a=k';rw[Ï e2];rw[Ñ (λe=>e1 (e2.trans Ůd)),Ï e2];rw[Ñ e2];by_cases e3:k=k';rw[Ï e3,Ï e3];rw[Ñ e3,Ñ e3,Ñ e2]
 intro ks vs c k';unfold wE wG;by_cases h:yx ks k=Ã;rw[Ï h,Ï h];show f c k' h;rw[Ñ h,Ñ h];clear f
 induction ks generalizing vs with
 |nil=>
  cases vs with
  |nil=>rfl|ñ _ _=>cases c
 |ñ a ks ih=>
  cases vs with
  |nil=>cases c|ñ b vs=>
   let d:¬ a=k/\¬ yx ks k=Ã:=by
    let:¬ (decide (a=k)||yx ks k)=Ã:=h
    rw[ńq];intro e;show this (by rw[ú e];rfl);intro e;show this (by rw[e,ėi])
   rw[Ōb,Ōb];exact(if a=k' then À b else ĉ (ks++[k]) (vs++[v]) k')=if k=k' then À v else if a=k' then À b else ĉ ks vs k'
   rw[ih ſb d.2];by_cases e:a=k';rw[Ï e,Ï e];rw[Ñ (λg=>d.1 (ĕc g.symm))];rw[Ñ e,Ñ e]
theorem iT(a:Sum Æ Ç):yx Ħe a=(yx ks a||decide (k=a)):=by unfold wE;by_cases h:yx ks k=Ã;rw[Ï h];by_cases e:k=a;subst e;rw[h];rfl;rw[Ē e,Ľf];rw[Ñ h];unfold yx;rw[List.any_append];simp
theorem KY{α:Type}:∀{ks:Á ľ} {us:Á α} {as:Á ľ} {vs:Á α},Ō=éa->∀k,yx ŗc.1 k=(yx as k||yx ks k)
 | [],us,as,vs,_,k=>by exact yx as k=(yx as k||Ä);rw[Ľf]|a::ks,[],_,_,h,_=>by cases h|a::ks,u::us,as,vs,h,k=>by exact yx (wL (wE as a) (wG as vs a u) ks us).1 k=_;rw[KY Ća,iT];exact _=(yx as k||(decide (a=k)||yx ks k));rw[Bool.or_assoc]
theorem BH(xs:Á D):wp ϧ ēc=À (.bl (!xs.isEmpty)):=by
 cases xs with
 |nil=>show mN (d:=.lst []) rfl|ñ x r=>have e:xh Ño ēc=Ä:=rfl;exact(À (xh Ño ēc)).bind _=_;rw[e];rfl
theorem IB:∀(n:Â){l:Á Â},ŏj->(∀x∈l,x<n)->īb<=n
 |0,l,_,h=>by
  cases l with
  |nil=>show Ĭ _|ñ x r=>show Þ (h x ϱ) ëd
 |n+1,l,hd,h=>by
  by_cases hm:n∈l;let b:=IB n (hd.erase n) λx a=>by let:=(hd.mem_erase_iff).mp a;let:=h x this.2;omega
  rw[List.length_erase_of_mem hm]at b;omega;let b:=IB n hd λx a=>by
   let c:=h x a;let d:x≠n:=λe=>hm (e▸a)
   omega
  omega
def y3n{x y:D}{b:Ð}(h:zh x y=À ıb):wp x y=À (.bl (!b)):=by
 unfold zh at h;unfold wp;cases e:Zd x y with
 |Å=>rw[e]at h;cases h|À k=>rw[e]at h;cases h;rfl
def z3x(a:n<2 ^ w)(b:y/2 ^ l%2 ^ w=0):(y &&& Ûj)=0:=by
 apply íf;intro i;rw[ñc,ùd];rw[åh];by_cases hl:l<=i;by_cases hi:i-l<w;let e:ėe i=(y/2 ^ l%2 ^ w).testBit (i-l):=by rw[ŀl,Łl,ú hi,ļf,ïd hl]
 rw[e,b,ùd,įf];let:ϣi (i-l)=Ä:=œl (ŭ a (đh Ò Ê));rw[this];simp;simp[hl]
theorem z3w(x l w:Â):(x &&& (ϱp*2 ^ l))=x/2 ^ l%2 ^ w*2 ^ l:=by apply íf;intro i;rw[ñc,åh,åh,Nat.testBit_two_pow_sub_one,ŀl,Łl];by_cases hl:l<=i;simp[hl,ïd hl];rw[Bool.and_comm];simp[hl]
theorem z5i(l w:Â):Ýh=((ϱp*2 ^ l:Â):Æ):=by let h:1<=2 ^ w:=Nat.one_le_two_pow;rw[Int.natCast_mul,Int.natCast_sub h];simp
def z4h(a:0<=x)(l w:Â):Ĳa x Ýh=x/2^l%2^w*2^l:=by let{n,rfl}:=ŋa a;rw[z5i,Œl Ğg Ğg,ģ,ģ,z3w];simp
def z4g(g:0<=y)(f:0<=n)(h:n<2 ^ w)(hz:y/2 ^ l%2 ^ w=0):Ĳa y Ûj=0:=by
 let{a,rfl}:=ŋa g;let{b,rfl}:=ŋa f;let e:(b:Æ)*2 ^ l=((b*2 ^ l:Â):Æ):=by simp
 let d:b<2 ^ w:=by
  let:((2 ^ w:Â):Æ)=(2:Æ) ^ w:=by simp
  omega
 let c:a/2 ^ l%2 ^ w=0:=by
  let:((a/2 ^ l%2 ^ w:Â):Æ)=(a:Æ)/2 ^ l%2 ^ w:=by simp
  omega
 rw[e,Œl Ğg Ğg,ģ,ģ,z3x d c];rfl
def z69{x p r:Æ}(g:0<=x)(a:0<p)(b:0<r):0<=x-x/p%r*p/\ūf/p%r=0/\ūf/p/r=x/p/r/\ūf%p=x%p:=by
 let f:0<=x/p:=ģf g (øa a);let e1:x-x/p%r*p=x+p*(-(x/p%r)):=by rw[Int.mul_neg,Int.mul_comm p];omega
 let e2:ūf/p=x/p-x/p%r:=by rw[e1,Int.add_mul_ediv_left _ _ (ŏf a)];omega
 let c:x/p-x/p%r=r*(x/p/r):=by let:=Źl (x/p) r;omega
 show{?_,?_,?_,?_};let e:x/p%r<=x/p:=by let:=Źl (x/p) r;let d:0<=x/p/r:=ģf f (øa b);let i:0<=r*(x/p/r):=Int.mul_nonneg (øa b) d;omega
 let h:x/p%r*p<=x/p*p:=Int.mul_le_mul_of_nonneg_right e (øa a);let j:=Int.ediv_mul_le x (ŏf a);omega;rw[e2,c];show Int.mul_emod_right _ _;rw[e2,c];show Int.mul_ediv_cancel_left _ (ŏf b);rw[e1];show Int.add_mul_emod_self_left ..
def nO(x:Æ)(w:Â):Ĳa x ((1:Æ)*2 ^ w-1)=x%2 ^ w:=by rw[ăe,W.kbt_mask]
theorem w19{x n:Æ}{l w:Â}(b:0<=x)(e:0<=n)(a:n<2 ^ w):ϣa (Ĳa x (ňb Ýh)) Ûj=x+(n-x/2 ^ l%2 ^ w)*2 ^ l:=by let d:(0:Æ)<2 ^ l:=ņi Ò;let f:(0:Æ)<2 ^ w:=ņi Ò;let{g,c,_,_}:=z69 b d f;rw[PyProof.Rows.bitAnd_not,z4h b,PyProof.Rows.bitOr_and,z4g g e a c,Int.sub_mul];omega
def Sb(a b:Â):È:=∀k,Ħd k=Ã->ĝp k=Ã
def ŗe(a:Â):Sb a a:=λ_ h=>h
def Sb.trans{a b c:Â}(h:Sb a b)(g:Sb b c):Sb a c:=λk z=>g k (h k z)
def Sb.bX(h:Sb a b)(g:Sb b a):a=b:=íf λk=>by
 cases ea:Ħd k with
 |Ã=>show(h k ea).symm|Ä=>
  cases eb:ĝp k with
  |Ä=>rfl|Ã=>rw[g k eb]at ea;cases ea
def Rw(a:Â):Sb 0 a:=λk h=>by rw[ùd]at h;cases h
theorem fL:∀(k a p:Â),(a-όa).testBit k=(Ħd k&&!p.testBit k)
 |0,a,p=>by
  let b:όa%2=(a%2)*(p%2):=by rw[Īq];rcases àc a with e|e<;>rcases àc p with f|f<;>rcases àc όa with g|g<;>rw[e,f,g]at this<;>rw[e,f,g]<;>first|rfl|(simp at this)
  let c:όa<=a:=ϐh;simp only[Ĕf];rcases àc a with e|e<;>rcases àc p with f|f<;>rw[e,f]at b<;>simp only[e,f]<;>simp<;>omega
 |k+1,a,p=>by
  let b:(a-όa)/2=a/2-Ϥn:=by
   let d:όa/2=Ϥn:=by
    show íf λj=>?_
    rw[ñc,<-úd,<-úd,<-úd,ñc]
   let c:όa<=a:=ϐh
   let h:όa%2<=a%2:=by rw[Īq];rcases àc a with e|e<;>rcases àc όa with g|g<;>rw[e,g]at this<;>rw[e,g]<;>first|omega|(simp at this)
   rw[<-d];omega
  rw[úd,b,fL k,úd,úd]
theorem GE(a:Â):decide ((0:Æ)<=ňb (a:Æ))=Ä:=Ē (by unfold ňb;omega)
def b0(a:Â):decide ((0:Æ)<=(a:Æ))=Ã:=ú (ŵb a)
def eE(a:Æ):ňb (ňb a)=a:=by unfold ňb;omega
def MM(a b:Â):ϣa (a:Æ) (b:Æ)=((a ||| b:Â):Æ):=by unfold ϣa Ĳa;rw[GE,GE];simp only[eE,ģ]
theorem E_(a b:Â):Ĳa (a:Æ) (b:Æ)=((a &&& b:Â):Æ):=by unfold Ĳa;rw[b0,b0];simp only[ģ]
theorem z4c(a p:Â):Ĳa (a:Æ) (ňb (p:Æ))=((a-όa:Â):Æ):=by let b:όa<=a:=ϐh;unfold Ĳa;rw[b0,GE];simp only[eE,ģ];omega
def z4j(h:x<2048)(hk:žc k=Ã):k<11:=by rcases Ĕd k 11 with c|c;show c;let:x<2 ^ k:=ŭ h (đh (n:=2) Ò c);rw[œl this]at hk;cases hk
def nG(d:a<2048)(c:b<2048):(a ||| b)<2048:=Řm (n:=11) d c
def z6p{a:Â}(p:Â)(b:a<2048):a-όa<2048:=by omega
nonrec def pc(x:Â):Â:=(ϡ 11).countP λk=>žc k
def y8k(x:Â):pc x<=11:=by let:=List.countP_le_length (p:=λk=>žc k) (l:=ϡ 11);rw[ŧq]
theorem e_:∀{l:Á Â},(∀k∈l,p k=Ã->q k=Ã)->(∃k∈l,q k=Ã/\p k=Ä)->Úg p<Úg q
 | [],_,⟨k,h,_⟩=>by cases h|a::l,h,⟨k,b,h1,h2⟩=>by
  let d:Úg p<=Úg q:=List.countP_mono_left λk b z=>h k ύc z
  rcases Ğ b with rfl|b;rw[List.countP_cons_of_pos h1,List.countP_cons_of_neg (by rw[h2];decide)];omega;let e:=e_ (l:=l) (λk b=>h k ύc) {k,b,h1,h2};rw[ϧm,ϧm];let:=h a ÿ;by_cases c:p a=Ã;rw[Ï c,Ï (this c)];omega;rw[Ñ c];omega
def y8l{a b:Â}(h:Sb a b)(c:b<2048)(f:a≠b):pc a<pc b:=by
 show e_ (λk _ z=>h k z) ?_;apply Ôh;intro d;show f (h.bX λk z=>?_);cases e:Ħd k with
 |Ã=>rfl|Ä=>show(d {k,Ąa (z4j c z),z,e}).elim
def dm:FS:=
 (zR (ya (tE Ãn)
   (yb ĩf)
   xM)
  (yb ı))
def y0d(ns:Á Æ)(k:Â):Ϲ[k]?=(ns[k]?).map Ě:=ė
nonrec def IJ(ns:Á Æ)(k:Æ):Æ:=ſf ϳ 0
nonrec def JP:Á D->É ä
 | [.lst xs,.int k]=>if 0<=k then((xs[ϳ]?).getD ű |> λd=>À (Ä,d))else Å|_=>Å
def z5k(ns:Á Æ){k:Æ}(h:0<=k):JP ťm=À (Ä,.int Ϫp):=by exact(if 0<=k then _ else _)=_;rw[Ï h,y0d];unfold IJ;rw[ő];cases ns[ϳ]?<;>rfl
def x27:∀ds r,JP ds=À r->þ=2/\yJ 2 dm ds=À r:=λds r h=>by
 rcases ds with _|⟨x,_|⟨y,_|⟨z,w⟩⟩⟩;cases h;cases x<;>cases h
 .cases x<;>first|(cases h;done)|skip
  cases y<;>first|(cases h;done)|skip
  rename_i a k
  replace h:(if 0<=k then À (Ä,(Ϣp).getD ű)else Å)=À r:=h
  show{rfl,?_};by_cases h0:0<=k;rw[Ï h0]at h;cases h;unfold dm;by_cases c:k<(ìa:Æ);let e:zJ Ōd Ťf=À ((Ϣp).getD ű):=by exact um a k=_;unfold um;rw[Ï h0,đ Ê];rfl
  simp only[Ø,ú c,e];let e:a[ϳ]?=Å:=Ùa Ê;simp only[Ø,Ē c,e,Option.getD];rw[Ñ h0]at h;cases h
 .cases x<;>first|(cases h;done)|(cases y<;>cases h)
def z4l(h:vW i<=m):Ŀd<2 ^ m:=by
 rw[ŭq];show Nat.pow_pos Ò;rw[œq]
 show(Ťh).mp Ê
def z4k(h:Ŀd<2 ^ m):vW i<=m:=by
 rw[ŭq];show ŵ _;rw[œq]
 rw[e];show(Ťh).mpr h
def z5j{ns:Á Æ}{M:Â}(a:∀m∈ns,vW m<=M)(k:Æ):vW Ϫp<=M:=by
 unfold IJ;rw[ő];cases e:ns[ϳ]? with
 |Å=>show ŵ _|À m=>show a m Űj
def Eh:FS:=
 (yb (e2 ëg ăn ýl))
def vL:Á D->É ä:=FR 3 3 Eh
def z9e(b x1 a:D):vL ϲ=yJ 3 Eh ϲ:=rfl
def Co:FS:=
 (zR (zm 3 (e2 xU þn ϓl))
  (yb (Ρ (e2 xE ĺ ôg) (Α (e2 (Ζc (j<=i)) ĺ ôg)))))
def Ux:Á D->É ä:=FR 3 4 Co
def z82(b x1 a:D):Ux ϲ=yJ 4 Co ϲ:=rfl
def Ep:FS:=
 (zR (zm 3 (e2 pW (e2 pW ą ć) ϓl))
  (zR (ya (tE (e2 ļc ĺ ı))
   (yb (Ρ (e2 xU ĺ ôg) ϙh))
   xM)
  (δb Ŷh)))
def T9:Á D->É ä:=FR 3 4 Ep
def z9m(b x1 a:D):T9 ϲ=yJ 4 Ep ϲ:=rfl
def EW:FS:=
 (zR (zm 2 (e2 uA ą ć))
  (zR (zm 3 (ζc (zC Ĕ (zC (eC ϙb) ŋi))))
  (yb (Ρ (zf vL (zC Ĕ (zC ı ţp))) čc))))
def V5:Á D->É ä:=FR 2 4 EW
def z95(a x1:D):V5 ď=yJ 4 EW ď:=rfl
def EX:FS:=
 (zR (zm 2 (ζc (οa (zC (e2 pW ć ń) ŋi))))
  (yb (wP (zC ăn Őb))))
def V6:Á D->É ä:=FR 2 3 EX
def z96(a x1:D):V6 ď=yJ 3 EX ď:=rfl
def Ev:FS:=
 (zR (zm 4 (e2 uA ýl ć))
  (yb (e2 ńe (e2 ëg ą (e1 TY ř)) (e2 uA ĺ ć))))
def VB:Á D->É ä:=FR 4 5 Ev
def z9r(b x1 a x3:D):VB Ģd=yJ 5 Ev Ģd:=rfl
def LA:FE:=(zf vL (οa (Τ Ĥe)))
def Ct:FS:=
 (χd (wO 1 (vm ϐj) Âb xc LA))
def U_:Á D->É ä:=FR 1 1 Ct
def z87(a:D):U_ [a]=yJ 1 Ct [a]:=rfl
def AK:FE:=(e2 uA ć Ĕ)
def Ey:FS:=
 (yb (eL Gu (Α (wO 2 (Tg ą ϐj) ìg xc AK))))
def Jc:Á D->É ä:=FR 1 1 Ey
def z9u(a:D):Jc [a]=yJ 1 Ey [a]:=rfl
def Cr:FS:=
 (yb (GV ą ć ı))
def Uz:Á D->É ä:=FR 2 2 Cr
def z85(a x1:D):Uz ď=yJ 2 Cr ď:=rfl
def Cq:FS:=
 (yb (zf vL (zC þn (zC ı Ťp))))
def Uy:Á D->É ä:=FR 2 2 Cq
def z84(a x1:D):Uy ď=yJ 2 Cq ď:=rfl
def DP:FE:=(zf Uy Ãe)
def E7:FS:=
 (vS (wO 1 (p6 ı ņb) Âb xc DP))
def V0:Á D->É ä:=FR 1 1 E7
def z8i(a:D):V0 [a]=yJ 1 E7 [a]:=rfl
def DU:FE:=(zf Uz (zC ą Őb))
def Ex:FS:=
 (yb (zf Jc (Α (wO 1 (vm Ōi) Ŭb xc DU))))
def Jb:Á D->É ä:=FR 2 2 Ex
def z9t(a x1:D):Jb ď=yJ 2 Ex ď:=rfl
def Ej:yd:=
 (Vp 0 [] ć (we (zf vL (zC Ĕ (zC ı Ĥe)))))
def T8:FM:=uM 3 3 Ej
def z9g(b x1 a:M):T8 ϲ=vF 3 3 Ej ϲ:=rfl
def B2:yd:=(qb (gR T8 (jf 0 [] (wf ĺ (wf ř vN)))))
def Ek:yd:=
 (N6 (Tg Ōi şo) (Th 3 4)
   B2)
def JY:FM:=uM 3 5 Ek
def z9h(b x1 a:M):JY ϲ=vF 3 5 Ek ϲ:=rfl
def z1p:FE:=(wP (zC ĺ Ŷh))
def Cn:yd:=
 (xK (jL 0 [] [Ŀ] ĸa (IF (eL VT Ôb)))
  (xK (jL 0 [] [Ŀ] âb (IF (Ιc (wO 1 êo Īc xc z1p))))
  (jL 0 [] [Ŀ] úa (IF (eL Me Őb)))))
def Uw:FM:=uM 3 3 Cn
def z81(b x1 a:M):Uw ϲ=vF 3 3 Cn ϲ:=rfl
def E4:yd:=
 (εa (we Ϣd))
def JH:FM:=uM 2 2 E4
def z8f(a x1:M):JH ď=vF 2 2 E4 ď:=rfl
def Cy:yd:=
 (Ψb (zf VB (zC Ϣe (zC (eC ϳa) (zC (eC ϳa) (Α Ϣd))))))
def JE:FM:=uM 2 2 Cy
def z8c(a x1:M):JE ď=vF 2 2 Cy ď:=rfl
def Cw:yd:=
 (Ψb (θb (wK [Ŀ] "words")))
def JD:FM:=uM 2 2 Cw
def z8b(a x1:M):JD ď=vF 2 2 Cw ď:=rfl
def VM:FS:=
 (zR (ya (Ιb ϱn)
   (yb (zf Ux (Τ (zC Ĕ Ŷh))))
   xM)
  (zR (ya (Ιb (eC Ŷa))
   (yb (zf Ux (Τ âo)))
   xM)
  (yb (zf T9 (Τ (zC Ĕ (Α (Zc ĺ (e2 zh ą (eC ŵa))))))))))
def ZW:Á D->É ä:=FR 4 4 VM
def Ig(b x1 a x3:D):ZW Ģd=yJ 4 VM Ģd:=rfl
def EV:yd:=
 (xK (Αb Ĕe (e2 zh ć ı))
  (Αb Őf (e2 zh (zf vL (Τ (zC (e2 pW (eC (.int 32)) ń) ŋi))) ń)))
def V3:FM:=uM 2 2 EV
def z94(a x1:M):V3 ď=vF 2 2 EV ď:=rfl
def MJ:yd:=
 (xK (uv 2 (jh (zf ZW (Γe (zC ϳl (Α (e2 zJ (e1 (wK Īi âb) ą) (eC Űc))))))))
  (xK (Αb Űc ϣh)
  (xK (ψb (wf Þe vN))
  (Ym (νa (e2 wp Ęb Ĩj))
   (εa (we Þe))
   Yn))))
def kC:FM:=uM 2 3 MJ
def iS(a x1:M):kC ď=vF 2 3 MJ ď:=rfl
def EF:FS:=
 (zR (ya (Ιb (eC ŗb))
   (yb (e2 ëg ć Ĕ))
   xM)
  (zR (ya (Ιb (eC Ŝb))
   (yb (e2 ńe ć Ĕ))
   xM)
  (yb (e2 (vX ϵh) ć Ĕ))))
def T4:Á D->É ä:=FR 3 3 EF
def z8p(b x1 a:D):T4 ϲ=yJ 3 EF ϲ:=rfl
def Cv:yd:=
 (xK (uv 2 (jh (zf T4 (Γe (Α (θb éo))))))
  (xK (ψb (wf Ĕ vN))
  (εa Ėj)))
def XZ:FM:=uM 2 3 Cv
def z8a(a x1:M):XZ ď=vF 2 3 Cv ď:=rfl
def MI:yd:=
 (xK (uv 2 (jh Ϣe))
  (xK (uv 3 (we (pU (tE (e2 zh Ęb óg)) (zf V5 Ĵm) (zf V6 Ĵm))))
  (xK (Ym (νa (e2 IS ϡh Ϸa))
   (Αb Űc ϡh)
   Yn)
  (xK (ψb (wf ûn vN))
  (εa (we ûn))))))
def W_:FM:=uM 2 4 MI
def iR(a x1:M):W_ ď=vF 2 4 MI ď:=rfl
def Cp:FS:=
 (yb (zf Uy (zC ϳl (Α (e2 zJ ć ęb)))))
def XX:Á D->É ä:=FR 2 2 Cp
def z83(a x1:D):XX ď=yJ 2 Cp ď:=rfl
def Cz:yd:=
 (Ψb (zf Uz ĭk))
def JF:FM:=uM 2 2 Cz
def z8d(a x1:M):JF ď=vF 2 2 Cz ď:=rfl
def C_:yd:=
 (Ψb (zf Jb ĭk))
def JG:FM:=uM 2 2 C_
def z8e(a x1:M):JG ď=vF 2 2 C_ ď:=rfl
def E5:yd:=
 (qb (gR T8 Ůk))
def JI:FM:=uM 2 2 E5
def z8g(a x1:M):JI ď=vF 2 2 E5 ď:=rfl
def E6:yd:=
 (qb (gR JY Ůk))
def JJ:FM:=uM 2 2 E6
def z8h(a x1:M):JJ ď=vF 2 2 E6 ď:=rfl
nonrec def jl:Á ľ:=ϳb .inr [ś,öb,Ïa,Ňa,Ēa,ņa,đa,ÿa,Ϛa,ϝa,Èb,Ģa,Ĺa,ţa,ŝa,Ŝa,Ŕa]
nonrec def fK:Á Ç:=[Óg,Ϡf,ϡf,Ėc,Ėc,Ėc,Ėc,Ėc,įd,įd,įd,Ėe,Ėe,ϟf,Ÿf,ŷf,ŝf]
def IK:Á FM:=[JH,JE,JD,kC,kC,kC,kC,kC,XZ,XZ,XZ,W_,W_,JF,JG,JI,JJ]
def IA:yd:=
 (Ym (νa (e1 (VS jl) Ęb))
   (qb (GI jl IK Ęb (jf 0 [] (wf ć vN))))
   Yn)
def pO:FM:=uM 2 2 IA
def HK(a x1:M):pO ď=vF 2 2 IA ď:=rfl
def z47:FS:=
 (zR (ya (tE (e2 zh Ęb üf))
   (yb ϗk)
   xM)
  (zR (ya (tE (e2 zh Ęb Čh))
   (yb (MZ ϗk))
   xM)
  (yb (e2 zh Ęb Ňd))))
def kE:Á D->É ä:=FR 2 2 z47
def Cj:FS:=
 (yb (IN (e2 zh (e1 (wK [à] þb) ą) (e1 (wK [à] Ĳb) ą)) (e2 zh (e2 zJ Ęk ı) (wP ťp))))
def uN:Á D->É ä:=FR 1 1 Cj
def z7z(a:D):uN [a]=yJ 1 Cj [a]:=rfl
def MH:yd:=
 (xK (Ym (Y4 (tE øl))
   (Yo (we (eC û)))
   Yn)
  (xK (uv 1 (jh Ęk))
  (xK (qb (gR pO (jf 0 Ûe (wf Ęb vN))))
  (xK (jL 0 [] [à] þb (jh (pU (tE (zf kE (zC Ýf (Α Ęb)))) Ϣd Žg)))
  (xK (N5 0 [] [à] ϣc ń)
  Ňh)))))
def jc:FM:=uM 1 2 MH
def iQ(a:M):jc [a]=vF 1 2 MH [a]:=rfl
abbrev jE:Á ľ:=[.inr Âa,.inr èa,.inr ía]
nonrec def Y1(a b c:Ð):D:=.dic jE ņc
def st(ws:Á D)(a b c:Ð)(hk:Á ľ)(hv:Á D):M:=.obj Ŀ Ŀf [.own åj,.own żc,.own ϑb]
def gT(ws:Á D)(a b c:Ð)(hk:Á ľ)(hv:Á D):D:=.obj Ŀ Ŀf [.lst ws,Y1 a b c,.dic hk hv]
abbrev Je:Á Ç:=[śa,Ĳb,Źb,ïc,ža,þb,ϣc]
nonrec def yz(T:D)(e:Æ)(fw fh:D)(s:M)(due done:Æ):M:=.obj à Je [.fz T,.fz Ăg,.fz fw,.fz fh,s,.fz Ϝf,.fz (.int done)]
nonrec def wm(T:D)(e:Æ)(fw fh:D)(s:D)(due done:Æ):D:=.obj à Je [T,.int e,fw,fh,s,.int due,.int done]
section
variable{ws ws':Á D}{a b c d':Ð}{hk hk':Á ľ}{hv hv':Á D}{T fw fh sd:D}{e due done:Æ}{s s':M}
def j4:vU èc=gT ws a b c hk hv:=by simp only[st,gT,vU,Ϸc]
theorem WN:vU Ϝd=wm T e fw fh (vU s) due done:=by simp only[yz,wm,vU,Ϸc]
theorem VL{i:Â}{π:Á wN}:kL èc i π=.p i π:=rfl
def kM:jG èc ßn=À (.own åj):=rfl
def J_:jG èc Þn=À (.own (.dic jE ņc)):=rfl
def df:jG èc őc=À (.own ϑb):=rfl
def Z2:jQ èc ßn (.own (.lst ws'))=À (st ws' a b c hk hv):=rfl
def oU:jQ èc őc (.own (.dic hk' hv'))=À (st ws a b c hk' hv'):=rfl
def OP{x y z:Ð}:jQ èc Þn (.own (.dic jE [.bl x,.bl y,.bl z]))=À (st ws x y z hk hv):=rfl
def jo:wK [Ŀ] ĸa ħh=À åj:=rfl
def Gw:wK [Ŀ] âb ħh=À żc:=rfl
def Gv:wK [Ŀ] úa ħh=À ϑb:=rfl
def Sn:zJ żc Űc=À (.bl a):=rfl
def x7s:zJ żc Ĕe=À ıb:=rfl
def x7t:zJ żc Őf=À (.bl c):=rfl
def BR:wE jE õp=jE:=rfl
def y9t:wE jE ôp=jE:=rfl
def y9u:wE jE óp=jE:=rfl
def Ba:wG jE ĕh õp Ľj=[.bl d',.bl b,.bl c]:=rfl
def x0h:wG jE ĕh ôp Ľj=[.bl a,.bl d',.bl c]:=rfl
def x0i:wG jE ĕh óp Ľj=[.bl a,.bl b,.bl d']:=rfl
def dg:jG Ϝd Ûe=À s:=rfl
def oV:jQ Ϝd Ûe s'=À (yz T e fw fh s' due done):=rfl
def Gx:wK [à] śa Ød=À T:=rfl
def hZ:wK [à] Ĳb Ød=À Ăg:=rfl
def IU:wK [à] ža Ød=À sd:=rfl
def Mg:wK [à] þb Ød=À Ϝf:=rfl
def i5:ge (.fz (.int d2)) όn 0 [] [à] þb=À (Ξ (yz T e fw fh s d2 done)):=rfl
def di:N5 0 [] [à] ϣc ń όn=À (Ξ (yz T e fw fh s due (done+1))):=rfl
def Jw(h:fo τ=À Ød)(a:m ∉ Je)(b:fs τ=À ds):qB à m fo fs τ=À (wm T e fw fh sd due done::ds):=by unfold qB;rw[h];exact(match decide ((à : Ç) = à)&&!(decide (m∈Je))with|Ã=>_|Ä=>_)=_;rw[ú (show(à : Ç) = à from rfl),Ē a];exact(fs τ).bind _=_;rw[b];rfl
#print a
nonrec def wI(ns:Á Æ):Á D:=ϣ Ě
def ZD{ns:Á Æ}{k:Â}{v:Æ}:(śd).set k Ϯb=wI (ns.set k v):=(Ēi ..).symm
def gA{ns:Á Æ}:(śd).length=ť:=ã ..
def kU{n k:Â}(h:k<n):Éc n (k:Æ)=À k:=by unfold Éc;rw[Ï ĝg];simp[h]
theorem pX{ns:Á Æ}{k:Â}{v:Æ}(h:ns[k]?=À v):zJ (Β śd) ĵf=À Ϯb:=by exact um śd (k:Æ)=_;unfold um;rw[Ï ĝg];exact śd[((k:Æ)).toNat]?=_;rw[ģ];unfold wI;rw[ė,h];rfl
def fJ:z7 0 (À (Ä,wm T e fw fh sd due done)::τ)=À Ød:=rfl
def SY{T fw fh sd row nx tg:D}{e due done:Æ}{k:Ð}(h:due≠e->zJ T Ϝf=À ŉh/\zh row žb=À Šd) :uN ąl=À (Ä,.bl (decide (due=e)||k))\/due=e/\uN ąl=À (Ä,.bl Ã):=by
 let b:∀{i j:Æ},zh Ϩ Ŏd=À Œo:=λ{i j}=>by rw[ŀq]
 let g:∀{x y z:D},zJ Ţc ű=À x:=rfl;rw[z7z];unfold Cj;by_cases c:due=e;right
 show{c,?_};simp only[Ø,Mg,hZ,b,c,ϛb];left
 let{f,d}:=h c;let a:decide (due=e)=Ä:=Ē c;rw[a];simp only[Ø,Mg,hZ,Gx,b,a,f,g,d];rfl
def x5h{T fw fh row tg:D}{e due done:Æ}{s s':M}{nx:D}{f:Æ}(c:due≠e)(g:zJ T Ϝf=À ŉh)(t:zh row žb=À û)(m:uT ŉh=Ã)(ns:∀d,s≠.fz d)(o:pO [s,.fz row]=À ([s',.fz row],.fz .zO))(ld:Ð)(r:kE [vU s',row]=À (Ä,.bl ld))(i:(if ld then tg else nx)=.int f) :jc Öh=À ([yz T e fw fh s' f (done+1)],.fz Ķ):=by
 let j:uN ϻe=À (Ä,.bl Ä):=by rcases SY (T:=T) (fw:=fw) (fh:=fh) (sd:=vU s) (row:=row) (nx:=nx) (tg:=tg) (e:=e) (due:=due) (done:=done) (k:=Ä) λ_=>{g,t}with z|⟨z,_⟩;rw[z,Ē c];rfl;show Þ z c
 let q:∀{x y z:D},zJ Ţc ű=À x:=rfl;let n:∀{x y z:D},zJ Ţc ýa=À y:=rfl;let h:∀{x y z:D},zJ Ţc ôb=À z:=rfl
 let l:kL s 0 Ûe=.p 0 Ûe:=by
  cases s with
  |fz d=>show Þ rfl (ns d)|_=>rfl
 let a:∀τ:zx,qB à ĥb ą zE Ņk=À ϻe:=λτ=>Jw fJ ϸ rfl
 rw[iQ];unfold MH;cases ld with
 |Ä=>have b:nx=.int f:=i;subst b;simp only[ŉ,WN,a,j,Gx,Mg,g,m,q,n,h,dg,oV,l,o,IU,r,i5,di]|Ã=>have b:tg=.int f:=i;subst b;simp only[ŉ,WN,a,j,Gx,Mg,g,m,q,n,h,dg,oV,l,o,IU,r,i5,di]
theorem ZB{x y z:D}:zJ Ţc ű=À x:=rfl
def Y2{x y z:D}:zJ Ţc ýa=À y:=rfl
def Y3{x y z:D}:zJ Ţc ôb=À z:=rfl
def VQ{x y:D}:zJ Ęd ű=À x:=rfl
def VR{x y:D}:zJ Ęd ýa=À y:=rfl
def ϩc{i j:Æ}:zh Ϩ Ŏd=À Œo:=by rw[ŀq]
theorem Vi{x:Ç}:ua Ϻb=À ăg:=rfl
def O7:decide (3<yX)=Ã:=by decide
section
variable{Ws:Á Æ}{a b c:Ð}{hk:Á ľ}{hv:Á D}
def z6w{d:Â}{n:Æ}(e:d<ĉa):JH [st Ŕ a b c hk hv,.fz ϟg]=À ([st (wI (Ϫc d n)) a b c hk hv,.fz ϟg],.fz .zO):=by rw[z8f];unfold E4;simp only[ŉ,ZB,Y2,Y3,kM,Z2,gA,kU e,ZD]
theorem fM{d s:Â}{v:Æ}(f:d<ĉa)(e:Ws[s]?=À v):JD [st Ŕ a b c hk hv,.fz ϕg]=À ([st (wI (Ϫc d v)) a b c hk hv,.fz ϕg],.fz .zO):=by rw[z8b];unfold Cw;simp only[ŉ,j4,jo,pX e,ZB,Y2,Y3,kM,Z2,gA,kU f,ZD]
theorem Vo{w:Æ}{g:Æ}(h:vL âc=À (Ä,.int g)):V3 [st Ŕ a b c hk hv,.fz āg]=À ([st Ŕ a (decide ύd) (decide ϑd) hk hv,.fz āg],.fz .zO):=by rw[z94];unfold EV;simp only[ŉ,j4,h,ϩc,Vi,J_,OP,O7,y9t,y9u,x0h,x0i]
theorem z6t{d:Â}{n v w:Æ}(e:Ws[d]?=À v)(h:VB [.int v,.int 16,.int 16,.int n]=À (Ä,.int w)):JE [st Ŕ a b c hk hv,.fz ϙg]=À ([st Íe a b c hk hv,.fz ϙg],.fz .zO):=by let f:d<ĉa:=Še.1;rw[z8c];unfold Cy;simp only[ŉ,j4,jo,pX e,h,ZB,Y2,Y3,kM,Z2,gA,kU f,ZD]
theorem z6z{k:Ç}{d s:Â}{x y w g:Æ}{u:Ð}(e:wp ϻb Ýb=À Ķ)(f:Ws[d]?=À x)(i:Ws[s]?=À y)(h:ZW Äh=À (Ä,.tup ϸh))(j:vL âc=À (Ä,.int g)) :kC ål=À ([st Íe u (decide ύd) (decide ϑd) hk hv,.fz Ċb],.fz .zO):=by let l:d<ĉa:=ĥg.1;rw[iS];unfold MJ;simp only[ŉ,j4,jo,Gw,Sn,pX f,pX i,h,ZB,Y2,Y3,VQ,VR,Vi,J_,OP,O7,BR,Ba,Vo j,VL,e,kM,Z2,gA,kU l,ZD]
theorem kO{k:Ç}{d s:D}{F:FM}{S a:M}(e:VS jl ϻb=À Ķ)(b:ĉ jl IK Ąg=À F)(c:∀d,S≠.fz d)(g:uT d=Ã)(i:uT s=Ã)(h:F Ņo=À (Ŀo,.fz .zO)) :pO Ņo=À (Ŀo,.fz .zO):=by
 rw[HK];unfold IA
 let f:kL S 0 []=.p 0 []:=by
  cases S with
  |fz d=>show Þ rfl (c d)|_=>rfl
 simp only[ŉ,ZB,e,Vi,b,f,h]
theorem pC{ws:Á D}:∀d,st ws a b c hk hv≠.fz d:=λd h=>by cases h
#print a
section
variable{Ws:Á Æ}{a b c:Ð}{hk:Á ľ}{hv:Á D}
def z6s{k:Ç}{d s:Â}{x y w g:Æ}(e:Ws[d]?=À x)(f:Ws[s]?=À y)(h:T4 [.str k,.int x,.int y]=À (Ä,.int w))(i:vL âc=À (Ä,.int g)) :XZ ål=À ([st Íe a (decide ύd) (decide ϑd) hk hv,.fz Ċb],.fz .zO):=by let j:d<ĉa:=Še.1;rw[z8a];unfold Cv;simp only[ŉ,j4,jo,pX e,pX f,h,ZB,Y2,Y3,Vo i,VL,kM,Z2,gA,kU j,ZD]
theorem fN{k:Ç}{d:Â}{x n w g:Æ}(f:Ws[d]?=À x)(t:Ð)(e:zh ϻb ōc=À (.bl t))(h:ġk=À (Ä,.tup [.int w,.zO]))(i:vL âc=À (Ä,.int g)) :W_ äl=À ([st Íe a (decide ύd) (decide ϑd) hk hv,.fz ώg],.fz .zO):=by
 rw[Źq];cases t with
 |Ä=>rw[Ñ Ò]at h;simp only[ŉ,j4,jo,pX f,e,h,ZB,Y2,Y3,VQ,VR,Vo i,VL,kM,Z2,gA,kU j,ZD]|Ã=>rw[Ï rfl]at h;simp only[ŉ,j4,jo,pX f,e,h,ZB,Y2,Y3,VQ,VR,Vo i,VL,kM,Z2,gA,kU j,ZD]
theorem fO{k:Ç}{d:Â}{x n w g:Æ}{u:Ð}(f:Ws[d]?=À x)(t:Ð)(e:zh ϻb ōc=À (.bl t))(h:ġk=À (Ä,.tup ϸh))(i:vL âc=À (Ä,.int g)) :W_ äl=À ([st Íe u (decide ύd) (decide ϑd) hk hv,.fz ώg],.fz .zO):=by
 rw[Źq];cases t with
 |Ä=>rw[Ñ Ò]at h;simp only[ŉ,j4,jo,pX f,e,h,ZB,Y2,Y3,VQ,VR,Vi,J_,OP,O7,BR,Ba,Vo i,VL,kM,Z2,gA,kU j,ZD]|Ã=>rw[Ï rfl]at h;simp only[ŉ,j4,jo,pX f,e,h,ZB,Y2,Y3,VQ,VR,Vi,J_,OP,O7,BR,Ba,Vo i,VL,kM,Z2,gA,kU j,ZD]
#print a
def y9q(f:α->D)(l:Á α)(b:0<=i)(c:i<(īb:Æ)):∃a∈l,zJ (Β (Õa f)) Ϩ=À ϻc:=by
 let h:ĝc<īb:=by omega
 show{l[ĝc],ŋb h,jH b (by rw[ė,đ h];rfl)}
inductive kH:D->È
 |Ϡ:kH žb
 |Wo {w:Ç} {d n:Æ} (hw:w = ś \/ w = öb) (d0:0<=d) (d1:d<8) (n0:0<=n) (n1:n<65536):kH ßl
 |two {w:Ç} {d s:Æ} (hw:w = Ïa \/ w = Ňa \/ w = Ēa \/ w = ņa \/ w = đa \/ w = Ϛa \/ w = ϝa \/ w = Èb \/ w = ÿa) (d0:0<=d) (d1:d<8) (s0:0<=s) (s1:s<8):kH èp
 |Wp {w:Ç} {d n:Æ} (hw:w = Ģa \/ w = Ĺa) (d0:0<=d) (d1:d<8) (n0:0<=n) (n1:n<32):kH ßl
 |mem {w:Ç} {d s n:Æ} (hw:w = ţa \/ w = Ŝa \/ w = ŝa \/ w = Ŕa) (d0:0<=d) (d1:d<8) (s0:0<=s) (s1:s<8) (n0:0<=n) (n1:n<256):kH (.tup [.str w,.int d,.int s,.int n])
inductive CN(m:Æ):D->È
 |w8 {p:Æ} (p0:0<=p) (p1:p<=m):CN m (.tup [.str ļa,.int p])
 |š {w k:Ç} {p:Æ} (hw:w = Ða \/ w = Ía) (hk:k = Âa \/ k = èa \/ k = ía) (p0:0<=p) (p1:p<=m):CN m (.tup [.str w,.str k,.int p])
def z3j(m:Æ)(d:D):È:=kH d\/CN m d
nonrec def xJ:D->Ð
 |.tup ői=>w == ļa || w == Ða || w == Ía|_=>Ä
def lS:D->D
 |.tup xs=>(um xs (-1)).getD .zO|_=>.zO
nonrec def y0x:D:=.tup [.str ļa,.str Ða,.str Ía]
theorem Zt(h:kH d):∃w,zJ d ű=À Ř/\xV Ř y0x=À û/\zh Ř ŀc=À û/\xJ d=Ä/\p9 5 d=Ã:=by
 cases h with
 |Ϡ=>show{_,rfl,rfl,rfl,rfl,rfl}|Wo hw=>rcases hw with rfl|rfl<;>show{_,rfl,rfl,rfl,rfl,rfl}
 |two hw=>rcases hw with rfl|rfl|rfl|rfl|rfl|rfl|rfl|rfl|rfl<;>show{_,rfl,rfl,rfl,rfl,rfl}
 |Wp hw=>rcases hw with rfl|rfl<;>show{_,rfl,rfl,rfl,rfl,rfl}
 |mem hw=>rcases hw with rfl|rfl|rfl|rfl<;>show{_,rfl,rfl,rfl,rfl,rfl}
nonrec def zl:D->Ð
 |.tup ői=>w == ńj|_=>Ä
nonrec def vQ(t:Ç):D:=.tup [.str ńj,.str t]
theorem Bj(h:z3j m d):∃w,zJ d ű=À Ř/\zh Ř ŀc=À û/\zl d=Ä/\p9 5 d=Ã:=by
 rcases h with h|h;cases h with
 |Ϡ=>show{_,rfl,rfl,rfl,rfl}|Wo hw=>rcases hw with rfl|rfl<;>show{_,rfl,rfl,rfl,rfl}
 |two hw=>rcases hw with rfl|rfl|rfl|rfl|rfl|rfl|rfl|rfl|rfl<;>show{_,rfl,rfl,rfl,rfl}
 |Wp hw=>rcases hw with rfl|rfl<;>show{_,rfl,rfl,rfl,rfl}
 |mem hw=>rcases hw with rfl|rfl|rfl|rfl<;>show{_,rfl,rfl,rfl,rfl}
 cases h with
 |w8=>show{_,rfl,rfl,rfl,rfl}|š hw hk=>rcases hw with rfl|rfl<;>rcases hk with rfl|rfl|rfl<;>show{_,rfl,rfl,rfl,rfl}
nonrec def Tu(t:Ç):D->Ð
 |.tup [_,.str u]=>u==t|_=>Ä
def uf(t:Ç)(s:Â×É Â)(d:D):Â×É Â:=match zl d with
 |Ã=>(s.1,match Tu t d with
  |Ã=>À s.1|Ä=>s.2)
 |Ä=>(s.1+1,s.2)
def xO(t:Ç)(L:Á D):Â×É Â:=Įd Ÿe (0,Å)
def V_(t:Ç)(L:Á D)(d:D):xO t Ϲb=uf t Ϲa d:=by unfold xO;rw[Řh];rfl
theorem BV(t:Ç):∀(L:Á D)(s:Â×É Â),Èe.1=s.1+(Ŵh).length
 | [],_=>rfl|d::L,s=>by
  rw[Êa,BV t L];unfold uf;cases h:zl d with
  |Ã=>rw[óa (by rw[h];decide)]|Ä=>rw[ăa (by rw[h];rfl),Ć];exact s.1+1+_=_;omega
def Nb(t u:Ç)(L:Á D):(xO t (L++[vQ u])).2=if u=t then À (Ŵh).length else Ϲa.2:=by rw[V_];let h:=BV t L (0,Å);exact(match(u==t)with|Ã=>À Ϲa.1|Ä=>Ϲa.2)=_;by_cases e:u=t;rw[Ï e,ώb e];exact À Ϲa.1=_;rw[show Ϲa.1=_ from h,ĸ];rw[Ñ e,Òb e]
theorem Nd{t:Ç}{L:Á D}{d:D}(h:zl d=Ä):(xO t Ϲb).2=Ϲa.2:=by rw[V_];unfold uf;rw[h]
theorem Xp{L:Á D}{r:D}(h:ϟ<=1000):tS (.lst L) r=À (Β (L++[r])):=by exact(if ϟ<yX then _ else _)=_;rw[Ï (by rw[Ëq])]
inductive yk:D->È
 |ïa (t:Ç):yk Æk
 |Ϫ {d:D}:kH d->yk d
 |w8 (t:Ç):yk Ýc
 |š {w k:Ç} (t:Ç) (hw:w = Ða \/ w = Ía) (hk:k = Âa \/ k = èa \/ k = ía):yk Ġd
def Ix(h:yk d):∃w,zJ d ű=À Ř/\zh Ř ŀc=À (.bl (zl d))/\p9 5 d=Ã:=by
 cases h with
 |ïa=>show{_,rfl,rfl,rfl}|Ϫ h=>let{w,a,b,c,e}:=Bj (m:=0) Ác;show{w,a,by rw[c];show b,e}
 |w8=>show{_,rfl,rfl,rfl}|š t hw hk=>rcases hw with rfl|rfl<;>rcases hk with rfl|rfl|rfl<;>show{_,rfl,rfl,rfl}
def y0j(h:zl x=Ã):xJ x=Ä:=by
 unfold zl at h
 rw[ìq];rename_i w r;let e:w = ńj:=by rw[ťq]
 subst e;rfl;cases h
def z73{R:D->D->È}{xs ys:Á D}(h:XV R xs ys):ë=ů:=by
 induction h with
 |nil=>rfl|ñ _ _ ih=>rw[Ć,Ć,ih]
theorem Ma{R:D->D->È}{xs ys:Á D}(h:XV R xs ys):∀y∈ys,∃x∈xs,R x y:=by
 induction h with
 |nil=>show λ_ h=>(Śd).elim|ñ r _ ih=>intro z a;rcases Ğ a with rfl|a;show{_,ÿ ..,r};let{w,b,h}:=ih z a;show{w,ŏ _ b,h}
theorem fS{R:D->D->È}:∀{xs ys:Á D},ë=ů->(∀(i:Â) x y,xs[i]?=À x->ys[i]?=À y->R x y)->XV R xs ys
 | [],[],_,_=>.nil| [],_::_,h,_=>by cases h|_::_,[],h,_=>by cases h|x::xs,y::ys,h,r=>.cons (r 0 x y rfl rfl) (fS Ća λi a b c d=>r í a b ſb (by simpa using d))
inductive pQ(N:Á Ç):D->È
 |Ϫ {d:D}:kH d->pQ N d
 |w8 {t:Ç} (ht:t∈N):pQ N Ýc
 |š {w k t:Ç} (hw:w = Ða \/ w = Ía) (hk:k = Âa \/ k = èa \/ k = ía) (ht:t∈N):pQ N Ġd
def dG(N:Á Ç)(d:D):È:=pQ N d\/∃t∈N,d=vQ t
def P6{N:Á Ç}{d:D}(h:pQ N d):yk d/\zl d=Ä:=by
 cases h with
 |Ϫ h=>let{_,_,_,l,_}:=Bj (m:=0) Ác;show{.plain h,l}
 |w8 ht=>show{.w8 _,rfl}|š hw hk ht=>show{.cond _ hw hk,by rcases hw with rfl|rfl<;>rfl}
def y0l{N:Á Ç}{d:D}(h:dG N d):yk d:=by rcases h with h|⟨t,_,rfl⟩;show(P6 h).1;show .label t
nonrec def pD(p:Æ×Æ):D:=.tup [.int p.1,.int p.2]
structure qS(ps:Á Ĳ):È where
 ad:∀p∈ps,0<=p.1/\p.1<65536
 gH:∀p∈ps,0<=p.2/\p.2<256
 nd:(ϊ (·.1)).Nodup
def EC:FS:=
 (zR (ya (ZA (tE (Xu .bool ą)) (ω (Xu .int ą)))
   ϒn
   xM)
  (yb (Zc (e2 (Ζc (i<=j)) ı ą) (e2 ļc ą (e2 uA ń ć)))))
def ZV:Á D->É ä:=FR 2 2 EC
def z8n(a x1:D):ZV ď=yJ 2 EC ď:=rfl
def E9:FS:=
 (yb (zf ZV (οa Ťp)))
def JL:Á D->É ä:=FR 1 1 E9
def z8k(a:D):JL [a]=yJ 1 E9 [a]:=rfl
def ED:FS:=
 (zR (ya (ZA (ω (Xu .tuple ą)) (tE (e2 wp Ϙb Ϡa)))
   ϒn
   xM)
  (yb (Zc (zf JL (Α Ńb)) (zf ZV (zC čh Ĥe)))))
def JM:Á D->É ä:=FR 1 1 ED
def z8o(a:D):JM [a]=yJ 1 ED [a]:=rfl
def Ks:FS:=(zR (ya (ω (zf JM Őb))
     Ĉc
     xM)
    (zR (ya (tE (e2 xV Þe (qX 1)))
     Ĉc
     xM)
    (j_ 1 Þe ϣh)))
def Cs:FS:=
 (zR Õp
  (zR (ya Âm
   Ík
   xM)
  (zR (ya ϱl
   Ĉc
   xM)
  (zR (jS ϵb Ŭb
   Ks)
  Ík))))
def Wz:Á D->É ä:=FR 1 3 Cs
def z86(a:D):Wz [a]=yJ 3 Cs [a]:=rfl
def AL:FE:=(zf ZV (Τ ţp))
def Ez:FS:=
 (zR (ya Âm
   (vS (e2 TZ ŷh ìb))
   xM)
  (zR (ya (ZA ϱl (tE (e2 wp Ϙb ìb)))
   Ĉc
   xM)
  (zR (ya (ω (eL Gg (Α (wO 1 ϵb Âb xc AL))))
   Ĉc
   xM)
  (vS (eL VT ĭa)))))
def Jd:Á D->É ä:=FR 1 1 Ez
def z9v(a:D):Jd [a]=yJ 1 Ez [a]:=rfl
def EB:FS:=
 (yb (e2 zh Ńb Đe))
def Xb:Á D->É ä:=FR 1 1 EB
def z8m(a:D):Xb [a]=yJ 1 EB [a]:=rfl
def EA:FS:=
 (yb (e2 xV Ńb (eC Mm)))
def Xa:Á D->É ä:=FR 1 1 EA
def z8l(a:D):Xa [a]=yJ 1 EA [a]:=rfl
def z1w:FE:=ć
def AU:FT:=(ω (zf Xb Ôb))
def Em:FS:=
 (vS (wO 1 ϵb Âb AU z1w))
def uO:Á D->É ä:=FR 1 1 Em
def z9j(a:D):uO [a]=yJ 1 Em [a]:=rfl
def M_:FS:=(ya (tE (zf Xb čc))
     (j_ 1 ϡh Ĕ)
     (zm 2 (e2 Ĩf Ĕ ń)))
def EG:FS:=
 (zR Õp
  (zR Áp
  (zR (jS ϵb Īc
   M_)
  Ík)))
def V1:Á D->É ä:=FR 1 4 EG
def z8q(a:D):V1 [a]=yJ 4 EG [a]:=rfl
def AH:FE:=(pU Ϻm (e2 zJ ć (e2 zJ Ĕ ĥd)) Ϸa)
def Er:FS:=
 (zR (zm 1 ūo)
  (vS (wO 1 ęj Ŭb xc AH)))
def gJ:Á D->É ä:=FR 1 2 Er
def z9n(a:D):gJ [a]=yJ 2 Er [a]:=rfl
def Kw:FS:=(j_ 2 ĺ (Ρ (e2 zJ ć ĺ) (zC Īf Àg)))
def Eo:FS:=
 (zR ύf
  (zR ži
  (zR (jS ğj ěj
   Kw)
  Ìk)))
def JZ:Á D->É ä:=FR 1 5 Eo
def z9l(a:D):JZ [a]=yJ 5 Eo [a]:=rfl
def Ce:yd:=
 (xK (jL 0 [] [à] ža (VO Ŀ Uw (jf 0 án (jf 0 àn vN))))
  (xK (jL 0 [] [à] þb ėj)
  (jL 0 [] [à] ϣc ėj)))
def XW:FM:=uM 1 1 Ce
def z7u(a:M):XW [a]=vF 1 1 Ce [a]:=rfl
def Cd:yd:=
 (xK (jL 0 [] [à] śa (we ć))
  (xK (jL 0 [] [à] Ĳb Ėj)
  (xK (jL 0 [] [à] Źb (we (wA Jd čc)))
  (xK (jL 0 [] [à] ïc (we (wA Wz Àg)))
  (qb (ji à ŏe 0 [] XW vN))))))
def Uv:FM:=uM 5 5 Cd
def z7t(b x1 a x3 x4:M):Uv ĭn=vF 5 5 Cd ĭn:=rfl
def Ck:yd:=
 (xK (uv 4 (we (wA JZ Ôb)))
  (qb (gR Uv (jf 0 [] (wf ř (wf (eL Gk Àg) Ϡg))))))
def gI:FM:=uM 4 5 Ck
def z80(b x1 a x3:M):gI Ģd=vF 4 5 Ck Ģd:=rfl
theorem y2l(P:Â->yU->È):∀{ds:Á D}{β:yU}(n:Â),P n β->(∀i d β,ds[i]?=À d->P (n+i) β->∃β1 β2,g d β=À β1/\b β1=À Ϫb/\P Žj β2)->
  ∃β',gV g b ds β=À (.nx β')/\P żj β'
 | [],β,n,h,_=>{β,rfl,h}|d::ds,β,n,h,Ŋa=>by
  let{β1,β2,e1,e2,o}:=Ŋa 0 d β rfl h
  let{β',q,r}:=y2l P (ds:=ds) (β:=β2) Ĝ o λi s τ k e=>by let{a,c,j,l,p}:=Ŋa í s τ ŀh (by rw[Ĺq];show e);show{a,c,j,l,by rw[ęq];show p}
  show{β',?_,by rw[Ēq];show r};exact((g d β).bind λβ1=>(Ĳg).bind λf=>match f with|.nx β2=>gV g b ds β2|.ct β2=>gV g b ds β2|.bk β2=>À Ϫb|.rt m β2=>À Œi)=_;rw[e1];exact(Ĳg).bind _=_;rw[e2];show q
def NL{i:Æ}{w:Â}(e:w<=64):ZV [.int i,.int (w:Æ)]=À (Ä,.bl (decide ύe&&decide (i<2 ^ w))):=by
 let b:pp 1 (w:Æ)=Ã:=by unfold pp;rw[ú Ê,ú Ê];rfl
 let d:uA ýa Ŗn=À żn:=by rw[Ŀq];rw[b];exact À Áf=_;rw[ģ,ăe]
 rw[z8n];unfold EC;by_cases c:0<=i;let a:decide ύe=Ã:=ú c;rw[a];simp only[Ø,a,b,ģ,ăe];let a:decide ύe=Ä:=Ē c;rw[a];simp only[Ø,a,įf]
theorem w1f{Ws:Á Æ}(g:ĉa=8)(n:∀w∈Ws,0<=w/\w<4294967296):Jd ϊf=À (Ã,.lst Ŕ):=by
 let e:wB Âb xc AL [À (Ä,.lst Ŕ),Å] Ŕ=À ((Ŕ).map λ_=>.bl Ã):=Zl (λ_=>.bl Ã) λd j=>by
  let{w,f,rfl}:=Ϻ j;rw[Ýq];let{a,b}:=n w f;let h:=NL (i:=w) (w:=32) Ò;let c:(2:Æ) ^ 32=4294967296:=by decide
  rw[c,ú a,ú b]at h;unfold AL;simp only[Ø,show ZV [.int w,.int 32]=À (Ä,.bl Ã)from h]
 let e2:(Ŕ).map (λ_=>Ñb Ã)=(Ő 8 Ã).map Ñb:=by unfold wI;rw[ϭ,ĵh,<-g,<-List.map_const'];rfl
 let k:Gg [.lst [.bl Ã,.bl Ã,.bl Ã,.bl Ã,.bl Ã,.bl Ã,.bl Ã,.bl Ã]]=À Ķ:=rfl;rw[e2]at e;let m:VT ϊf=À ěa:=rfl
 let l:wp (.int ((Ŕ).length:Æ)) Ëa=À û:=by rw[gA,g];rfl
 rw[z9v];unfold Ez;simp only[Ø,l,e,k,m]
nonrec def kP(ps:Á Ĳ):Á ľ:=ϊ λp=>.inl p.1
nonrec def vP(ps:Á Ĳ):Á D:=ϊ λp=>.int p.2
def KW:yx ĳ Ĩb=decide (a∈ϊ (·.1)):=by
 unfold yx kP;rw[ēi,Ŝc,ÿf,Ϩm]
 rw[ńq];rintro⟨p,b,e⟩;let c:=ţ e;show Ŗc {p,b,õc c};intro h;let{p,b,e}:=Ϻ h;show{p,b,ú (ķ Į e)}
def oR(h:a ∉ ϊ (·.1)):wE ĳ Ĩb=kP Ϝn/\wG ĳ Ŧ Ĩb ķj=vP Ϝn:=by
 let c:yx ĳ Ĩb=Ä:=by rw[KW];show Ē h
 unfold wE wG;rw[Ñ όm,Ñ όm];unfold kP vP;rw[ça,ça];show{rfl,rfl}
def y8i{p:Æ×Æ}(d:0<=p.1/\p.1<65536)(a:0<=p.2/\p.2<256):JM [pD p]=À (Ä,.bl Ã):=by
 let b:=NL (i:=p.1) (w:=16) Ò;rw[ú d.1,ú (show p.1<2 ^ 16 from d.2)]at b;let c:=NL (i:=p.2) (w:=8) Ò;rw[ú a.1,ú (show p.2<2 ^ 8 from a.2)]at c;let g:ZV [.int p.1,.int 16]=À (Ä,.bl Ã):=b;let f:ZV [.int p.2,.int 8]=À (Ä,.bl Ã):=c
 let e:JL [.int p.1]=À (Ä,.bl Ã):=by rw[z8k];unfold E9;simp only[Ø,g]
 let h:wp (.int ((0+1+1:Â):Æ)) ôb=À û:=rfl;rw[z8o];unfold ED pD;simp only[Ø,VQ,VR,e,f,h]
theorem z4x{ps:Á Ĳ}(P:qS ps)(v:ħ<=1000):Wz [.lst ϙc]=À (Ã,.dic ĳ Ŧ):=by
 let{σ',e1,x,rfl}:=kX (g:=yA 2) (b:=Ks) (λi σ=>∃x:É Sl,σ=[À (Ä,.lst ϙc),À (Ã,.dic Ňe (vP Âe)),x])
  (ds:=ϊ pD) (σ:=[À (Ä,.lst ϙc),À (Ã,.dic [] []),Å]) 0 {Å,rfl} λi d σ f c=>by
   let{x,rfl}:=c;rw[ĸ];let e:i<ħ:=by let:=ĥg.1;rw[ã]at this;rw[Ôq]
   rw[ė,đ e]at f;cases f;generalize c:ps[i]=p;let l:p∈ps:=c▸ŋb e;let r:=y8i (P.ad p l) (ćb p l);let n:Ϡi í=Ϡi i++[p]:=by rw[Ñd e,c]
   let a:p.1 ∉ (Âe).map (·.1):=by
    let j:=Èd
    have e2:ϊ (·.1)=(Âe).map (·.1)++p.1::(ps.drop í).map (·.1):=by rw[<-c,<-Ļ,<-Žb e,<-ça,ϡa]
    rw[e2,Ŝm]at j;intro z;show j.2.2 _ z _ ÿ rfl
   let h:xV Ϛf (.dic Ňe (vP Âe))=À û:=by exact((ua Ϛf).bind λk=>À (yx Ňe k)).bind _=_;exact À (Ñb (yx Ňe øp))=_;rw[KW,Ē a]
   let{m,u}:=oR (b:=p.2) a;let o:(Ňe).length<yX:=by unfold kP;rw[ã,åa];rw[Ëq]
   show{_,[À (Ä,.lst ϙc),À (Ã,.dic (kP Ŀp) (vP Ŀp)),À (Ä,pD p)],rfl,.inl ?_,_,rfl};rw[n];unfold Ks;let s:zJ (pD p) ű=À Ϛf:=rfl;let t:zJ (pD p) ýa=À (.int p.2):=rfl;let q:ua Ϛf=À øp:=rfl;rw[<-m,<-u];simp only[Ø,r,s,t,h,j_,q,Ï o]
 rw[ĸ,ã,ŕc]at e1;rw[z86];unfold Cs;rw[Żq]
def CT(r:D):È:=Xb [r]=À (Ä,.bl Ä)/\Xa [r]=À (Ä,.bl Ä)
nonrec def qg(n:Â):Á ľ:=(İb).map λk:Â=>.inl (k:Æ)
theorem iF{g:Â->D}{k:Â}:∀{xs:Á Â},k∈xs->ĉ (ģc λk:Â=>(.inl (k:Æ):Sum Æ Ç)) (ģc g) (.inl (k:Æ))=À (g k)
 | [],h=>Þ h ô|x::xs,h=>by rw[Ļ,Ļ];unfold ĉ;by_cases c:x=k;rw[Ï Üp,c];rw[Ñ (λz=>c űk)];show iF Ϥk
def z0q:yx œg Ğb=Ä:=by unfold yx qg;rw[ēi,Şm];intro k a;let:=ód a;exact ¬ decide ((.inl (k:Æ):Sum Æ Ç)=.inl (n:Æ))=Ã;rw[ÿf];intro z;let:=õc z;omega
def x5g{Ws:Á Æ}{hk:Á ľ}{hv:Á D}:Uw [.obj Ŀ [] [],.fz ěa,.fz ϑb]=À ([st Ŕ Ä Ä Ä hk hv,.fz ěa,.fz ϑb],.fz .zO):=by let e1:wB Īc xc z1p [Å,À (Ä,.lst Ŕ),À (Ä,.dic hk hv),Å] Ic=À þk:=rfl;let e2:YX [.lst þk]=À (Y1 Ä Ä Ä):=rfl;let a:VT ϊf=À ěa:=rfl;let e:Me [.dic hk hv]=À ϑb:=rfl;let d:∀{x:M}{yB:yU},ge x (Ω (.obj Ŀ [] [])) 0 [] [Ŀ] ĸa=À (Ξ (.obj Ŀ [ĸa] [x])):=rfl;let c:∀{x y:M}{yB:yU},ge x (Ω (.obj Ŀ [ĸa] [y])) 0 [] [Ŀ] âb=À (Ξ (.obj Ŀ [ĸa,"truths"] [y,x])):=rfl;let b:∀{x y z:M}{yB:yU},ge x (Ω (.obj Ŀ [ĸa,âb] [y,z])) 0 [] [Ŀ] úa=À (Ξ (.obj Ŀ [ĸa,"truths",úa] [y,z,x])):=rfl;rw[z81];unfold Cn;simp only[ŉ,Te,e1,e2,a,e,d,c,b];rfl
def z3u{T fw fh:D}{e:Æ}{Ws:Á Æ}{hk:Á ľ}{hv:Á D}{fs:Á Ç}{ms:Á M}:XW [.obj à ϣe Ćk]=À ([yz T e ěa ϑb (st Ŕ Ä Ä Ä hk hv) 0 0],.fz .zO):=by let h:jG Ŋm án=À (.fz ěa):=rfl;let i:jG Ŋm àn=À (.fz ϑb):=rfl;let l:∀{a b c d x:M}{yB:yU},ge x Ϭg 0 [] [à] ža=À (Ξ (.obj à źl [a,b,c,d,x])):=rfl;let k:∀{a b c d f x:M}{yB:yU},ge x (Ω (.obj à źl [a,b,c,d,f])) 0 [] [à] þb=À (Ξ (.obj à đl [a,b,c,d,f,x])):=rfl;let j:∀{a b c d f g x:M}{yB:yU},ge x (Ω (.obj à đl [a,b,c,d,f,g])) 0 [] [à] ϣc=À (Ξ (.obj à Je [a,b,c,d,f,g,x])):=rfl;rw[z7u];unfold Ce;simp only[ŉ,h,i,x5g,l,k,j];rfl
def SD{x:Æ}{n:Â}(a:0<=x)(b:x<4294967296)(c:n<=64):pp x (n:Æ)=Ã:=by unfold pp;rw[ú Ê,ú Ê,ú (show x.natAbs<2 ^ 64 by omega)];rfl
def Yr{x:Æ}{l w:Â}(d:w<=64):vL [.int x,.int (l:Æ),.int (w:Æ)]=À (Ä,.int (x/2 ^ l%2 ^ w)):=by
 let c:pp 1 (w:Æ)=Ã:=SD Ò Ò d
 let a:uA ýa Ŗn=À żn:=by rw[Ŀq];rw[c];exact À Áf=_;rw[ģ,ăe]
 let b:Ta ŧc (.int (l:Æ))=À (Δ ϋp):=by exact(match decide ((0:Æ)<=(l:Æ))with|Ã=>À Ûl|Ä=>Å)=_;rw[ú (ŵb l)];exact À Ûl=_;rw[ģ]
 let e:=nO ϋp w;rw[ăe]at e;rw[z9e];unfold Eh;simp only[yJ,zR,zm,yb,e1,e2,z7,eC,íc,Ļ,øe,Ōb,òc,Ć,śc,Ēb,ßm,ĳh,Ĳh,Ņl,ńl,a,b,pW,vX,Þi,Ýi,Ųn,e]
nonrec def vp(ps:Á Ĳ)(a b:Æ):Á Ĳ:=if a∈ϊ (·.1)then ϊ Ϻk else ps++[(a,b)]
nonrec def gP:Á Ĳ->Æ->Æ
 | [],_=>0|p::ps,a=>if p.1=a then p.2 else gP ps a
theorem iH(a:Æ):∀ps:Á Ĳ,(ĉ ĳ Ŧ Ĩb).getD ű=.int (gP ps a)
 | []=>rfl|p::ps=>by exact(if(Į p.1:Sum Æ Ç)=.inl a then À (Ě p.2)else ĉ ĳ Ŧ Ĩb).getD ű=.int (if p.1=a then p.2 else gP ps a);rw[Ϙq];rfl;rw[Ñ ϰm,Ñ h];show iH a ps
theorem Zf(a:Æ):∀{ps:Á Ĳ},(∀p∈ps,0<=p.2/\p.2<256)->0<=gP ps a/\gP ps a<256
 | [],_=>{by exact(0:Æ)<=0;decide,by exact(0:Æ)<256;decide}|p::ps,h=>by
  unfold gP
  split;show h p ÿ;show Zf a λq b=>h q ύc
theorem z1y(a b:Æ):∀ps:Á Ĳ,ûc (λk' x=>if k'=(Į a:Sum Æ Ç)then Ě b else x) ĳ Ŧ=vP Ϩg
 | []=>rfl|p::ps=>by exact(if(Į p.1:Sum Æ Ç)=.inl a then Ě b else .int p.2)::ûc _ ĳ Ŧ=Ě Ċl.2::vP Ϩg;rw[z1y a b ps];rw[Ϙq];rw[Ñ ϰm,Ñ h]
theorem Gz(a b:Æ):∀ps:Á Ĳ,(Ϩg).map (·.1)=ϊ (·.1)
 | []=>rfl|p::ps=>by exact Ċl.1::_=p.1::_;rw[Gz a b ps];by_cases h:p.1=a;rw[Ï h,<-h];rw[Ñ h]
theorem y0y(h:ϊ (·.1)=ħa (·.1)):kP ps=kP qs:=by
 let e:∀l:Á Ĳ,kP l=(Õa (·.1)).map Į:=λl=>by rw[ϭ];rfl
 rw[e,e,h]
theorem sN(ps:Á Ĳ)(a b:Æ):wE ĳ Ĩb=kP ŭf/\wG ĳ Ŧ Ĩb ķj=vP ŭf:=by by_cases h:a∈ϊ (·.1);unfold vp wE wG;rw[Ï h,KW,Ï (ú h),Ï (ú h),z1y,y0y (Gz a b ps)];show{rfl,rfl};unfold vp;rw[Ñ h];show oR h
def sR{ps:Á Ĳ}{a b:Æ}(P:qS ps)(e:0<=a)(d:a<65536)(b0:0<=b)(f:b<256):qS ŭf:=by
 unfold vp;by_cases h:a∈ϊ (·.1);rw[Ï h]
 let m:∀q∈ϊ Ϻk,q=(a,b)\/q∈ps:=λq c=>by let{p,g,rfl}:=Ϻ c;by_cases z:p.1=a;rw[Ï z];show .inl rfl;rw[Ñ z];show .inr g
 show{λq c=>?_,λq c=>?_,?_};rcases m q c with rfl|z;show{e,d};show P.ad q z;rcases m q c with rfl|z;show{b0,f};show ćb q z;rw[Gz];show Èd;rw[Ñ h];show{λq c=>?_,λq c=>?_,?_};rcases ύ c with z|z;show P.ad q z;cases Ľ z;show{e,d};rcases ύ c with z|z;show ćb q z;cases Ľ z;show{b0,f};rw[ça,Ŝm];refine{Èd,by simp,λx j y i=>?_};obtain rfl:a=y:=(Ľ i).symm;show λz=>h (by rw[<-show x=a from z];show j)
def Yy{ps:Á Ĳ}{a b:Æ}:(ŭf).length<=ħ+1:=by
 unfold vp
 split;rw[ã];rw[āq]
section
variable{Ws:Á Æ}{a b c:Ð}{ps:Á Ĳ}
def dW{x n:Æ}:Uy [.int x,.int n]=À (Ä,.int Ĉd):=by
 let a:vL [.int (x+n),.int 0,.int 16]=À (Ä,.int Ĉd):=by let:=Yr (x:=x+n) (l:=0) (w:=16) Ò;rw[ùe,úe]at this;rw[Ôq]
 rw[z84];unfold Cq;simp only[Ø,ϴ,a]
theorem eJ{x:Æ}:Uz ſl=À (Ä,.int (gP ps x)):=by let a:ua ŧc=À (.inl x):=rfl;rw[z85];unfold Cr;simp only[Ø,GV,a,iH]
nonrec def TQ(x:Æ):Á D:=[.int ăc,.int Ăc,.int āc,.int Ϝb]
theorem i8{x:Æ}:V0 [.int x]=À (Ã,.lst όe):=by
 let b:p6 ı ņb [À (Ä,.int x)]=À (wt 4):=Z4 (n:=4) rfl Ò
 let e:wB Âb xc DP ϫd (wt 4)=À όe:=by
  let:=Zl (g:=yA 1) (e:=DP) (σ:=ϫd) (ds:=wt 4) (οc (Θ (x+j))) λd a=>by let{k,_,rfl}:=Ϻ a;rw[Ýq];unfold DP;simp only[Ø,dW]
  rw[Ôq]
 rw[z8i];unfold E7;simp only[Ø,b,e]
theorem w15(P:qS ps){x:Æ}:Jb ſl=À (Ä,.int (gP ps ăc+gP ps Ăc*256+gP ps āc*65536+gP ps Ϝb*16777216)):=by
 let e:wB Ŭb xc DU Ļk όe=À [.int (gP ps ăc),.int (gP ps Ăc),.int (gP ps āc),.int (gP ps Ϝb)]:=by
  let:=Zl (g:=yA 2) (e:=DU) (σ:=Ļk) (ds:=TQ x) (οc (gP ps j)) λd b=>by
   obtain⟨j,rfl⟩:∃j,d=.int j:=by
    rcases Ğ b with rfl|b;show{_,rfl}
    rcases Ğ b with rfl|b;show{_,rfl}
    rcases Ğ b with rfl|b;show{_,rfl};show{_,Ľ b}
   rw[Ýq];unfold DU;simp only[Ø,eJ]
  rw[Ôq]
 let{m,L}:=Zf ăc ćb;let{b0,H}:=Zf Ăc ćb;let{o,t}:=Zf āc ćb;let{F,G}:=Zf Ϝb ćb;generalize gP ps ăc=g0 at *;generalize gP ps Ăc=g1 at *;generalize gP ps āc=g2 at *;generalize gP ps Ϝb=g3 at *
 let c:∀{g:Æ}(n:Â),0<=g->g<256->n<=64->uA (.int g) ŗn=À (Δ (g*2 ^ n)):=λ{g} n E f A=>by let f:=SD (x:=g) (n:=n) E Ê A;exact(match pp g (n:Æ)with|Ã=>À Ül|Ä=>Å)=_;rw[f];exact À Ül=_;rw[ģ]
 let B:Jc [.lst ϩe]=À (Ä,.int Ϯk):=by
  let z:Tg ą ϐj [À (Ä,.lst ϩe)]=À òk:=rfl;let y:uA Ϲp ű=À Ϲp:=by let:=c 0 m L Ò;rw[ùe,Ĵo]at this;rw[Ôq]
  let r:uA (.int g1) Ëa=À (Δ (g1*256)):=c 8 b0 H Ò;let I:uA (.int g2) ϳa=À (Δ (g2*65536)):=c 16 o t Ò;let J:uA (.int g3) Ϻp=À (Δ (g3*16777216)):=c 24 F G Ò
  let l:wB ìg xc AK âl òk=À ĕk:=by
   let a:∀(u v w:D),uA u v=À w->∃σ1,vO 1 2 ćo âl=À σ1/\AK σ1=À w:=λu v w h=>{[À (Ä,.lst ϩe),À (Ä,u),À (Ä,v)],rfl,h}
   let{U,p,s}:=a _ _ _ y;let{T,k,O}:=a _ _ _ r;let{W,R,Q}:=a _ _ _ I;let{S,K,C}:=a _ _ _ J;simp only[wB,p,k,R,K,s,O,Q,C,xc,íc]
  let N:Gu [.lst ĕk]=À (.int Ϯk):=by
   exact(match((ϸe).all λi=>decide ύe&&decide żm)&&decide ((ϸe:Á Æ).length<=1000)with|Ã=>À (Ě (ϸe:Á Æ).sum)|Ä=>Å)=_
   let al:((ϸe:Á Æ).all λi=>decide ύe&&decide żm)=Ã:=by simp only[Ź,List.all_nil,Đ,ąf,and_true];show{{?_,?_},{?_,?_},{?_,?_},?_,?_}<;>omega
   rw[al];exact À (Ě (g0+(g1*256+(g2*65536+(g3*16777216+0)))))=_
   congr 2
   omega
  rw[z9u];unfold Ey;simp only[Ø,z,l,N]
 rw[z9t];unfold Ex;let q:Bq (Β όe)=À όe:=rfl;simp only[Ø,i8,q,e,B]
theorem z4n{x:Æ}:U_ [.int x]=À (Ä,.tup Āk):=by
 let i:vL [.int x,.int 0,.int 8]=À (Ä,.int (x%256)):=by let:=Yr (x:=x) (l:=0) (w:=8) Ò;rw[ùe,úe]at this;rw[Ôq]
 let d:vL [.int x,.int 8,.int 8]=À (Ä,.int (x/256%256)):=Yr (l:=8) (w:=8) Ò;let k:vL [.int x,.int 16,.int 8]=À (Ä,.int (x/65536%256)):=Yr (l:=16) (w:=8) Ò;let o:vL [.int x,.int 24,.int 8]=À (Ä,.int (x/16777216%256)):=Yr (l:=24) (w:=8) Ò;let a:∀(u w:D),vL [.int x,u,.int 8]=À (Ä,w)->∃σ1,yA 1 u ϫd=À σ1/\LA σ1=À w:=λu w h=>{[À (Ä,.int x),À (Ä,u)],rfl,by unfold LA;simp only[Ø,h]}
 let{s,c,g}:=a _ _ i;let{r,b,j}:=a _ _ d;let{t,p,m}:=a _ _ k;let{q,e,n}:=a _ _ o
 let l:wB Âb xc LA ϫd iM=À Āk:=by exact wB Âb xc LA ϫd [.int 0,.int 8,.int 16,.int 24]=_;simp only[wB,c,b,p,e,g,j,m,n,xc,íc]
 let f:∀w x y z:D,IT [.lst Ĳp]=À (.tup Ĳp):=λ_ _ _ _=>rfl
 rw[z87];unfold Ct;simp only[Ø,Td,l,f]
theorem oW{x w:Æ}(f:ħ<=1000):T8 ϱk=À ([.own (.dic (kP ϖn) (vP ϖn)),.fz ŧc,.fz āg],.fz .zO):=by
 let c:vL [.int w,.int 0,.int 8]=À (Ä,.int őd):=by let:=Yr (x:=w) (l:=0) (w:=8) Ò;rw[ùe,úe]at this;rw[Ôq]
 let d:ua ŧc=À (.inl x):=rfl;let a:decide ((ĳ).length<yX)=Ã:=ú (by unfold kP;rw[ã];rw[Ëq]);let{b,e}:=sN ps x őd;rw[<-b,<-e,z9g];unfold Ej;simp only[ŉ,c,d,a]
def Zv(ps:Á Ĳ)(x w:Æ):Á Ĳ:=vp (vp (vp (vp ps ăc őd) Ăc ōi) āc ëi) Ϝb ěf
def x0g{x w:Æ}(B:ħ<=900):JY ϱk=À ([.own ťk,.fz ŧc,.fz āg],.fz .zO):=by
 let z:Tg Ōi şo [Å,À (Ä,.int x),À (Ä,.int w),Å,Å]=À àk:=by unfold Tg;simp only[Ø,i8,z4n];rfl
 let c:∀(d:Á Ĳ) (u v:Æ) (f e:É M),ϰ<=1000->0<=v->v<256->B2 [À íp,À Če,À Ñe,À Ŝn,À Àq]=À (Λd (.own (.dic (kP Ìp) (vP Ìp))) Ŝn Àq):=λd u v f e m l k=>by let g:=oW (ps:=d) (x:=u) (w:=v) m;rw[şm l k]at g;let r:kL íp 0 []=.p 0 []:=rfl;unfold B2;simp only[ŉ,r,g]
 let n:∀(o f e:É M)(u v:D),Th 3 4 ćo [o,À Če,À Ñe,f,e]=À [o,À Če,À Ñe,À (.fz u),À (.fz v)]:=λ_ _ _ _ _=>rfl
 let A:=Yy (ps:=ps) (a:=(x+0)%65536) (b:=w%256);let i:=c ps ăc őd Å Å Ê Ê Ê;generalize hq0:vp ps ăc őd=p0 at *;let C:=Yy (ps:=p0) (a:=Ąb%65536) (b:=w/256%256);let t:=c p0 Ăc ōi Å Å Ê Ê Ê;generalize hq1:vp p0 Ăc ōi=p1 at *;let E:=Yy (ps:=p1) (a:=(x+2)%65536) (b:=w/65536%256);let q:=c p1 āc ëi Å Å Ê Ê Ê;generalize hq2:vp p1 āc ëi=p2 at *;let h:=c p2 Ϝb ěf Å Å Ê Ê Ê
 let y:vp p2 Ϝb ěf=Zv ps x w:=by unfold Zv;rw[hq0,hq1,hq2]
 rw[y]at h
 let s:gV (Th 3 4) B2 àk [À Ϙf,À Če,À Ñe,Å,Å]=À (Λd (.own ťk) (.fz (.int Ϝb)) (.fz (.int ěf))):=by simp only[gV,n,i,t,q,h,íc]
 let j:űb Ϙf=Å:=rfl;rw[z9h];unfold Ek;simp only[ŉ,j,z,s]
theorem x0s:zJ Ğf ű=À x:=rfl
def Bd{x y z w:D}:zJ Ğf ýa=À y:=rfl
def x0t{x y z w:D}:zJ Ğf ôb=À z:=rfl
def x0u{x y z w:D}:zJ Ğf ōe=À w:=rfl
def M7{k:Ç}{hk:Á ľ}{hv:Á D}{d:D}{s:Â}{x n:Æ}(e:Ws[s]?=À x):XX [gT Ŕ a b c hk hv,.tup [.str k,d,.int (s:Æ),.int n]]=À (Ä,.int Ĉd):=by rw[z83];unfold Cp;simp only[Ø,jo,x0t,x0u,pX e,dW]
theorem z6u{d s:Â}{x n:Æ}(f:d<ĉa)(e:Ws[s]?=À x):JF [st Ŕ a b c ĳ Ŧ,.fz Ĩk]=À ([st (wI (Ϫc d (gP ps Ĉd))) a b c ĳ Ŧ,.fz Ĩk],.fz .zO):=by rw[z8d];unfold Cz;simp only[ŉ,j4,Gv,M7 e,eJ,Bd,kM,Z2,gA,kU f,ZD]
theorem z6v(P:qS ps){d s:Â}{x n:Æ}(f:d<ĉa)(e:Ws[s]?=À x):JG [st Ŕ a b c ĳ Ŧ,.fz ĩk]=À ([st (wI (Ϫc d (gP ps ύl+gP ps όl*256+gP ps ϋl*65536+gP ps ϊl*16777216))) a b c ĳ Ŧ,.fz ĩk],.fz .zO):=by let w:=w15 P (x:=(x+n)%65536);generalize gP ps ύl+gP ps όl*256+gP ps ϋl*65536+gP ps ϊl*16777216=v at w;rw[z8e];unfold C_;simp only[ŉ,j4,Gv,M7 e,w,Bd,kM,Z2,gA,kU f,ZD]
theorem z6x(h:ħ<=1000){d s:Â}{x n v:Æ}(g:Ws[d]?=À v)(f:Ws[s]?=À x):JI [st Ŕ a b c ĳ Ŧ,.fz Īk]=À ([st Ŕ a b c (kP öm) (vP öm),.fz Īk],.fz .zO):=by rw[ϖq];rw[z8g];unfold E5;simp only[ŉ,j4,jo,M7 f,pX g,Bd,df,oU,e,oW h]
theorem z6y(h:ħ<=900){d s:Â}{x n v:Æ}(g:Ws[d]?=À v)(f:Ws[s]?=À x):JJ [st Ŕ a b c ĳ Ŧ,.fz īk]=À ([st Ŕ a b c (kP ϥn) (vP ϥn),.fz īk],.fz .zO):=by rw[ϖq];rw[z8h];unfold E6;simp only[ŉ,j4,jo,M7 f,pX g,Bd,df,oU,e,x0g h]
theorem MX{k:Ç}{d s n:D}{F:FM}{S a:M}(e:VS jl ϻb=À Ķ)(b:ĉ jl IK Ąg=À F)(c:∀d,S≠.fz d)(h:F ņo=À (ŀo,.fz .zO)) :pO ņo=À (ŀo,.fz .zO):=by
 rw[HK];unfold IA
 let f:kL S 0 []=.p 0 []:=by
  cases S with
  |fz d=>show Þ rfl (c d)|_=>rfl
 simp only[ŉ,x0s,e,Vi,b,f,h]
#print a
def x0l(n:Â):(0:Æ)<2 ^ n:=ņi Ò
nonrec def TU(k:Ç)(x y:Â):Â:=if k = Ϛa then x &&& y else if k = ϝa then x ||| y else x ^^^ y
inductive Uu:Ç->È
 |and:Uu Ϛa |or:Uu ϝa |xor:Uu Èb
def z4i{k:Ç}(h:Uu k){x y:Â}(b:x<4294967296)(a:y<4294967296):TU k x y<4294967296:=by
 let e:(4294967296:Â)=2 ^ 32:=by decide
 rw[e]at b a ⊢;unfold TU
 split;show Nat.and_lt_two_pow _ a;split;show Řm b a;show Nat.xor_lt_two_pow b a
def NB(z:Â):z%2=(z.testBit 0).toNat:=by rw[Ĕf];rcases àc z with h|h<;>rw[h]<;>rfl
theorem nH:∀(n x y:Â),x<=n->(x ||| y)=Ôj+Õj
 |0,x,y,h=>by
  let:x=0:=by omega
  subst this;simp
 |n+1,x,y,h=>by
  by_cases z:x=0;subst z;simp;let i:=nH n (x/2) (y/2) Ê;let a:(x ||| y)/2=x/2 ||| y/2:=Nat.or_div_two;let d:Ôj/2=x/2 ^^^ y/2:=Nat.xor_div_two;let b:Õj/2=x/2 &&& y/2:=Nat.and_div_two;let e:=NB (x ||| y);let f:=NB Ôj;let g:=NB Õj;rw[ϱh]at e;rw[Nat.testBit_xor]at f;rw[ñc]at g
  let c:((žc 0||ėe 0).toNat:Â)=(žc 0 ^^ ėe 0).toNat+(žc 0&&ėe 0).toNat:=by cases žc 0<;>cases ėe 0<;>rfl
  rw[<-a,<-d,<-b]at i;omega
def z4w(x y:Â):ϵh (x:Æ) (y:Æ)=((x ^^^ y:Â):Æ):=by
 exact ϣa (x:Æ) (y:Æ)-Ĳa (x:Æ) (y:Æ)=_;rw[MM,E_,nH x x y Ď]
 push_cast
 omega
def y0v{k:Ç}(h:Uu k){x y:Â}:T4 [.str k,.int (x:Æ),.int (y:Æ)]=À (Ä,.int (TU k x y:Æ)):=by
 let a:zh ŗb ŗb=À Ķ:=rfl;let e:zh Ŝb ŗb=À û:=rfl;let d:zh Ŝb Ŝb=À Ķ:=rfl;let c:zh Ŭc ŗb=À û:=rfl;let b:zh Ŭc Ŝb=À û:=rfl;rw[z8p];unfold EF TU;cases h with
 |and=>rw[Ï rfl,<-E_];simp only[Ø,a]|or=>rw[Ñ ϸ,Ï rfl,<-MM];simp only[Ø,e,d]|xor=>rw[Ñ ϸ,Ñ ϸ];simp only[Ø,c,b,z4w]
section
variable{Ws:Á Æ}{a b c:Ð}{hk:Á ľ}{hv:Á D}
nonrec def pZ(p:Ð):Æ:=if p then 1 else 0
def dU{x y:Æ}{p:Ð}:Ux Ąh=À (Ä,.tup [.int (Κc (x+y+pZ p)),.bl (decide (4294967296<=x+y+pZ p))]):=by
 let a:decide ((0:Æ)<4294967296)=Ã:=by decide
 rw[z82];unfold Co;cases p<;>simp only[Ø,ϴ,pZ,a,Ňb,ċa,ϋ]
theorem Sj{x y:Æ}{p:Ð}(g:0<=x)(x1:x<4294967296)(i:0<=y)(f:y<4294967296):T9 Ąh=À (Ä,.tup [.int (Κc (x-y-pZ p)),.bl (decide (x-y-pZ p<0))]):=by
 let b:∀(q:Æ),(q=0\/q=1)->(∀τ:zx,pU (tE Ĕ) ń ı [À (Ä,.int x),À (Ä,.int y),À (Ä,.bl p),Å]=À (.int q))->T9 Ąh=À (Ä,.tup [.int (Κc Źj),.bl (decide Òj)]):=λq h d=>by
  let a:=d [];rw[z9m];unfold Ep;generalize pU (tE Ĕ) ń ı=EE at a;by_cases z:x-y-q<0;let c:decide Òj=Ã:=ú z;let e:Źj%4294967296=x-y-q+4294967296:=by omega
  rw[e,c];simp only[Ø,a,c,ϴ];let c:decide Òj=Ä:=Ē z;let e:Źj%4294967296=x-y-q:=by omega
  rw[e,c];simp only[Ø,a,c]
 cases p with
 |Ä=>show b 0 Ť λ_=>rfl|Ã=>show b 1 Ϡb λ_=>rfl
inductive VI:Ç->È
 |add:VI Ňa |addc:VI Ēa |sub:VI ņa |subc:VI đa |test:VI ÿa
def z0g{k:Ç}(h:VI k){x y:Æ}(f:0<=x)(x1:x<4294967296)(g:0<=y)(e:y<4294967296):∃(t:Æ) (u:Ð),ZW Äh=À (Ä,.tup [.int (t%4294967296),.bl u]):=by
 cases h with
 |add=>show{x+y+pZ Ä,decide (4294967296<=x+y+pZ Ä),?_};let b:zh ßb ßb=À Ķ:=rfl;rw[Ig];unfold VM;simp only[Ø,b,dU]|addc=>show{x+y+pZ a,decide (4294967296<=x+y+pZ a),?_};let b:zh Ŷa ßb=À û:=rfl;let c:zh Ŷa Ŷa=À Ķ:=rfl;rw[Ig];unfold VM;simp only[Ø,b,c,dU]|sub=>show{x-y-pZ Ä,decide ľn,?_};let b:zh Ŗb ßb=À û:=rfl;let c:zh Ŗb Ŷa=À û:=rfl;let d:zh Ŗb ŵa=À û:=rfl;rw[Ig];unfold VM;cases a<;>simp only[Ø,b,c,d,Sj f x1 g e]|subc=>show{x-y-pZ a,decide (x-y-pZ a<0),?_};let b:zh ŵa ßb=À û:=rfl;let c:zh ŵa Ŷa=À û:=rfl;let d:zh ŵa ŵa=À Ķ:=rfl;rw[Ig];unfold VM;cases a<;>simp only[Ø,b,c,d,Sj f x1 g e]|test=>show{x-y-pZ Ä,decide ľn,?_};let b:zh Ýb ßb=À û:=rfl;let c:zh Ýb Ŷa=À û:=rfl;let d:zh Ýb ŵa=À û:=rfl;rw[Ig];unfold VM;cases a<;>simp only[Ø,b,c,d,Sj f x1 g e]
theorem z70{d s:Â}{x y w g:Æ}{u:Ð}(i:Ws[d]?=À x)(f:Ws[s]?=À y)(h:ZW [.str ÿa,.int x,.int y,.bl a]=À (Ä,.tup ϸh))(j:vL âc=À (Ä,.int g)) :kC [st Ŕ a b c hk hv,.fz ők]=À ([st Ŕ u (decide ύd) (decide ϑd) hk hv,.fz ők],.fz .zO):=by let e:wp Ýb Ýb=À û:=rfl;rw[iS];unfold MJ;simp only[ŉ,j4,jo,Gw,Sn,pX i,pX f,h,ZB,Y2,Y3,VQ,VR,Vi,J_,OP,O7,BR,Ba,Vo j,VL,e]
#print a
def y2c{x:Æ}{n:Â}(e:0<=x)(f:x<4294967296)(g:n<=31):V5 žl=À (Ä,.tup [.int (x*2 ^ n%4294967296),if n=0 then .zO else .bl (decide (x*2 ^ n/4294967296%2=1))]):=by
 let d:=SD (n:=n) e f Ê;let c:∀y:Æ,vL [.int y,.int 32,.int 1]=À (Ä,.int (y/4294967296%2)):=λy=>Yr (x:=y) (l:=32) (w:=1) Ò
 let b:∀y:Æ,vL [.int y,.int 0,.int 32]=À (Ä,.int (y%4294967296)):=λy=>by let:=Yr (x:=y) (l:=0) (w:=32) Ò;rw[ùe,úe]at this;rw[Ôq]
 rw[z95];unfold EW;rw[Ķq];simp only[Ø,d,ģ,c,b,ϩc,a];let a:decide Ŵf=Ä:=Ē Ê;rw[Ñ z];simp only[Ø,d,ģ,c,b,ϩc,a]
theorem x1s{x:Æ}{n:Â}:V6 žl=À (Ä,.tup [.int (x/2 ^ n),if n=0 then .zO else .bl (decide (x/2 ^ (n-1)%2=1))]):=by
 let b:decide ((0:Æ)<=(n:Æ))=Ã:=ú Şe;rw[z96];unfold EX;rw[Ķq];simp only[Ø,b,ģ,ϩc,a];let a:decide Ŵf=Ä:=Ē Ê
 let p:vL [.int x,.int ((n:Æ)-1),.int 1]=À (Ä,.int (x/2 ^ (n-1)%2)):=by rw[show(n:Æ)-1=((n-1:Â):Æ) by omega];show Yr (l:=n-1) (w:=1) Ò
 rw[Ñ z];simp only[Ø,b,ģ,p,ϩc,a]
theorem w18{w n:Æ}(g:0<=w)(k:w<4294967296)(a:0<=n)(b:n<65536):VB ϳk=À (Ä,.int (w%65536+65536*n)):=by
 let e:=w19 (x:=w) (n:=n) (l:=16) (w:=16) g a b;let j:VB ϳk=À (Ä,.int (ϣa (Ĳa w (ňb ((1*2 ^ 16-1)*2 ^ 16))) (n*2 ^ 16)))\/Ųb:=.inr trivial
 let i:pp n 16=Ã:=by unfold pp;rw[ú (show öj<2 ^ 64 by omega)];rfl
 let h:uA ōd ϳa=À (Δ Új):=by exact(match pp n 16 with|Ã=>À (Ě (n*2 ^ (16:Æ).toNat))|Ä=>Å)=_;rw[i];rfl
 let c:uA ĉo ϳa=À (.int 4294901760):=rfl;let d:uA ýa ϳa=À Ĩi:=rfl
 let f:ϣa Ĳl Új=w%65536+65536*n:=by let e1:ϣa Ĳl Új=w+(n-w/65536%65536)*65536:=e;rw[e1];omega
 rw[z9r];unfold Ev;simp only[yJ,zR,zm,yb,e1,e2,z7,eC,íc,Ļ,øe,Ōb,òc,Ć,śc,Ēb,ßm,ĳh,Ĳh,Ņl,ńl,h,c,d,pW,TY,vX,Þi,Ýi,Ųn,f]
nonrec def Y0(Ă zG:Á D)(n:Â):Á D:=(İb).map λk:Â=>.tup ϐg
theorem x6j:wE œg Ğb=qg Ĝ/\wG œg ϧn Ğb (.tup [ķf n .zO,.int Ϗo,łd n .zO])=Y0 Ă zG Ĝ:=by unfold wE wG;rw[Ñ ĉm,Ñ ĉm];unfold qg Y0;rw[ġf,ça,ça];show{rfl,rfl}
def x6i{Ă zG:Á D}{k n:Â}(h:k<n):zJ (.dic œg ϧn) ĵf=À (.tup ϐg):=by exact(ua ĵf).bind _=_;show iF (g:=λk:Â=>.tup ϐg) (Ąa h)
def x6h{z6 Ă zG:Á D}(j:uO ŧ=À (Ã,.lst Ă))(m:gJ ŧ=À (Ã,.lst zG))(q:Žc=Č)(s:Č<=1000):JZ ŧ=À (Ã,.dic ïg ϧh):=by
 let e:qD ĭh Ĉk=À (p8 zG):=by unfold qD;simp only[Ø,m]
 let{σ',e1,x,y,rfl}:=kX (g:=vO 3 4) (b:=Kw) (λi σ=>∃x y:É Sl,σ=[À (Ä,.lst z6),À (Ä,.lst Ă),À (Ã,.dic (qg i) (Y0 Ă zG i)),x,y])
  (ds:=p8 zG) (σ:=Ĉk) 0 {Å,Å,rfl} λi d σ c o=>by
   let{x,y,rfl}:=o;rw[ĸ]
   let h:i<Č:=by let:=(ĵ c).1;rw[kj]at this;omega
   let a:i<Žc:=by omega
   rw[W4,đ a]at c;cases c;let gt:zG[i]=łd i .zO:=by rw[ő,đ a];rfl
   rw[gt]
   let p:zJ (.lst Ă) Ŵa=À ōo:=by exact um Ă (i:Æ)=_;unfold um;rw[Ï şe,ģ,ő,đ h];rfl
   let{f,r}:=x6j (Ă:=Ă) (zG:=zG) (n:=i);let k:(qg i).length<yX:=by unfold qg;rw[ã,Úa];rw[Ëq]
   let l:ua Ŵa=À śn:=rfl;show{_,[À (Ä,.lst z6),À (Ä,.lst Ă),À (Ã,.dic (qg í) (Y0 Ă zG í)),À (Ä,.int (i:Æ)),À (Ä,łd i .zO)],rfl,.inl ?_,_,_,rfl};rw[<-f,<-r];unfold Kw;simp only[Ø,j_,p,ϴ,l,Ï k]
 rw[ĸ,kj,q]at e1;rw[z9l];unfold Eo;generalize p8 zG=NN at e e1;simp only[Ø,j,e,e1]
theorem y32{T f:D}{e:Æ}{Ws:Á Æ}{ps:Á Ĳ}(o:ĉa=8)(n:∀w∈Ws,0<=w/\w<4294967296)(i:Wz [f]=À (Ã,.dic ĳ Ŧ)) :Uv [.obj à [] [],.fz T,.fz Ăg,.fz ěa,.fz f]=À ([yz T e ěa Þd él 0 0,.fz T,.fz Ăg,.fz ěa,.fz f],.fz .zO):=by let l:∀{x:M}{yB:yU},ge x (Ω Æn) 0 [] [à] śa=À (Ξ (.obj à [śa] [x])):=rfl;let g:∀{a x:M}{yB:yU},ge x (Ω (.obj à [śa] [a])) 0 [] [à] Ĳb=À (Ξ (.obj à Ĭp [a,x])):=rfl;let j:∀{a b x:M}{yB:yU},ge x (Ω (.obj à Ĭp Ϝe)) 0 [] [à] Źb=À (Ξ (.obj à Ÿn [a,b,x])):=rfl;let h:∀{a b c x:M}{yB:yU},ge x (Ω (.obj à Ÿn [a,b,c])) 0 [] [à] ïc=À (Ξ (.obj à ϣe [a,b,c,x])):=rfl;let m:=z3u (T:=T) (e:=e) (fw:=.zO) (fh:=.zO) (Ws:=Ws) (hk:=kP ps) (hv:=vP ps) (fs:=[]) (ms:=[]);let k:∀{a b c d:M}{yB:yU},ji à ŏe 0 [] XW vN Ϭg=YU XW Ĺp Ϭg:=rfl;rw[z7t];unfold Cd;simp only[Ø,xK.eq_1,qb.eq_1,jL.eq_1,we.eq_1,kR.eq_1,hide.eq_1,vF.eq_1,Mb.eq_1,Mb.eq_2,Zb.eq_1,Zb.eq_2,@Option.map_some.{0,0},@List.take_succ_cons.{0},@List.take_zero.{0},l,g,j,h,w1f o n,i,k];simp only[ŉ,m]
theorem x1t{z6 Ă zG:Á D}{b:D}{Ws:Á Æ}{ps:Á Ĳ}(f:uO ŧ=À (Ã,.lst Ă))(c:gJ ŧ=À (Ã,.lst zG))(h:Žc=Č)(a:Č<=1000)(j:ĉa=8)(i:∀w∈Ws,0<=w/\w<4294967296)(g:Wz [b]=À (Ã,.dic ĳ Ŧ)) :gI [.obj à [] [],.fz äj,.fz ěa,.fz b]=À ([yz (.dic ïg ϧh) Č ěa Þd él 0 0,.fz äj,.fz ěa,.fz b],.fz .zO):=by
 let d:kL Æn 0 []=.p 0 []:=rfl
 let e:Gk [.dic ïg ϧh]=À (.int Č):=by exact À (Ě ((ïg).length:Æ))=_;unfold qg;rw[ã,Úa]
 rw[z80];unfold Ck;simp only[ŉ,x6h f c h a,e,d,y32 j i g]
def z48:FS:=
 (yb (e2 uA ń (e2 xU ìb (e1 (hX Ic) ą))))
def V4:Á D->É ä:=FR 1 1 z48
def z49:FS:=
 (yb (Zc (IN (e2 zh Ńb óg) (e2 zh Ńb (eC ġd))) (e2 zh ýn ı)))
def Fo:Á D->É ä:=FR 1 1 z49
def z4b:FS:=
 (zR (ya Ěl
   (yb (eC űc))
   xM)
  (zR (ya (ZA (tE (e2 zh Ńb üf)) (tE (e2 zh Ńb Čh)))
   (yb (zf V4 (Α čh)))
   xM)
  (zR Âp
  (zR (ya (Θa (eC HM))
   œp
   xM)
  (zR (ya (Θa (eC HN))
   (Χc ýn)
   xM)
  (zR (ya (Θa (eC HL))
   œk
   xM)
  ĕj))))))
def t7:Á D->É ä:=FR 1 2 z4b
def z4a:FS:=
 (zR Âp
  (zR (ya (Θa (eC HQ))
   œp
   xM)
  (zR (ya (Θa (eC HR))
   (zm 1 (e2 ńe (e2 ńe ć (zf V4 (Η Ĕe))) (zf V4 šp)))
   xM)
  (zR (ya (X6 (Θa (eC HP)) (ω (zf Fo ĭa)))
   œk
   xM)
  ĕj))))
def qq:Á D->É ä:=FR 1 2 z4a
def Vy{w:Æ}:vL âc=À (Ä,.int (w/2147483648%2)):=by let e:=nO Ëp 1;let a:vL âc=À (Ä,.int (Ĳa Ëp (1*2 ^ 1-1))):=rfl;rw[a,e];rfl
inductive Jf:Ç->È
 |load:Jf ţa |store:Jf Ŝa |loadw:Jf ŝa |storew:Jf Ŕa
inductive qu:D->È
 |sum {k:Ç} {d s:Â} (h:VI k) (hd:d<8) (hs:s<8):qu Ċb
 |bits {k:Ç} {d s:Â} (h:Uu k) (hd:d<8) (hs:s<8):qu Ċb
 |copy {d s:Â} (hd:d<8) (hs:s<8):qu ϕg
 |set {d:Â} {n:Æ} (hd:d<8) (n0:0<=n) (n1:n<65536):qu ϟg
 |high {d:Â} {n:Æ} (hd:d<8) (n0:0<=n) (n1:n<65536):qu ϙg
 |left {d n:Â} (hd:d<8) (hn:n<=31):qu (.tup [.str Ģa,.int (d:Æ),.int (n:Æ)])
 |right {d n:Â} (hd:d<8) (hn:n<=31):qu (.tup [.str Ĺa,.int (d:Æ),.int (n:Æ)])
 |mem {k:Ç} {d s:Â} {n:Æ} (h:Jf k) (hd:d<8) (hs:s<8) (n0:0<=n) (n1:n<256):qu (.tup [.str k,.int (d:Æ),.int (s:Æ),.int n])
nonrec def MO(f:Æ->Ð):É ä->Ð
 |À (Ä,.int u)=>f u|_=>Ä
def eO{f:Æ->Ð}{x:É ä}(h:MO f x=Ã):∃u,x=À (Ä,.int u)/\f u=Ã:=by
 cases x with
 |Å=>cases h|À p=>let{b,d}:=p;cases b<;>cases d<;>first|(cases h;done)|show⟨_,rfl,h⟩
def gS(r:D)(R:Á Â)(o:É Â)(pc pn:Ð):Ð:=MO (λu=>MO (λp=>decide (0<=u)&&(decide (0<=p)&&(R.all (λk=>Ñn k)&&((Ż).all (λk=>Ġf k==decide ϔp)&&((Ġf 8==pc)&&((Ġf 9==pn)&&(Ġf 10==pn))))))) îg) (t7 [r])
structure UP(r:D)(R:Á Â)(o:É Â)(pc pn:Ð)(U Pt:Â):È where
 u:t7 [r]=À (Ä,.int (U:Æ))
 p:qq [r]=À (Ä,.int (Pt:Æ))
 r:∀k∈R,ϳi k=Ã
 o:∀k,k<8->Žf k=decide ϔp
 c:Žf 8=pc
 n:Žf 9=pn
 s:Žf 10=pn
def gz{r:D}{R:Á Â}{o:É Â}{pc pn:Ð}(h:gS r R o pc pn=Ã):∃U Pt,UP r R o pc pn U Pt:=by let{u,e1,h}:=eO h;let{p,e2,h}:=eO h;simp only[Đ,ąf,ŷc]at h;let{d,c,e,b,i,f,g}:=h;refine{Ŋj,p.toNat,by rw[Ϲd d];show e1,by rw[Ϲd c];show e2,λk a=>ãa e k a,λk a=>?_,i,f,g};show şc (ãa b k (Ąa a))
def MP:([Ňa,Ēa,ņa,đa].all λw=>(Ż).all λd=>(Ż).all λs=>gS Ϩe ĸb Ūb Ã Ã)=Ã:=by rw[ãq]
def z5p:((Ż).all λd=>(Ż).all λs=>gS (.tup [.str ÿa,.int (d:Â),.int (s:Â)]) ĸb Å Ã Ã)=Ã:=by rw[ãq]
def GJ:([Ϛa,ϝa,Èb].all λw=>(Ż).all λd=>(Ż).all λs=>gS Ϩe ĸb Ūb Ä Ã)=Ã:=by rw[ãq]
def z5m:((Ż).all λd=>(Ż).all λs=>gS (.tup [.str Ïa,.int (d:Â),.int (s:Â)]) [s] Ūb Ä Ä)=Ã:=by rw[ãq]
def z5o(n:Æ):((Ż).all λd=>gS (.tup [.str ś,.int (d:Â),.int n]) [] Ūb Ä Ä)=Ã:=by rw[ãq]
def z5n(n:Æ):((Ż).all λd=>gS (.tup [.str öb,.int (d:Â),.int n]) [d] Ūb Ä Ä)=Ã:=by rw[ãq]
def eU:((Ϻi).all λw=>(Ż).all λd=>(Čj).all λs=>gS Ϩe [d] Ūb (decide (s≠0)) Ã)=Ã:=by rw[ãq]
def eS(n:Æ):([ţa,ŝa].all λw=>(Ż).all λd=>(Ż).all λs=>gS Ğk [s] Ūb Ä Ä)=Ã:=by rw[ãq]
def eV(n:Æ):([Ŝa,Ŕa].all λw=>(Ż).all λd=>(Ż).all λs=>gS Ğk ĸb Å Ä Ä)=Ã:=by rw[ãq]
def al{α:Type}{l:Á α}{f:α->Ð}(h:l.all f=Ã){x:α}(a:x∈l):f x=Ã:=ãa h x a
nonrec def ĵc(o:É Â)(w:Æ)(Ws:Á Æ):Á Æ:=match o with
 |À d=>Ϫc d w|Å=>Ws
structure bt(r:D)(R:Á Â)(o:É Â)(pc pn:Ð)(V:Â->Æ)(a b c:Ð)(ps:Á Ĳ)(w:Æ)(a' b' c':Ð)(ps':Á Ĳ):È where
 w0:0<=w
 w1:w<4294967296
 P:qS ps'
 l:ps'.length<=ħ+4
 ks:qq [r]=À (Ä,.int 0)\/ps'=ps
 ca:pc=Ä->a'=a
 cb:pn=Ä->b'=b
 cc:pn=Ä->c'=c
 dr:∀Ws:Á Æ,ĉa=8->(∀k∈R,Ws[k]?=À Àd)->pO Äf=À ([st (wI (ĵc o w Ws)) a' b' c' (kP ps') (vP ps'),.fz r],.fz .zO)
def E2(r:D)(R:Á Â)(o:É Â)(pc pn d:Ð)(V:Â->Æ)(ps:Á Ĳ):È:=
 ∃(w:Ð->Æ) (A B C:Ð->Ð) (ps':Á Ĳ),(d=Ä->∀x y,w x=w y/\A x=A y/\B x=B y/\C x=C y)/\∀a b c,bt r R o pc pn V a b c ps (w a) (š pc (A a) a) (š pn (B a) b) (š pn (C a) c) ps'
structure br(r:D)(R:Á Â)(o:É Â)(pc pn uc:Ð):È where
 up:∃U Pt,UP r R o pc pn U Pt
 r8:∀k∈R,k<8
 o8:∀d,o=À d->d<8
 ld:∀D1,kE [D1,r]=À (Ä,.bl Ä)
 st:zh r žb=À û
 tp:uT r=Ã
 pl:CT r
 cu:uc=Ã->∀U:Â,t7 [r]=À (Ä,.int (U:Æ))->ϳi 8=Ã
 ef:∀(V:Â->Æ)(ps:Á Ĳ),(∀k,k<8->0<=V k/\V k<4294967296)->qS ps->ħ<=800->E2 r R o pc pn uc V ps
def GU{r:D}{R:Á Â}{o:É Â}{V:Â->Æ}{ps ps':Á Ĳ}{W:Æ}(h:∀a b c,bt r R o Ä Ä V a b c ps W a b c ps'):E2 r R o Ä Ä Ä V ps:={λ_=>W,λ_=>Ã,λ_=>Ã,λ_=>Ã,ps',λ_ _ _=>{rfl,rfl,rfl,rfl},h}
def IM{r:D}{R:Á Â}{o:É Â}{V:Â->Æ}{ps:Á Ĳ}{W:Æ}(d:0<=W)(e:W<4294967296)(P:qS ps)(h:∀a b c (Ws:Á Æ),ĉa=8->(∀k∈R,Ws[k]?=À Àd)->pO Äf=À ([st ĸm a b c ĳ Ŧ,.fz r],.fz .zO)):E2 r R o Ä Ä Ä V ps:=GU λa b c=>{d,e,P,įa _ _,.inr rfl,λ_=>rfl,λ_=>rfl,λ_=>rfl,h a b c}
def IL{r:D}{R:Á Â}{o:É Â}{pc:Ð}(A:Ð){V:Â->Æ}{ps:Á Ĳ}{W:Æ}(d:0<=W)(e:W<4294967296)(P:qS ps)(h:∀a b c (Ws:Á Æ),ĉa=8->(∀k∈R,Ws[k]?=À Àd)->pO Äf=À ([st ĸm (š pc A a) (decide (W=0)) (decide ņm) ĳ Ŧ,.fz r],.fz .zO)):E2 r R o pc Ã Ä V ps:={λ_=>W,λ_=>A,λ_=>decide (W=0),λ_=>decide ņm,ps,λ_ _ _=>{rfl,rfl,rfl,rfl},λa b c=>{d,e,P,įa _ _,.inr rfl,λz=>z▸rfl,nofun,nofun,h a b c}}
def fQ{r:D}{R:Á Â}{o:É Â}{e:Ð}{V:Â->Æ}{ps:Á Ĳ}{w:Ð->Æ}{u:Ð->Ð}(d:e=Ä->∀x y,w x=w y/\u x=u y)(P:qS ps)(h:∀a,0<=w a/\w a<4294967296/\∀b c (Ws:Á Æ),ĉa=8->(∀k∈R,Ws[k]?=À Àd)->pO Äf=À ([st (wI (ĵc o (w a) Ws)) (u a) (decide (w a=0)) (decide Àm) ĳ Ŧ,.fz r],.fz .zO)):E2 r R o Ã Ã e V ps:={w,u,λa=>decide (w a=0),λa=>decide Àm,ps,λz x y=>{Æg.1,Æg.2,ķ (ψd (v=0)) Æg.1,ķ (ψd (v/2147483648%2=1)) Æg.1},λa b c=>{Ĵc.1,Ĵc.2.1,P,įa _ _,.inr rfl,nofun,nofun,nofun,Ĵc.2.2 b c}}
def O1{s:Â}(a:s<8):∀k∈[s],k<8:=λ_ b=>Ľ b▸a
def MN(r:D):Ð:=MO (λu=>Ñn 8) (t7 [r])
def eQ:([Ēa,đa].all λw=>(Ż).all λd=>(Ż).all λs=>MN Ϩe)=Ã:=by rw[ãq]
def z4y{r:D}(h:MN r=Ã)(U:Â)(e:t7 [r]=À (Ä,.int (U:Æ))):ϳi 8=Ã:=by unfold MN at h;rw[e]at h;show h
def x5n{k:Ç}(h:k = Ňa \/ k = ņa \/ k = ÿa)(x y:Æ)(a b:Ð):ZW Äh=ZW [.str k,.int x,.int y,.bl b]:=by rcases h with rfl|rfl|rfl<;>cases a<;>cases b<;>rfl
def y2w(h:k∈[d,s]):k=d\/k=s:=by rw[ťq]
def lt2{d s:Â}(c:d<8)(b:s<8):∀k∈[d,s],k<8:=λk a=>by rcases y2w a with rfl|rfl<;>assumption
def Y_{d:Â}(a:d<8):∀k,À d=À k->k<8:=λk e=>by cases e;show a
def Ot{ps:Á Ĳ}{x y:Æ}(P:qS ps):qS (vp ps (x%65536) (y%256)):=sR P ŧf Ũf ŧf Ũf
def GY{r:D}(h:qu r):∃R o pc pn uc,br r R o pc pn uc:=by
 cases h with
 |@sum k d s h hd hs=>
  rw[łq]
  let H:∀(uc:Ð),ŏk->∀V:Â->Æ,(∀k,k<8->0<=V k/\V k<4294967296)->∃(w:Ð->Æ) (u:Ð->Ð),(uc=Ä->∀x y,w x=w y/\u x=u y)/\∀a,0<=w a/\w a<4294967296/\ZW [.str k,.int (V d),.int (V s),.bl a]=À (Ä,.tup [.int (w a),.bl (u a)]):=λuc S V hv=>by
   rw[Ųq];let{t,u,l}:=z0g (a:=Ä) h B E K y1;let{L,u',I}:=z0g (a:=Ã) h B E K y1;let q0:=Õb t (show(4294967296:Æ)≠0 by decide);let O:=Ďb t (show(0:Æ)<4294967296 by decide);let r0:=Õb L (show(4294967296:Æ)≠0 by decide);let r1:=Ďb L (show(0:Æ)<4294967296 by decide);show{λa=>š a (L%4294967296) (t%4294967296),λa=>š a u' u,λz=>?_,λa=>by cases a;show{q0,O,l};show{r0,r1,I}};let e:=Ąi ((x5n (S z) (V d) (V s) Ä Ã).trans I);let e1:t%4294967296=L%4294967296:=by injection e with e;injection e with _ e;injection e with e;injection e with e _;injection e
   let e2:u=u':=by injection e with e;injection e with _ e;injection e with e;injection e with _ e;injection e with e _;injection e
   intro x y;cases x<;>cases y<;>show{by simp only[Ϧi,Ũi,e1],by simp only[Ϧi,Ũi,e2]}
  let G:∀uc:Ð,ŏk->(uc=Ã->MN Ċb=Ã)->gS Şk ĸb Ūb Ã Ã=Ã->wp ϻb Ýb=À Ķ->VS jl ϻb=À Ķ->ĉ jl IK Ąg=À kC->(∀D1,kE Ńk=À (Ä,.bl Ä))->zh Ċb žb=À û->CT Ċb->br Ċb ĸb Ūb Ã Ã uc:=λuc S hc ck O Y T q4 Z Q=>{gz ck,lt2 hd hs,Y_ hd,q4,Z,rfl,Q,λz U e=>z4y (hc z) U e,λV i hv P A=>by let{w,u,X,f}:=H uc S V hv;show fQ X P λa=>{ϻc.1,ϻc.2.1,λb c q v j=>kO (k:=k) Y T pC rfl rfl (z6z (b:=b) (c:=c) (hk:=kP i) (hv:=vP i) O Ϩb ϐc ϻc.2.2 Vy)}}
  cases h with
  |add=>show{_,_,_,_,_,G Ä ïn nofun (al (al (al MP (x := Ňa) Ò) p) m) rfl rfl rfl Īd rfl {rfl,rfl}}|addc=>show{_,_,_,_,_,G Ã nofun (λ_=>al (al (al eQ (x := Ēa) Ò) p) m) (Κa (al MP (x := Ēa) Ò)) rfl rfl rfl Īd rfl {rfl,rfl}}|sub=>show{_,_,_,_,_,G Ä (λ_=>.inr Ť) nofun (al (al (al MP (x := ņa) Ò) p) m) rfl rfl rfl Īd rfl {rfl,rfl}}|subc=>show{_,_,_,_,_,G Ã nofun (λ_=>al (al (al eQ (x := đa) Ò) p) m) (Κa (al MP (x := đa) Ò)) rfl rfl rfl Īd rfl {rfl,rfl}}|test=>show{ĸb,Å,Ã,Ã,Ä,gz (al (al z5p p) m),lt2 hd hs,nofun,λ_=>rfl,rfl,rfl,{rfl,rfl},nofun,λV i hv P A=>?_};let{w,u,X,f}:=H Ä (λ_=>.inr Ϡb) V hv;show fQ X P λa=>{ϻc.1,ϻc.2.1,λb c q v j=>kO (k := ÿa) rfl rfl pC rfl rfl (z70 (b:=b) (c:=c) (hk:=kP i) (hv:=vP i) Ϩb ϐc ϻc.2.2 Vy)}
 |@bits k d s h hd hs=>
  rw[łq]
  obtain⟨ck,Y,T,q4,Z,Q⟩:gS Şk ĸb Ūb Ä Ã=Ã/\VS jl ϻb=À Ķ/\ĉ jl IK Ąg=À XZ/\(∀D1,kE Ńk=À (Ä,.bl Ä))/\zh Ċb žb=À û/\CT Ċb:=by
   cases h with
   |and=>show{al (al (al GJ (x := Ϛa) Ò) p) m,rfl,rfl,λ_=>rfl,rfl,rfl,rfl}|or=>show{al (al (al GJ (x := ϝa) Ò) p) m,rfl,rfl,λ_=>rfl,rfl,rfl,rfl}|xor=>show{al (al (al GJ (x := Èb) Ò) p) m,rfl,rfl,λ_=>rfl,rfl,rfl,rfl}
  show{ĸb,À d,Ä,Ã,Ä,gz ck,lt2 hd hs,Y_ hd,q4,Z,rfl,Q,nofun,λV i hv P A=>?_};rw[Ųq];let{J,ex}:=ŋa B;let{N,ey}:=ŋa K;let hx:J<4294967296:=by omega
  let hy:N<4294967296:=by omega
  let C:0<=(TU k J N:Æ):=ŵb _;let F:(TU k J N:Æ)<4294967296:=Int.ofNat_lt.mpr (z4i h hx hy);let l:=y0v h (x:=J) (y:=N);show IL Ã C F P λa b c q v j=>kO (k:=k) Y T pC rfl rfl (z6s (a:=a) (b:=b) (c:=c) (hk:=kP i) (hv:=vP i) (by rw[j d ô,ex]) (by rw[j s ô,ey]) l Vy)
 |@copy d s hd hs=>show{[s],À d,Ä,Ä,Ä,gz (al (al z5m ϝf) (Ąa hs)),O1 hs,Y_ hd,λ_=>rfl,rfl,rfl,{rfl,rfl},nofun,λV i hv P A=>?_};show IM (W:=V s) (ϙp.1) (ϙp.2) P λa b c q v j=>kO (k := Ïa) rfl rfl pC rfl rfl (fM Ê ϐc)|@set d n hd n0 n1=>refine{[],À d,Ä,Ä,Ä,gz (al (z5o n) ϝf),λk hk=>Þ hk ô,Y_ hd,λ_=>rfl,rfl,rfl,{rfl,rfl},nofun,λV i hv P A=>?_};show IM (W:=n) n0 Ê P λa b c q v j=>kO (k := ś) rfl rfl pC rfl rfl (z6w Ê)|@high d n hd n0 n1=>show{[d],À d,Ä,Ä,Ä,gz (al (z5n n) ϝf),O1 hd,Y_ hd,λ_=>rfl,rfl,rfl,{rfl,rfl},nofun,λV i hv P A=>?_};let{B,E}:=hv d hd;show IM (W:=V d%65536+65536*n) Ê Ê P λa b c q v j=>kO (k := öb) rfl rfl pC rfl rfl (z6t Ϩb (w18 B E n0 n1))
 |@left d n hd hn=>refine{[d],À d,decide (n≠0),Ã,Ä,gz (Δe (al eU (x := Ģa) Ò)),O1 hd,Y_ hd,λ_=>rfl,rfl,rfl,{rfl,rfl},nofun,λV i hv P A=>?_};let{B,E}:=hv d hd;let l:=y2c (n:=n) B E hn;let C:0<=V d*2 ^ n%4294967296:=Õb _ Ò;let F:V d*2 ^ n%4294967296<4294967296:=Ďb _ Ò;generalize V d*2 ^ n%4294967296=w at C F l;by_cases z:n=0;rw[Ï z]at l;rw[Ē Żm];show IL Ã C F P λa b c q v j=>kO (k := Ģa) rfl rfl pC rfl rfl (fN (a:=a) (b:=b) (c:=c) (hk:=kP i) (hv:=vP i) Ϩb Ã rfl l Vy);rw[Ñ z]at l;rw[ú z];show IL (decide (V d*2 ^ n/4294967296%2=1)) C F P λa b c q v j=>kO (k := Ģa) rfl rfl pC rfl rfl (fO (a:=a) (b:=b) (c:=c) (hk:=kP i) (hv:=vP i) Ϩb Ã rfl l Vy)
 |@right d n hd hn=>refine{[d],À d,decide (n≠0),Ã,Ä,gz (Δe (al eU (x := Ĺa) Ò)),O1 hd,Y_ hd,λ_=>rfl,rfl,rfl,{rfl,rfl},nofun,λV i hv P A=>?_};let{B,E}:=hv d hd;let l:=x1s (x:=V d) (n:=n);let C:0<=V d/2 ^ n:=ģf B (øa (x0l n));let F:V d/2 ^ n<4294967296:=Ģm (Ϫm _ B) E;generalize V d/2 ^ n=w at C F l;by_cases z:n=0;rw[Ï z]at l;rw[Ē Żm];show IL Ã C F P λa b c q v j=>kO (k := Ĺa) rfl rfl pC rfl rfl (fN (a:=a) (b:=b) (c:=c) (hk:=kP i) (hv:=vP i) Ϩb Ä rfl l Vy);rw[Ñ z]at l;rw[ú z];show IL (decide (V d/2 ^ (n-1)%2=1)) C F P λa b c q v j=>kO (k := Ĺa) rfl rfl pC rfl rfl (fO (a:=a) (b:=b) (c:=c) (hk:=kP i) (hv:=vP i) Ϩb Ä rfl l Vy)
 |@mem k d s n h hd hs n0 n1=>
  rw[łq];let l1:=O1 hs;cases h with
  |load=>refine{[s],À d,Ä,Ä,Ä,gz (Κa (al (eS n) (x := ţa) Ò)),l1,Y_ hd,λ_=>rfl,rfl,rfl,{rfl,rfl},nofun,λV i hv P A=>?_};let g:=Zf ģe ćb;show IM (W:=gP i ģe) g.1 Ê P λa b c q v j=>MX (k := ţa) rfl rfl pC (z6u Ê ϐc)|loadw=>refine{[s],À d,Ä,Ä,Ä,gz (Κa (al (eS n) (x := ŝa) Ò)),l1,Y_ hd,λ_=>rfl,rfl,rfl,{rfl,rfl},nofun,λV i hv P A=>?_};let g0:=Zf îm ćb;let g1:=Zf ím ćb;let g2:=Zf ìm ćb;let g3:=Zf ëm ćb;show IM (W:=gP i îm+gP i ím*256+gP i ìm*65536+gP i ëm*16777216) Ê Ê P λa b c q v j=>MX (k := ŝa) rfl rfl pC (z6v P Ê ϐc)|store=>refine{ĸb,Å,Ä,Ä,Ä,gz (Κa (al (eV n) (x := Ŝa) Ò)),lt2 hd hs,nofun,λ_=>rfl,rfl,rfl,{rfl,rfl},nofun,λV i hv P A=>?_};show GU (W:=0) (ps':=vp i ģe (V d%256)) λa b c=>{by decide,by decide,Ot P,ý Yy (åc Ò _),öp,λ_=>rfl,λ_=>rfl,λ_=>rfl,λq v j=>MX (k := Ŝa) rfl rfl pC (z6x Ê Ϩb ϐc)}|storew=>refine{ĸb,Å,Ä,Ä,Ä,gz (Κa (al (eV n) (x := Ŕa) Ò)),lt2 hd hs,nofun,λ_=>rfl,rfl,rfl,{rfl,rfl},nofun,λV i hv P A=>?_};let lw:(Zv i ģe (V d)).length<=ϰb+4:=ý Yy (õa (ý Yy (õa (ý Yy (õa Yy)))));show GU (W:=0) (ps':=Zv i ģe (V d)) λa b c=>{by decide,by decide,Ot (Ot (Ot (Ot P))),lw,öp,λ_=>rfl,λ_=>rfl,λ_=>rfl,λq v j=>MX (k := Ŕa) rfl rfl pC (z6y Ê Ϩb ϐc)}
nonrec def lt(k:Æ):Ç:={#[97+ϳ]}
def z3l(a:0<=k)(b:k<26):um (Ľb : Ç).cps.toList k=À (97+ϳ):=by
 let h:∀j:Fin 26,um (Ľb : Ç).cps.toList (j.val:Æ)=À (97+j.val):=by rw[Îq]
 let:=h {ϳ,by omega};rw[show(({ϳ,by omega}:Fin 26).val:Æ)=k by exact(ϳ:Æ)=k;omega]at this;rw[Ôq]
def CZ(a:0<=k)(b:k<26):zJ ϝb Ťf=À (.str (lt k)):=by exact(um _ k).bind _=_;rw[z3l a b];rfl
def ŕe(h:ìa+ëa<=100000):xU ûg İj=À (.str že):=by exact(if ìa+ëa<=yX then _ else _)=_;rw[Ï Æh]
theorem B8(a b:Ç):(že).length=ìa+ëa:=Śh
def O9(k:Æ):(lt k).length=1:=rfl
def z3m:(((Ľb : Ç).length:Â):Æ)=26:=by rw[Îq]
def EK:FS:=
 (zR (zm 2 (e2 xU (e2 xU (e2 xU (e2 IQ (zf JP Ãe) (eC (.int 48271))) (e2 VU (eC (.int 104729)) ć)) (e2 VU (eC (.int 7919)) Ϙb)) ń))
  (yb (e2 xE (e2 IQ (e2 xE (e2 Go Ĕ Ĕ) (eC (.int 2147483647))) (eC (.int 2003))) (eC (.int 2147483629)))))
def vh:Á D->É ä:=FR 2 3 EK
def z8u(a x1:D):vh ď=yJ 3 EK ď:=rfl
def y2s{c k l:Æ}{M:Â}(b:4<=M)(f:vW c<=M)(m:0<=k)(i:k<100)(h:0<=l)(j:l<=63):vW (c*48271+104729*k+7919*l+1)<=M+20:=by
 let d:=z4l f;let a:2 ^ 4<=2 ^ M:=đh Ò b;show z4k ?_;rw[Nat.pow_add];generalize 2 ^ M=P at d a;let g:(2:Â) ^ 20=1048576:=by decide
 let e:(2:Â) ^ 4=16:=by decide
 rw[g];rw[e]at a;omega
def Zn{ns:Á Æ}(o:ť<=63)(f:∀m∈ns,vW m<=1048576){k:Æ}(d:0<=k)(g:k<100):∃m:Æ,0<=m/\m<2147483629/\vh ťm=À (Ä,.int m):=by let a:=z5k ns (k:=k) d;let b:=z5j f k;generalize IJ ns k=c at a b;let p:=y2s (M:=1048576) (l:=(ť:Æ)) Ò b d g Ê Ê;let e:decide (vW ϳe+vW ϳe<=134217728)=Ã:=ú Ê;let h:Yl 48271=Ã/\Yl 104729=Ã/\Yl 7919=Ã/\Yl 2003=Ã:={by decide,by decide,by decide,by decide};let n:∀{i j:Æ},xU Ϩ Ŏd=À ťf:=rfl;refine{ϳe*ϳe%2147483647*2003%2147483629,Õb _ Ò,Ďb _ Ò,?_};rw[z8u];unfold EK;simp only[shx,Þi,Ýi,a,ã,n,h,Go,e,ϛb,Int.reduceLT]
theorem Kf{d:D}(h:yk d):Xb [d]=À (Ä,.bl (zl d)):=by let{w,a,b,_}:=Ix h;rw[z8m];unfold EB;rw[Łq]
theorem Yv{z6:Á D}(h:∀d∈z6,yk d):uO ŧ=À (Ã,.lst õh):=by
 let e:=Vm (g:=yA 1) (c:=AU) (e:=z1w) (σ:=ňl) Ėd id (ds:=z6) λd a=>by let b:=Kf ϋj;show{_,rfl,?_,λ_=>rfl};unfold AU;simp only[Ø,b]
 rw[Ĝd]at e;rw[z9j];unfold Em;simp only[Ø,e]
theorem Ke{d:D}(h:yk d):Xa [d]=À (Ä,.bl (xJ d)):=by
 let:∃w,zJ d ű=À Ř/\xV Ř Mm=À (.bl (xJ d)):=by
  cases h with
  |ïa=>show{_,rfl,rfl}|Ϫ h=>let{w,a,b,_,c,_}:=Zt h;show{w,a,by rw[c];show b}
  |w8=>show{_,rfl,rfl}|š t hw hk=>rcases hw with rfl|rfl<;>show{_,rfl,rfl}
 let{w,a,b}:=this;rw[z8l];unfold EA;rw[Łq]
theorem Mu(h:yk d)(a:zl d=Ã):∃t,d=vQ t:=by
 cases h with
 |ïa t=>show{t,rfl}|Ϫ h=>let{_,_,_,z,_}:=Bj (m:=0) Ác;rw[z]at a;cases a
 |w8=>cases a|š t hw hk=>rcases hw with rfl|rfl<;>cases a
def y1r{z6:Á D}(h:∀d∈z6,yk d)(A:ϊa<=1000):∃ks vs,V1 ŧ=À (Ã,.dic ks vs)/\Ō=ē/\∀t,ĉ ks vs ŏd=(śe).map λn:Â=>Ě n:=by
 let{σ',e,ks,vs,p,f,r,c,rfl}:=kX (g:=yA 3) (b:=M_) (λi σ=>∃ks vs p,Ō=ē/\Ō<=i/\(∀t,ĉ ks vs ŏd=((xO t Ŋc).2).map λn:Â=>Ě n)/\σ=[À (Ä,.lst z6),À (Ã,.dic ks vs),À (Ä,.int ((Ŏo).length:Â)),p]) (ds:=z6)
  (σ:=[À (Ä,.lst z6),À (Ã,.dic [] []),À (Ä,.int 0),Å]) 0 {[],[],Å,rfl,Ĭ _,λt=>rfl,rfl} (by
  rintro i v σ m ⟨ks,vs,p,f,r,c,rfl⟩;rw[ĸ]at *;let s:i<ϊa:=(ĵ m).1;let x:z6[i]=v:=(ĵ m).2;let l:Ćg í=Ćg i++[v]:=by rw[Ñd s,x]
  let q:=h v ůj;let k:=Kf q;generalize hn:(Ŏo).length=n;cases hL:zl v with
  |Ã=>
   let{u,rfl}:=Mu q hL;rw[hL]at k;let w:zJ (vQ u) ýa=À (.str u):=rfl;let y:ua (.str u)=À Ğe:=rfl;let j:Ō<yX:=by rw[Ëq]
   let a:(őp).length=n:=by rw[l,ıa,ì,hn];rfl
   let o:(Ūo).length<=i+1:=by
    unfold wE
    split;omega;rw[ì];exact _+1<=_;omega
   show{_,[À (Ä,.lst z6),À (Ã,.dic Ūo (wG ks vs Ğe Æi)),À (Ä,.int (n:Â)),À (Ä,vQ u)],rfl,.inl ?_,wE ks Ğe,wG ks vs Ğe Æi,_,W9 f,o,λt=>?_,by rw[a]}
   .unfold M_;simp only[Ø,k,j_,w,y,Ï j]
   .rw[iJ f,l,Nb,hn,c];by_cases e:u=t
    .rw[Ï Ûp,Ï e];rfl
    .rw[Ñ (λz=>e (Łi z)),Ñ e]
  |Ä=>
   rw[hL]at k
   let a:(őp).length=n+1:=by rw[l,ıa,ì,hn,ăa (by rw[hL];rfl)];rfl
   show{_,[À (Ä,.lst z6),À (Ã,.dic ks vs),À (Ä,.int ((n:Â)+1:Æ)),À (Ä,v)],rfl,.inl ?_,ks,vs,_,f,by omega,λt=>?_,by rw[a];rfl}
   .unfold M_;simp only[Ø,k]
   .rw[l,Nd hL,c])
 rw[ĸ,ŕc]at c;show{ks,vs,?_,f,c};rw[z8q];unfold EG;simp only[Ø,e]
theorem lQ{z6:Á D}(h:∀d∈z6,yk d)(c:ϊa<=1000):∃ks vs,V1 ŧ=À (Ã,.dic ks vs)/\∀t,ĉ ks vs ŏd=(śe).map λn:Â=>Ě n:=by let{ks,vs,a,_,b}:=y1r h c;show{ks,vs,a,b}
def z46:FS:=
 (zR (zm 0 (xv (zC Ϡh (zC (eC ϕf) (Βe (zC (eC Ŷa) (zC (eC Ŗb) (zC (eC ŵa) (zC (eC ŗb) (zC (eC Ŝb) (zC (eC Ŭc) (zC Ĩj (zC óg Ţp)))))))))))))
  (zR (zm 0 (e2 xU ą (xv (Ηd (eC ϖf) (zC (eC ϗf) (zC Ňd (Ηe ťp)))))))
  (yb (e2 xU ą (xv (zC Ϡh (Βe (Ηe (zC Ĩj (Η Ŗb))))))))))
def JT:Á D->É ä:=FR 0 1 z46
def YS:FS:=
 (zR ģk
  (zR Śl
  (zR řl
  (zR Ϟk
  (zR ϻo
  (zR (ya (Κb (Ρ Ϡh (Η ϕf)))
   (οd (eC Ĩi))
   xM)
  (zR (ya (Κb (Ρ óg Ţp))
   (οd (eC ϙb))
   xM)
  (zR (ya (Κb (wP (Ηd (eC ϖf) (Η ϗf))))
   (Δc (zC õb (νc řj øn (e2 xE řj ņb))))
   xM)
  (zR (ya (tE (e2 zh ĺ Ňd))
   (δb śk)
   xM)
  (zR (ya (Κb (Ρ üf (Η ép)))
   (yb (wP (zC ĺ (zC (e2 zJ (xv (zC (eC Űc) (zC (eC Ĕe) šp))) (e2 xE õb ęb)) śk))))
   xM)
  (zR (ya (tE (e2 zh ĺ (eC Ěb)))
   (yb (wP čc))
   xM)
  (Δc Çj))))))))))))
def JR:Á D->É ä:=FR 3 7 YS
def Va(b x1 a:D):JR ϲ=yJ 7 YS ϲ:=rfl
def rG:FA:=ío
def DR:FE:=(ηd (e2 vC (e2 vC ą ìb) (e2 zJ (γa (ϳb Ě âf)) ðb)))
def rH:FA:=(p6 ı ć)
def A9:FE:=(e2 xU (e2 xU (kQ ř kq ðg) (ηd (e2 xU (χa (.int 512)) ðb))) (kQ ř ðg kq))
def EM:FS:=
 (zR (zm 2 (eC ϝb))
  (zR (zm 3 (e2 xE ą ìb))
  (zR (zm 4 (e2 Gj ōn (wO 1 rG Ŷe xc DR)))
  (zR (zm 5 (e2 xE ÿl Īf))
  (zR (zm 4 (kQ ř kq (ku (eC (.int 7)))))
  (vS (wO 1 rH Ŷe xc A9)))))))
def JQ:Á D->É ä:=FR 2 6 EM
def z8w(a x1:D):JQ ď=yJ 6 EM ď:=rfl
def rJ:FA:=ío
def AB:FE:=(zf JR (zC (Τb (e2 xU (e2 xU ć ęb) Ãk)) (zC ř Çj)))
def rK:FA:=(p6 ı Īf)
def AC:FE:=Ãk
def DV:FT:=(tE (e2 zh (e2 zJ Ãk ĥd) (e2 zJ ř ϭc)))
def B1:FS:=(zR (ya âk
     įk
     xM)
    (ya (tE (e2 ļc ϭc ĺ))
     (qJ 8 tS (e2 zJ ðb ϭc))
     xM))
def EN:FS:=
 (zR (zm 3 (e2 xE Şo (e2 xU Ĕ ń)))
  (zR (zm 4 (zf JQ (zC (ψa ũp) (Α Īf))))
  (zR (zm 5 (e2 zJ (xv (zC ęb Ĥe)) (e2 xE (Τb (e2 xU ć Ϡa)) Ϡa)))
  (zR (zm 6 (wO 1 rJ (yA 9) xc AB))
  (zR (qK 8 Ũb)
  (zR (jS rK (yA 7)
   B1)
  (p_ 8)))))))
def T5:Á D->É ä:=FR 3 9 EN
def z8x(b x1 a:D):T5 ϲ=yJ 9 EN ϲ:=rfl
def z66(a b:Ç):(že).cps.toList=Ão++Âo:=çc
def MU(z:Ç)(lo hi:É Æ):(ſn).length<=Ņ:=Ŕe z lo hi
def z67(z:Ç):(ϐa z Å Ÿj).length<=7:=by exact(((ŏh 0).take (Ś Ņ Ņ (À ((7:Â):Æ))-0)).toArray).size<=7;rw[HT.sIx_nat,ĭ,åa];show ý ňp (ý Ĵa ňp)
def y3h{m:Æ}(m0:0<=m){Óc:Æ}(n0:0<=Óc)(n1:Óc<=20):∃N:Á Ç,ŕ=ďd/\ğc/\(∃ln:Â,ln<=100/\∀t∈N,Īb=ln)/\JQ [.int m,.int Óc]=À (Ã,.lst űa):=by
 let H:rG [À (Ä,.int m),À (Ä,.int Óc),À (Ä,.str Ľb),À (Ä,.int ϝe),Å,Å]=À ϴm:=Z4 (n:=m%8) rfl Ê
 obtain⟨ts,e1,E⟩:∃ts:Á Ç,wB Ŷe xc DR ók ϴm=À Ġe/\∀t∈ts,Īb=1:=by
  let{f,P,L}:=K_ (g:=yA 6) (e:=DR) (σ:=ók) (λ_ y=>∃t:Ç,y=.str t/\Īb=1) (ds:=wt (ϝe).toNat) λd G=>by let{i,Q,rfl}:=Su G;let m8:=Ďb m (show 0<8 by decide);let{p,T,O}:=y9q Ě âf (i:=(i:Æ)) şe (show(i:Æ)<7 by omega);let g:decide (0<p)=Ã/\decide ķl=Ã:=(show ∀p∈[(1:Æ),26,676,17576,3,5,7],decide (0<p)=Ã/\decide ķl=Ã by decide) p T;let a:=CZ (k:=m/8/p%26) ŧf Ũf;show{_,.str (lt (m/8/p%26)),rfl,?_,_,rfl,O9 _};unfold DR;generalize ϳb Ě âf=PS at O;simp only[Ø,O,g.1,g.2,a]
  let:∃ts:Á Ç,f=Ĕc Òa/\∀t∈ts,Īb=1:=by
   let h:∀x∈f,∃t:Ç,x=.str t/\Īb=1:=λx hx=>by let{_,_,r}:=Ma L x hx;show r
   clear P L
   induction f with
   |nil=>show{[],rfl,λ_ h=>by cases h}|ñ x f ih=>
    let{t,rfl,l}:=h x ϱ;let{ts,rfl,U}:=ih λy s=>h y Ůp
    show⟨t::ts,rfl,λy s=>by rcases Ğ s with rfl|s;show l;show U y s⟩
  let{ts,rfl,h}:=this;show{ts,P,h}
 let tl:ϥf=(ϝe).toNat:=by
  let:=ķ (λo=>(ūd []).length) e1
  let B:∀{g:FG}{e:FE}{σ:zx}{ds f:Á D},wB g xc e σ ds=À f->ϱb=þ:=λ{g e σ ds}=>by
   induction ds with
   |nil=>intro f h;cases h;rfl|ñ d ds ih=>intro f h;let{σ1,w,h}:=zK (show(ϸb).bind _=À f from h);let{x,h3,h}:=zK (show(Şd).bind _=À f from h);let{ys,R,h}:=zK h;cases h;rw[Ć,Ć,ih R]
  let:=B e1;rw[ã,UL]at this;rw[Ôq]
 let Y:∀{l:Á Ç},(∀t∈l,Īb=1)->(Õa (·.length)).sum=īb:=λ{l}=>by
  induction l with
  |nil=>intro _;rfl|ñ x l ih=>intro h;rw[Ļ,Ļf,ih λy s=>h y Ůp,h x ϱ,Ć];omega
 let e0:("" : Ç).length=0:=rfl;let jn:=y0u (sep := "") (ts:=ts) (by rw[Y E,e0,tl];omega);generalize Ţm "" ts=W0 at jn;obtain⟨W,I⟩:∃W:Ç,W=ϐa W0 Å Ÿj:={_,rfl};let lW:Āj<=7:=by rw[I];show z67 W0
 let u:decide (0<m%8+1)=Ã:=ú Ê;obtain⟨c,q⟩:∃c:Æ,c=m/64%(m%8+1):={_,rfl};let C:rH [À (Ä,.int m),À (Ä,.int Óc),À (Ä,.str Ľb),À (Ä,.int ϝe),À (Ä,.str W),À (Ä,.int c)]=À (wt ďd):=Z4 (n:=Óc) rfl Ê
 let e2:=Zl (g:=yA 6) (e:=A9) (σ:=[À (Ä,.int m),À (Ä,.int Óc),À (Ä,.str Ľb),À (Ä,.int ϝe),À (Ä,.str W),À (Ä,.int c),Å]) êk (ds:=wt ďd) λd G=>by let{i,Q,rfl}:=Su G;let a:=CZ (k:=Ųk%26) Ê Ê;let l1:=MU W Å ďa;let l2:=MU W ďa Å;let l3:=O9 Ĉj;let S:kQ ř kq ðg åk=À (.str çn):=rfl;let Z:kQ ř ðg kq åk=À (.str æn):=rfl;let F:=ŕe (a:=ϐa W Å ďa) (b:=lt Ĉj) Ê;let A:=ŕe (a:=ϐa W Å ďa++lt Ĉj) (b:=ϐa W ďa Å) (by rw[B8];omega);rw[Ýq];unfold A9;simp only[Ø,S,Z,ϴ,a,F,A]
 let w2:(wt ďd).map êk=((Éj).map λj:Â=>ϐa W Å ďa++lt ęh++ϐa W ďa Å).map Òa:=by rw[ϭ,ϭ];rfl
 rw[w2]at e2;refine{(Éj).map λj:Â=>ϐa W Å ďa++lt ęh++ϐa W ďa Å,by rw[ã,Úa],?_,{(çn).length+1+(æn).length,?_,λt E=>?_},?_};show ÿh (Įl (λ{a b} J K hab=>?_) (ůh (n:=ďd)));intro h;let J:=ód J;let K:=ód K;let w:=ķ ĸn h;let X:∀x:Æ,(lt x).cps.toList=[97+x.toNat]:=λ_=>rfl
 simp only[z66,X,Ţ,List.append_cancel_left_eq,Ōb,òc,Ùe]at w;let z1:=Õb ϟh (show(26:Æ)≠0 by decide);let z2:=Õb Ϟh (show(26:Æ)≠0 by decide)
 let B:=Int.emod_eq_emod_iff_emod_sub_eq_zero.mp (show ϟh%26=Ϟh%26 by generalize ϟh%26=x at *;generalize Ϟh%26=y at *;omega)
 rw[Int.add_sub_add_left]at B;clear w z1 z2;omega;let l1:=MU W Å ďa;let l2:=MU W ďa Å;omega;let{j,_,rfl}:=Ϻ E;rw[B8,B8,O9];let v:Mf (.str W0) Å Ÿj=À (.str W):=by rw[I];rfl
 rw[z8w];unfold EM;generalize ϳb Òa (ϳb (λj:Â=>ϐa W Å ďa++lt ęh++ϐa W ďa Å) Éj)=NN at H e1 jn u q v C e2 ⊢;generalize Ĕc Òa=TT at H e1 jn u q v C e2 ⊢;simp only[Ø,H,e1,jn,ϴ,u,<-q,kQ,ku,kq,v,C,e2]
abbrev L9:D:=.lst [.str ś,.str öb,.str Ïa,.str Ňa,.str Ēa,.str ņa,.str đa,.str Ϛa,.str ϝa,.str Èb,.str ÿa,.str Ģa,.str Ĺa,.str ţa,.str Ŝa,.str ŝa,.str Ŕa,.str ļa,.str Ða,.str Ía,.str ŧd,.str ś,.str Ïa,.str Ňa,.str Ða,.str Ía,.str ÿa,.str ņa]
theorem w1e:JT []=À (Ä,L9):=by rfl
def M5(w:Ç):È:=(w = ś \/ w = öb)\/(w = Ģa \/ w = Ĺa)\/(w = ţa \/ w = Ŝa \/ w = ŝa \/ w = Ŕa)\/(w = Ïa \/ w = Ňa \/ w = Ēa \/ w = ņa \/ w = đa \/ w = Ϛa \/ w = ϝa \/ w = Èb \/ w = ÿa)\/w = ļa \/ Ám\/w = ŧd
nonrec def z1k(w:Ç):ĝe (M5 w):=by unfold M5;infer_instance
def w1c:((ϡ 28).all λk:Â=>match zJ L9 ĵf with
  |À Ř=>@decide (M5 w) (z1k w)|_=>Ä)=Ã:=by rw[Îq]
def w1d(a:0<=v)(b:v<28):∃w:Ç,M5 w/\zJ L9 Ϯb=À Ř:=by
 let h:=ãa w1c v.toNat (Ąa Ê);rw[Ϲd a]at h;generalize zJ L9 Ϯb=o at h ⊢
 rw[ìq];show{_,@of_decide_eq_true _ (z1k _) h,rfl};cases h
def BQ{a b i:Æ}(c:0<=i)(d:i<2):∃n,(n=a\/n=b)/\zJ (.lst [.int a,.int b]) Ϩ=À ōd:=by rcases(show i=0\/i=1 by omega)with rfl|rfl;show{a,by simp,rfl};show{b,by simp,rfl}
def U5{n:Â}{b:FS}{ds:Á D}{r:É Fl}{o:Ð}{d:D}(h:b ŋk=r)(e:r=À ϔc):yJ n b ds=À (o,d):=by unfold yJ;rw[h,e];rfl
def vq{f:FE}{σ:zx}{k:Ð}(h:f σ=À Šd):tE f σ=À k:=by unfold tE;rw[h];rfl
def uq{c:FT}{a b:FS}{σ:zx}(h:c σ=À Ä):zR (ya c a xM) b σ=b σ:=tW ((y0a h).trans rfl)
def TW{c:FT}{a b f:FS}{σ:zx}{o:Ð}{d:D}(h:c σ=À Ã)(e:a σ=À ϔc):zR (ya c a f) b σ=À ϔc:=x3w ((y0b h).trans e)
def x1w{N:Á Ç}(R:N≠[]){m:Æ}(X:0<=m){mn:Æ}(U:mn=3\/mn=8):∃r,pQ N r/\JR [.int m,.lst űa,.int mn]=À (Ä,r):=by
 let{w,c,x}:=w1d (v:=m%28) Ê Ê;let I:=w1e;let S:0<ŕ:=Ńl R;let B:decide (0<mn)=Ã:=ú Ê;obtain⟨q,K⟩:∃q:Æ,q=m/28:={_,rfl};let l:=Õb q (show mn≠0 by omega);let Q:=Ďb q (show 0<mn by omega);let s:=Õb (q/8) (show mn≠0 by omega);let O:=Ďb (q/8) (show 0<mn by omega);obtain⟨f,E⟩:∃z:Æ,z=q%mn:={_,rfl};obtain⟨two,H⟩:∃z:Æ,z=q/8%mn:={_,rfl};rw[<-E]at l Q;rw[<-H]at s O
 have ϓe:∀yB:FS,zR ģk
  (zR Śl
  (zR řl
  (zR Ϟk
  (zR ϻo yB)))) [À (Ä,.int m),À (Ä,.lst űa),À (Ä,.int mn),Å,Å,Å,Å]=yB [À (Ä,.int q),À (Ä,.lst űa),À (Ä,.int mn),À (Ä,.str w),À (Ä,.int f),À (Ä,.int two),À (Ä,.int Ŕg)]:=λyB=>by
  generalize ĳc Òa=NN at *
  rw[tW (σ':=[À (Ä,.int m),À (Ä,.lst NN),À (Ä,.int mn),À (Ä,.str w),Å,Å,Å]) (by generalize L9=WD at I x ⊢;simp only[Ø,I,x])]
  rw[tW (σ':=[À (Ä,.int q),À (Ä,.lst NN),À (Ä,.int mn),À (Ä,.str w),Å,Å,Å]) (by simp only[Ø,<-K])];rw[tW (σ':=[À (Ä,.int q),À (Ä,.lst NN),À (Ä,.int mn),À (Ä,.str w),À (Ä,.int f),Å,Å]) (by simp only[Ø,B,<-E])];rw[tW (σ':=[À (Ä,.int q),À (Ä,.lst NN),À (Ä,.int mn),À (Ä,.str w),À (Ä,.int f),À (Ä,.int two),Å]) (by simp only[Ø,B,<-H])];rw[tW (σ':=[À (Ä,.int q),À (Ä,.lst NN),À (Ä,.int mn),À (Ä,.str w),À (Ä,.int f),À (Ä,.int two),À (Ä,.int Ŕg)]) Ćm]
 let nm:∃t∈N,zJ ïp (Δ Żh)=À ťb:=by
  let J:=Õb Ŕg (show(ŕ:Æ)≠0 by omega);let W:=Ďb Ŕg (show 0<(ŕ:Æ) by omega);let C:(Żh).toNat<ŕ:=by omega
  show{N[(Żh).toNat],ŋb C,jH J (by rw[ė,đ C];rfl)}
 let{t,y,F}:=nm;let G:decide ϫn=Ã:=ú Ê;rcases c with c|c|c|c|c|c|c;let{n,A,o}:=BQ (a:=q/64%65536) (b:=q/64%3) (i:=q/32%2) Ê Ê;let d:xV Ř Ļc=À Ķ:=by rcases c with rfl|rfl<;>rfl
 refine{_,.plain (.Wo c l Ê (show 0<=n by omega) Ê),?_};rw[Ïq];show TW (vq d) ĉh;let{n,A,o}:=BQ (a:=q/64%32) (b:=q/64%3) (i:=q/32%2) Ê Ê;let d:xV Ř Ļc=À û:=by rcases c with rfl|rfl<;>rfl
 let e:xV Ř Ïd=À Ķ:=by rcases c with rfl|rfl<;>rfl
 refine{_,.plain (.Wp c l Ê (show 0<=n by omega) Ê),?_};rw[Ïq];show(Ĥd).trans (TW (vq e) ĉh);let{n,A,o}:=BQ (a:=q/64%256) (b:=q/64%4) (i:=q/32%2) Ê Ê;let d:xV Ř Ļc=À û:=by rcases c with rfl|rfl|rfl|rfl<;>rfl
 let e:xV Ř Ïd=À û:=by rcases c with rfl|rfl|rfl|rfl<;>rfl
 let g:xV Ř ϕd=À Ķ:=by rcases c with rfl|rfl|rfl|rfl<;>rfl
 refine{_,.plain (.mem c l Ê s Ê (show 0<=n by omega) Ê),?_};rw[Ïq];show(Ĥd).trans ((Ůo).trans (TW èj ĉh));let k:xV Ř Ļc=À û/\xV Ř Ïd=À û/\xV Ř ϕd=À û/\zh Ř ĕb=À û/\xV Ř Ðh=À û/\zh Ř Ěb=À û:=by rcases c with rfl|rfl|rfl|rfl|rfl|rfl|rfl|rfl|rfl<;>show{rfl,rfl,rfl,rfl,rfl,rfl}
 let{d,e,g,j,p,u}:=k;refine{_,.plain (.two c l Ê s Ê),?_};rw[Ïq];show(Ĥd).trans (Θc ((ŭo).trans ((uq (vq u)).trans rfl)));subst c;let k:xV ĕb Ļc=À û/\xV ĕb Ïd=À û/\xV ĕb ϕd=À û/\zh ĕb ĕb=À Ķ:={rfl,rfl,rfl,rfl};let{d,e,g,j}:=k;show{_,.w8 y,?_};rw[Ïq];show(Ĥd).trans ((Ůo).trans ((uq èj).trans (TW (vq j) (by simp only[Ø,ã,G,F]))));let k:xV Ř Ļc=À û/\xV Ř Ïd=À û/\xV Ř ϕd=À û/\zh Ř ĕb=À û/\xV Ř Ðh=À Ķ:=by rcases c with rfl|rfl<;>show{rfl,rfl,rfl,rfl,rfl}
 let{d,e,g,j,p}:=k
 obtain⟨T,L,P⟩:∃k:Ç,Äl/\zJ (.lst [.str Âa,.str èa,.str ía]) (Δ (two%3))=À ϻb:=by rcases(show two%3=0\/two%3=1\/two%3=2 by omega)with h|h|h<;>rw[h];show{Âa,by simp,rfl};show{èa,by simp,rfl};show{ía,by simp,rfl}
 show{_,.cond c L y,?_};rw[Ïq];show(Ĥd).trans (Θc (TW (vq p) (by simp only[Ø,ã,G,F,P])));subst c;let k:xV Ěb Ļc=À û/\xV Ěb Ïd=À û/\xV Ěb ϕd=À û/\zh Ěb ĕb=À û/\xV Ěb Ðh=À û/\zh Ěb Ěb=À Ķ:={rfl,rfl,rfl,rfl,rfl,rfl};let{d,e,g,j,p,u}:=k;show{_,.plain .stop,?_};rw[Ïq];show(Ĥd).trans (Θc ((ŭo).trans (TW (vq u) rfl)))
structure PC(z6:Á D):È where
 it:∀d∈z6,yk d
 nd:(ϣf zl).Nodup
 tg:∀d∈z6,xJ d=Ã->∃(t:Ç) (p:Â),zJ d Ųc=À ťb/\čd.2=À p
 ln:ϊa<=100
def Yi(t:Ç)(d:D):Ð:=xh (lS d) ťb
def y1u{N:Á Ç}{d:D}(h:pQ N d)(t:Ç):∃x,zJ d Ųc=À x/\zh x ťb=À (.bl (Yi t d)):=by
 cases h with
 |Ϫ h=>cases h<;>show{_,rfl,rfl}|w8 ht=>show{_,rfl,rfl}|š hw hk ht=>show{_,rfl,rfl}
def x1v{N:Á Ç}{d:D}(h:pQ N d)(a:xJ d=Ã):∃t∈N,zJ d Ųc=À ťb/\Yi t d=Ã:=by
 cases h with
 |Ϫ h=>let{_,_,_,_,c,_}:=Zt h;rw[c]at a;cases a
 |w8 ht=>rename_i t;show{t,ht,rfl,ėb t}|š hw hk ht=>rename_i t;show{t,ht,rfl,ėb t}
structure qU(N:Á Ç)(R:Á D)(a k:Â)(L:Á D):È where
 it:∀d∈L,dG N d
 rs:ÿc Ėd=R.take a
 lb:(ĉj).Sublist ((N.take k).map vQ)
 pl:∀j t,j<k->N[j]?=À t->(∃r∈R,Yi t r=Ã)->Ϲa.2=À j
 ln:ϟ<=a+k
def lO{t u:Ç}(h:vQ t=vQ u):t=u:=by
 unfold vQ at h;injection h with h
 injection h with _ h
 injection h with h _
 injection h
def qU.Lm{N:Á Ç}{R L:Á D}{k:Â}{t:Ç}(b:ğc)(S:qU N R k k L)(a:N[k]?=À t)(hk:k<=ġa):qU N R k Ĩ (L++[vQ t]) where
 it d hd:=(ύ hd).elim (S.it d) λhd=>.inr {t,Ϸ a,Ľ hd}
 rs:=by rw[ıa,Æd];show Œ _
 lb:=by rw[ıa,Ŕh,a,ça];show S.lb.append (List.Sublist.refl _)
 pl j u hj hu hr:=by rw[Nb];by_cases e:t=u;let:=(ŗh (ĵ hu).1 b).mp ((hu.trans (ķ À Ůd)).trans a.symm);rw[Ï e,Æd,åa,this,ϥa hk];rw[Ñ e];show S.pl j u (Āf (ŉb hj) λz=>e (Ϣ ın)) hu hr
 ln:=by rw[ì];show õa S.ln
def qU.no{N:Á Ç}{R L:Á D}{k:Â}{t:Ç}(S:qU N R k k L)(a:N[k]?=À t)(h:¬∃r∈R,Yi t r=Ã):qU N R k Ĩ L where
 it:=S.it
 rs:=Æd
 lb:=by rw[Ŕh,ça];show S.lb.trans (List.sublist_append_left ..)
 pl j u hj hu hr:=S.pl j u (Āf (ŉb hj) λz=>h (Ϣ ın▸hr)) hu hr
 ln:=ϊb S.ln
def qU.row{N:Á Ç}{R L:Á D}{k:Â}{r:D}(S:qU N R k Ĩ L)(f:R[k]?=À r)(c:pQ N r):qU N R Ĩ Ĩ (L++[r]):=by let b:=(P6 c).2;show{λd a=>(ύ a).elim (S.it d) λa=>.inl (Ľ a▸c),?_,?_,λj u g e h=>(Nd b).trans (S.pl j u g e h),?_};rw[ıa,Æd,ăa (by rw[b];rfl),Ŕh,f];rfl;rw[ıa,óa (by rw[b];decide),Øe,Œ];show S.lb;rw[ì,Nat.add_right_comm];show õa S.ln
def qU.fin{N:Á Ç}{R L:Á D}{k:Â}(S:qU N R k Ĩ L)(h:ġa<=k):qU N R Ĩ Ĩ L where
 it:=S.it
 rs:=by rw[Æd,ãc h,ãc (ϊb h)]
 lb:=S.lb
 pl:=S.pl
 ln:=by let:=S.ln;omega
nonrec def pE(s:D)(f m ct:Æ)(N:Á D)(mn:Æ)(R:Á D)(x7:É Sl)(L:Á D):zx:=[À (Ä,s),À (Ä,.int f),À (Ä,.int m),À (Ä,.int ct),À (Ä,.lst N),À (Ä,.int mn),À (Ä,.lst R),x7,À (Ã,.lst L)]
theorem y1p{s:D}{f m c ct mn:Æ}{N:Á Ç}{R L:Á D}{i:Â}(y:ğc)(w:∀ r∈R,pQ N r)(A:ŕ=ġa+1)(rl:ġa≤14)(u:vh Ĭn=À (Ä,.int c))(hi:i<ġa+1)(S:qU N R i i L):∃ L',qU N R i í L'∧ya âk įk
     xM ël=À ϙk:=by
 obtain⟨t,n⟩:∃t,N[i]?=À t:={_,đ Ê};let l:zJ ïp Ŵa=À ťb:=jH şe (by rw[ģ,ė,n];rfl)
 let o:=Vm (g:=yA 9) (c:=DV) (e:=AC) (σ:=[À (Ä,s),À (Ä,.int f),À (Ä,.int m),À (Ä,.int ct),À (Ä,.lst űa),À (Ä,.int mn),À (Ä,.lst R),À (Ä,.int (i:Æ)),À (Ã,.lst L),Å]) (Yi t) id (ds:=R) λd z=>by let{x,q,v}:=y1u (w d z) t;show{_,rfl,?_,λ_=>rfl};unfold DV;generalize ĳc Òa=NN at q l v ⊢;simp only[Ø,q,l,v]
 rw[Ĝd]at o;let j:=BH Ţh;let b:=Xp (L:=L) (r:=vQ t) (by let:=S.ln;omega);let p:=S.Lm y n (ŉb hi)
 let a:(Ţh).isEmpty=Ã->¬∃r∈R,Yi t r=Ã:=λh ⟨r,C,e⟩=>by let:=éd {C,e};rw[List.isEmpty_iff.mp h]at this;show ϝ this
 let B:=λh=>S.no n (a h)
 unfold vQ at b p;unfold pE;clear a y w A rl n;generalize ĳc Òa=NN at *;cases hE:(Ţh).isEmpty with
 |Ä=>
  rw[hE]at j;show{_,p,?_};simp only[Ø,o,j,l,b]
 |Ã=>
  rw[hE]at j;by_cases hc:c/2%5=(i:Æ)
  .let k:=ib hc;show{_,p,?_};simp only[Ø,o,j,ϴ,u,k,l,b]
  .let k:=ic hc;show{_,B hE,?_};simp only[Ø,o,j,ϴ,u,k]
theorem x7w{s:D}{f m c ct mn:Æ}{N:Á Ç}{R L:Á D}{i:Â}(k:ğc)(e:∀r∈R,pQ N r)(o:ŕ=ġa+1)(rl:ġa<=14)(n:vh Ĭn=À (Ä,.int c))(t:ct=(ġa:Æ))(hi:i<ġa+1)(S:qU N R i i L):∃L',qU N R í í L'/\B1 ël=À ϙk:=by let{p,g,e1}:=y1p (m:=m) (ct:=ct) (mn:=mn) k e o rl n hi S;let q:=g.ln;unfold B1;rcases Ĕd i ġa with h|h;let a:decide Đo=Ã:=ú Ê;let j:=đ h;let l:=g.row j (e _ (ŋb h));let b:zJ (.lst R) Ŵa=À R[i]:=jH şe j;let d:=Xp (L:=p) (r:=R[i]) Ê;show{_,l,(tW e1).trans ?_};clear e1 l j e k;generalize R[i]=RI at a b d ⊢;generalize ĳc Òa=NN at a b d ⊢;unfold pE;simp only[Ø,a,b,d];let a:decide Đo=Ä:=Ē Ê;show{_,g.fin h,(tW e1).trans ?_};clear e1 e k;generalize ĳc Òa=NN at a ⊢;unfold pE;simp only[Ø,a]
theorem x04{ns:Á Æ}(A:ť<=63)(x:∀m∈ns,vW m<=1048576){first Īa:Æ}(f0:0<=first)(f1:first<=40)(m0:0<=Īa)(m1:Īa<=14) :∃(N:Á Ç) (R z6:Á D),Ïl/\ŕ=ġa+1/\ğc/\(∀r∈R,pQ N r)/\PC z6/\ϣf Ėd=R/\ϊa<=40/\T5 ϲk=À (Ã,.lst z6)/\(∃ln:Â,∀t∈N,Īb=ln)/\∀t,vQ t∈z6->t∈N:=by
 let{a,a0,a1,P}:=Zn A x (k:=first) f0 Ê;let{b,b0,b1,G}:=Zn A x (k:=first+1) Ê Ê;let{c,c0,c1,w}:=Zn A x (k:=first+2) Ê Ê
 let em:∀i:Â,i<20->∃m:Æ,0<=m/\vh [.lst Ϲ,.int (first+3+(i:Æ))]=À (Ä,.int m):=λi Q=>by let{m,C,_,e}:=Zn A x (k:=first+3+(i:Æ)) Ê Ê;show{m,C,e}
 generalize όd Ϲ=s at P G w em ⊢;let U:decide (0<Īa+1)=Ã:=ú Ê;obtain⟨ct,l⟩:∃z:Æ,z=a%(Īa+1):={_,rfl};let H:0<=ct:=by rw[l];show Õb _ Ê
 let ct1:ct<Īa+1:=by rw[l];show Ďb _ Ê
 let{N,Y,F,q,Z}:=y3h b0 (Óc:=ct+1) Ê Ê;let nn:N≠[]:=λz=>by rw[z]at Y;simp at Y;omega
 let{mn,J,p}:=BQ (a:=3) (b:=8) (i:=c%2) Ê Ê;let r1:rJ [À (Ä,s),À (Ä,.int first),À (Ä,.int Īa),À (Ä,.int ct),À (Ä,.lst űa),À (Ä,.int mn),Å,Å,Å]=À (wt ŀd):=Z4 (n:=ct) rfl Ê
 let{R,e1,W}:=K_ (g:=yA 9) (e:=AB) (σ:=[À (Ä,s),À (Ä,.int first),À (Ä,.int Īa),À (Ä,.int ct),À (Ä,.lst űa),À (Ä,.int mn),Å,Å,Å,Å]) (λ_ y=>pQ N y) (ds:=wt ŀd) λd o=>by let{i,Q,rfl}:=Su o;let{m,C,e}:=em i Ê;let{r,E,er}:=x1w nn C J;show{_,r,rfl,?_,E};unfold AB;generalize ĳc Òa=NN at e er ⊢;simp only[Ø,ϴ,e,er]
 have rl:ġa=ŀd:=by rw[<-z73 W,UL]
 let hR:∀r∈R,pQ N r:=λr E=>by let{_,_,h}:=Ma W r E;show h
 let X:rK (pE s first Īa ct űa mn R Å [])=À (wt (ŀd+1)):=by let:=Z4 (f:=e2 xU ĺ ń) (τ:=pE s first Īa ct űa mn R Å []) (n:=ct+1) rfl Ê;rw[show(ct+1).toNat=ŀd+1 from Int.toNat_add_nat H 1]at this;rw[Ôq]
 let{σ',e3,L,O,S,rfl}:=kX (g:=yA 7) (b:=B1) (λi σ=>∃L O,qU N R i i L/\σ=pE s first Īa ct űa mn R O L) (ds:=wt (ŀd+1)) (σ:=pE s first Īa ct űa mn R Å []) 0 {[],Å,{(λ_ h=>(Śd).elim),List.take_zero.symm,List.nil_sublist _,(λj _ h=>Þ h ëd),Ĭ _},rfl} (by rintro i v σ hv ⟨L,O,S,rfl⟩;let{Q,rfl}:=UK hv;rw[ĸ]at *;let{L',S',e}:=x7w (m:=Īa) (mn:=mn) (ct:=ct) F hR Ê Ê w Ê Ê S;show{_,_,rfl,.inl e,L',_,S',rfl})
 rw[UL,ĸ]at S;let ln:=S.ln;let B:(ĉj).Nodup:=(řh vQ (λ_ _ h e=>h (lO e)) (F.sublist Åj)).sublist S.lb;refine{N,R,L,by omega,by omega,F,hR,{λd o=>y0l (S.it d o),B,λd o T=>?_,by omega},by rw[Æd,ãc Ê],by omega,?_,?_,λt K=>?_};rcases S.it d o with h|⟨t,_,rfl⟩;let{t,K,e,li}:=x1v h T;let{j,I,ej}:=ϸd K
 let dR:d∈R:=by
  let:d∈ÿc λd=>!zl d:=éd {o,by rw[(P6 h).2];rfl}
  rw[Æd]at this;show åd this
 show{t,j,e,S.pl j t Ê (by rw[đ I,ej]) {d,dR,li}};cases T;rw[z8x];unfold EN;unfold pE at *;generalize ĳc Òa=NN at P U l G Z w p r1 e1 X e3 ⊢;simp only[Ø,P,ϴ,U,<-l,G,Z,w,p,r1,e1,X,e3];let{ln,_,h}:=q;show{ln,h};let{u,hu,e}:=Ϻ (S.lb.subset (éd {K,rfl}));show lO e▸åd hu
def x03{ns:Á Æ}(k:ť<=63)(j:∀m∈ns,vW m<=1048576){first Īa:Æ}(i:0<=first)(n:first<=40)(o:0<=Īa)(l:Īa<=14) :∃(N:Á Ç) (R z6:Á D),Ïl/\ŕ=ġa+1/\ğc/\(∀r∈R,pQ N r)/\PC z6/\ϣf Ėd=R/\ϊa<=40/\T5 ϲk=À (Ã,.lst z6):=by let{N,R,z6,a,b,c,d,e,f,g,h,_}:=x04 k j i n o l;show{N,R,z6,a,b,c,d,e,f,g,h}
def z1r:FE:=ć
def AN:FT:=(tE (e2 wp Ęb Đe))
def EQ:FS:=
 (vS (wO 1 ϵb Âb AN z1r))
def V2:Á D->É ä:=FR 1 1 EQ
def z8z(a:D):V2 [a]=yJ 1 EQ [a]:=rfl
def y21{z6:Á D}(h:∀d∈z6,yk d):V2 ŧ=À (Ã,.lst õh):=by
 let e:=Vm (g:=yA 1) (c:=AN) (e:=z1r) (σ:=ňl) Ėd id (ds:=z6) λd f=>by let{w,a,b,_}:=Ix (h d f);let b:=y3n b;show{_,rfl,?_,λ_=>rfl};unfold AN;rw[Łq]
 rw[Ĝd]at e;rw[z8z];unfold EQ;simp only[Ø,e]
nonrec def zN(a:Á Â):Á D:=Ìc λi:Â=>Ě i
theorem lJ:∀qs:Á Â,Zk (ħa λi:Â=>ό üd)=À (ħa λi:Â=>Į (i:Æ),ħa λ_=>Ñb Ã)
 | []=>rfl|a::qs=>by exact(ua çe).bind _=_;exact(Zk (ħa λi:Â=>ό üd)).bind _=_;rw[lJ qs];rfl
theorem Iq(n:Â):∀qs:Á Â,yx (ħa λi:Â=>Į (i:Æ)) Ğb=decide (n∈qs)
 | []=>rfl|a::qs=>by exact(decide ((Į (a:Æ):Sum Æ Ç)=.inl (n:Æ))||yx (ħa λi:Â=>Į (i:Æ)) Ğb)=_;rw[Iq n qs];by_cases h:a=n;subst h;rw[ú (p:=(Į (a:Æ):Sum Æ Ç)=.inl (a:Æ)) rfl,ú ϱ];rfl;rw[Ē (p:=(Į (a:Æ):Sum Æ Ç)=.inl (n:Æ)) (λe=>h (by let:=õc e;omega)),ųn];show ëf {λz=>ŏ _ z,λz=>?_};rcases Ğ z with z|z;show Þ įb h;show z
def fH(a:Á Â):∃K V,YX [.lst (Ìc λi:Â=>ό üd)]=À Čc/\∀n:Â,yx K Ğb=decide (n∈a):=by show{Ēk.1,Ēk.2,?_,λn=>?_};exact(Zk _).bind _=_;rw[lJ];rfl;rw[KY ô,Iq];rfl
nonrec def BK:É ä->Ð
 |À (Ä,.int u)=>decide (0<=u/\u<2048)|_=>Ä
def Zq(r:D):Ð:=BK (t7 [r])&&BK îg
def w0f:Zq žb=Ã:=by rw[Îq]
def w0b:∀n:Æ,((ĭp).all λw=>(Ż).all λd=>Zq Ϙk)=Ã:=λn=>by rw[ãq]
def w0g:(Χd (Ķk) (Ż) (Ż))=Ã:=by rw[ãq]
def w0e:(Χd (Ϻi) (Ż) Čj)=Ã:=by rw[ãq]
def w0d:∀n:Æ,((Ťm).all λw=>(Ż).all λd=>(Ż).all λs=>Zq řk)=Ã:=λn=>by rw[ãq]
def w0c:∀t:Ç,Zq Ýc=Ã:=λn=>by rw[ãq]
def w0a:∀t:Ç,((Įp).all λw=>[Âa,èa,ía].all λk=>Zq şk)=Ã:=λn=>by rw[ãq]
def n4{o:É ä}(h:BK o=Ã):∃u:Â,u<2048/\o=À (Ä,.int u):=by
 unfold BK at h
 rw[ìq];rename_i u;let:=ţ h;show{Ŋj,by omega,by rw[Ϲd this.1]};cases h
def į{α:Type}{l:Á α}{f:α->Ð}(h:l.all f=Ã){x:α}(a:x∈l):f x=Ã:=ãa h x a
def Vt{d:Æ}{n:Â}(a:0<=d)(b:d<n):∃k∈ϡ n,d=(k:Â):={d.toNat,Ąa Ê,by omega}
def y0m{f:D->Ð}(m:f žb=Ã)(i:∀n:Æ,((ĭp).all λw=>(Ż).all λd=>f Ϙk)=Ã)(c:(Ψd (Ķk) (Ż) (Ż))=Ã)(l:(Ψd (Ϻi) (Ż) Čj)=Ã)(g:∀n:Æ,((Ťm).all λw=>(Ż).all λd=>(Ż).all λs=>f řk)=Ã)(o:∀t:Ç,f Ýc=Ã)(e:∀t:Ç,((Įp).all λw=>[Âa,èa,ía].all λk=>f şk)=Ã){r:D}(h:yk r)(p:zl r=Ä):f r=Ã:=by
 cases h with
 |ïa t=>cases p|Ϫ h=>
  cases h with
  |Ϡ=>show m|Wo hw d0 d1 n0 n1=>let{k,a,rfl}:=Vt (n:=8) d0 d1;rcases hw with rfl|rfl;show į (į (i _) (x := ś) Ò) a;show į (į (i _) (x := öb) Ò) a
  |two hw d0 d1 s0 s1=>let{k,a,rfl}:=Vt (n:=8) d0 d1;let{j,b,rfl}:=Vt (n:=8) s0 s1;rcases hw with rfl|rfl|rfl|rfl|rfl|rfl|rfl|rfl|rfl;show į (Μ (į c (x := Ïa) Ò)) b;show į (Μ (į c (x := Ňa) Ò)) b;show į (Μ (į c (x := Ēa) Ò)) b;show į (Μ (į c (x := ņa) Ò)) b;show į (Μ (į c (x := đa) Ò)) b;show į (Μ (į c (x := Ϛa) Ò)) b;show į (Μ (į c (x := ϝa) Ò)) b;show į (Μ (į c (x := Èb) Ò)) b;show į (Μ (į c (x := ÿa) Ò)) b
  |Wp hw d0 d1 n0 n1=>let{k,a,rfl}:=Vt (n:=8) d0 d1;let{j,b,rfl}:=Vt (n:=32) n0 n1;rcases hw with rfl|rfl;show į (Μ (į l (x := Ģa) Ò)) b;show į (Μ (į l (x := Ĺa) Ò)) b
  |mem hw d0 d1 s0 s1 n0 n1=>let{k,a,rfl}:=Vt (n:=8) d0 d1;let{j,b,rfl}:=Vt (n:=8) s0 s1;rcases hw with rfl|rfl|rfl|rfl;show į (Μ (į ϟe (x := ţa) Ò)) b;show į (Μ (į ϟe (x := Ŝa) Ò)) b;show į (Μ (į ϟe (x := ŝa) Ò)) b;show į (Μ (į ϟe (x := Ŕa) Ò)) b
 |w8 t=>show o t|š t hw a=>rcases hw with rfl|rfl<;>rcases a with rfl|rfl|rfl;show į Îh (x := Âa) Ò;show į Îh (x := èa) Ò;show į Îh (x := ía) Ò;show į Ïh (x := Âa) Ò;show į Ïh (x := èa) Ò;show į Ïh (x := ía) Ò
def z11{r:D}(h:yk r)(a:zl r=Ä):Zq r=Ã:=y0m w0f w0b w0g w0e w0d w0c w0a h a
nonrec def Vv:É ä->Â
 |À (_,.int u)=>Ŋj|_=>0
def w0h{r:D}(h:yk r)(b:zl r=Ä):t7 [r]=À (Ä,.int (Vv (t7 [r]):Â))/\Vv (t7 [r])<2048:=by rw[Ŏq];let{u,a,e}:=n4 this.1;rw[e];show{rfl,a}
def x0c{r:D}(h:yk r)(b:zl r=Ä):qq [r]=À (Ä,.int (Vv îg:Â))/\Vv îg<2048:=by rw[Ŏq];let{u,a,e}:=n4 this.2;rw[e];show{rfl,a}
def Et:FS:=
 (zR (ya Ěl
   (vS Ũb)
   xM)
  (zR (ya (tE (e2 zh Ńb Ňd))
   (vS (xv Őb))
   xM)
  (zR (ya (tE (e2 Ze Ĕ Ϸa))
   (vS (xv ũp))
   xM)
  (vS (eL Tb (Α (xv (zC ýf ϻh))))))))
def Ja:Á D->É ä:=FR 3 3 Et
def z9p(b x1 a:D):Ja ϲ=yJ 3 Et ϲ:=rfl
nonrec def wd:D->Ç
 |.tup ői=>w|_ => ""
def Tv(r:D):Ç:=match lS r with
 |.str t=>t|_ => ""
def yY(z6:Á D)(r:D):É Â:=match xJ r with
 |Ã=>(xO Úk z6).2|Ä=>Å
nonrec def xC:É Â->D
 |Å=>.zO|À p=>.int (p:Æ)
nonrec def two(a b:Â):Á Â:=if a=b then[a]else if a<b then[a,b]else[b,a]
def Y5(r:D)(i:Â)(t:É Â):Á Â:=if wd r = ŧd then[]else match t with
 |Å=>[i+1]|À p=>if wd r = ļa then[p]else two í p
def zB(z6:Á D):Á D:=ϣf λd=>!zl d
def Wf(z6:Á D)(i:Â):Á Â:=match Õ[i]? with
 |À r=>Y5 r i Ŧc|Å=>[]
theorem B5{g:FG}{e:FE}{σ:zx}(v:Â->D):∀{ds:Á D}(k:Â),(∀i d,ds[i]?=À d->∃σ1,g d σ=À σ1/\e σ1=À (v (k+i)))->wB g xc e σ ds=À ((Ňo).map v)
 | [],_,_=>rfl|d::ds,k,h=>by
  let{σ1,e1,e2}:=h 0 d rfl
  let c:=B5 v (ds:=ds) Ĩ λi b a=>by rw[show k+1+i=k+í by omega];show h í b ăf
  rw[ĉq]
def iz{r:D}(h:yk r):zJ r ű=À Ňf:=by
 cases h with
 |ïa t=>rfl|Ϫ h=>cases h<;>rfl|w8 t=>rfl|š t hw hk=>rfl
def y0n{r:D}(h:yk r):xJ r=(wd r == ļa || wd r == Ða || wd r == Ía):=by
 cases h with
 |ïa t=>rfl|Ϫ h=>cases h<;>rfl|w8 t=>rfl|š t hw hk=>rfl
def Mv{r:D}{t:Ç}(h:yk r)(a:xJ r=Ã)(e:zJ r Ųc=À ťb):Tv r=t:=by
 cases h with
 |ïa u=>cases a|Ϫ h=>let{_,_,_,_,z,_}:=Zt h;rw[z]at a;cases a
 |w8 u=>cases e<;>rfl|š u hw hk=>cases e<;>rfl
def Sc(a b:Ç):zh ûg İj=À (.bl Že):=rfl
def x4x(a b:Â):Tb [.lst [.int (a:Æ),.int (b:Æ)]]=À (Β (zN (two a b))):=by
 let e:pA ċf=if a=b then[(a:Æ)]else[(a:Æ),(b:Æ)]:=by
  exact gQ (gQ [] (a:Æ)) (b:Æ)=_;unfold gQ;by_cases h:a=b;subst h;simp;let:¬ (a:Æ)=(b:Æ):=by omega
  simp[h,this]
 exact(if(ċf).length<1000/\(pA ċf).length<64 then À (Ηb (Ğd (pA ċf)))else Å)=_;rw[e];unfold two;by_cases h:a=b;rw[Ï h,Ï h];rfl;rw[Ñ h,Ñ h,Ï {by exact 2<1000;decide,by exact 2<64;decide}];exact À (Ηb (L2.insI (a:Æ) [(b:Æ)]))=_;unfold L2.insI;by_cases h2:a<b;rw[Ï h2,Ï Ê];rfl;rw[Ñ h2,Ñ Ê];rfl
def w16{r:D}(h:yk r)(i:Â){t:É Â}(d:t.isSome=xJ r):Ja [r,.int (i:Æ),xC t]=À (Ã,.lst (zN (Y5 r i t))):=by
 let a:=iz h;let b:=y0n h;let e1:=Sc (wd r) ŧd;let e2:=Sc (wd r) ļa;rw[z9p];unfold Et Y5;by_cases c1:wd r = ŧd;rw[Ï c1];rw[ώb c1]at e1;simp only[Ø,a,e1];rfl;rw[Ñ c1];rw[Òb c1]at e1;by_cases c2:wd r = ļa;rw[ώb c2]at e2 b;rw[b]at d;cases t with
 |Å=>cases d|À p=>dsimp only;rw[Ï c2];unfold xC;simp only[Ø,a,e1,e2];rfl
 rw[Òb c2]at e2;cases t with
 |Å=>unfold xC;simp only[Ø,a,e1,e2,Ze,ϴ];rfl|À p=>dsimp only;rw[Ñ c2];unfold xC;let c:=x4x í p;rw[show((i+1:Â):Æ)=(i:Æ)+1 by omega]at c;simp only[Ø,a,e1,e2,Ze,ϴ,c]
theorem UI{z6:Á D}(P:PC z6){r:D}(c:r∈z6):(Ŧc).isSome=xJ r/\∀t,xJ r=Ã->zJ r Ųc=À ťb->Tv r=t:=by
 let b:=Ų r c;show{?_,λt a e=>Mv b a e};unfold yY;cases a:xJ r with
 |Ä=>rfl|Ã=>let{t,p,e1,e2}:=Çd r c a;rw[Mv b a e1,e2];rfl
def DG{z6:Á D}(P:PC z6):gJ ŧ=À (Ã,.lst îh):=by
 let{d,b,e1,j}:=lQ Ų Ém;let e2:uO ŧ=À (Ã,.lst Õ):=Yv Ų
 let i:=Zl (g:=yA 2) (e:=AH) (σ:=[À (Ä,.lst z6),À (Ä,.dic d b),Å]) çi (ds:=zB z6) λr k=>by
  let c:r∈z6:=(Ŏa k).1;let a:=Ke Ãj;rw[Ýq];unfold AH yY;cases z:xJ r with
  |Ã=>
   rw[z]at a;let{t,p,f,h}:=Çd r c z
   let l:zJ (.dic d b) ťb=À ţc:=by exact ĉ d b ŏd=_;rw[j,h];rfl
   rw[Mv Ãj z f,h];unfold xC;simp only[Ø,a,f,l]
  |Ä=>rw[z]at a;unfold xC;simp only[Ø,a]
 rw[z9n];unfold Er;simp only[Ø,e1,e2,i]
def vI(z6:Á D):Á D:=(Ōc).map λi=>.lst Ďj
def A5{z6:Á D}{i:Â}(h:i<(Õ).length):zJ (Β úb) Ŵa=À (Β Ďj):=by refine jH Ê ?_;unfold vI;rw[ģ,ė,æc h];rfl
theorem Nc(t:Ç):∀(L:Á D)(s:Â×É Â),(∀p,s.2=À p->p<=s.1)->∀p,Èe.2=À p->p<=Èe.1
 | [],s,h=>h|d::L,s,h=>by
  rw[Êa];show Nc t L _ λp a=>?_
  unfold uf at a ⊢;cases hl:zl d with
  |Ã=>
   rw[hl]at a;dsimp only at a ⊢;cases hn:Tu t d with
   |Ã=>rw[hn]at a;cases a;show Ĭ _|Ä=>rw[hn]at a;show h p a
  |Ä=>rw[hl]at a;show ϊb (h p a)
def Jr{z6:Á D}{i w:Â}(hi:i<(Õ).length)(h:w∈Wf z6 i):w<=(Õ).length:=by
 let b:∀t p,čd.2=À p->p<=(Õ).length:=λt p a=>by let:=Nc t z6 (0,Å) (λp z=>nomatch z) p a;rw[BV t z6 (0,Å),ĸ]at this;rw[Ôq]
 unfold Wf at h;rw[đ hi]at h;generalize Õ[i]=r at h;dsimp only at h;unfold Y5 at h
 split at h;cases h;let c:∀p,yY z6 r=À p->p<=(Õ).length:=λp a=>by
  unfold yY at a
  rw[æq];show b _ _ a;cases a
 rw[ìq];rw[ŕq];rename_i p a;let:=c p a
 rw[ìq];rw[ŕq];unfold two at h
 rw[ìq];rw[ŕq];rw[ìq];rcases Ğ h with rfl|h;omega;rw[ŕq];rcases Ğ h with rfl|h;omega;rw[ŕq]
def CY(z6:Á D)(i:Â):(ëe).length<=2:=by
 unfold Wf Y5 two
 split;split;show ŵ _;split;show õa ũb;split;show õa ũb;split;show õa ũb;split<;>show Ĭ 2;show ŵ _
def AI:FE:=(zf Ja (zC (e2 zJ ć Ĕ) âo))
def Eu:FS:=
 (zR ύf
  (vS (wO 2 ğj Ĝj xc AI)))
def VA:Á D->É ä:=FR 1 2 Eu
def z9q(a:D):VA [a]=yJ 2 Eu [a]:=rfl
def A4{z6:Á D}(P:PC z6):VA ŧ=À (Ã,.lst úb):=by
 let e1:uO ŧ=À (Ã,.lst Õ):=Yv Ų;let e2:=DG P
 let b:=B5 (g:=vO 2 3) (e:=AI) (σ:=[À (Ä,.lst z6),À (Ä,.lst Õ),Å,Å]) (λi=>.lst Ďj) (ds:=p8 îh) 0 λi d a=>by
  rw[W4,ė]at a;cases hr:Õ[i]? with
  |Å=>rw[hr]at a;cases a|À r=>
   rw[hr]at a;cases a;rw[Ýq];let c:r∈z6:=(Ŏa (Ϸ hr)).1;let h:=w16 Ãj i (t:=yY z6 r) (UI P c).1;let j:Wf z6 i=Y5 r i Ŧc:=by unfold Wf;rw[hr]
   rw[ĸ,j];let f:zJ ϙf Ŵa=À r:=jH Ê (by rw[ģ];show hr);unfold AI;simp only[Ø,f,h]
 rw[kj,ã,<-îf]at b;rw[z9q];unfold Eu vI;generalize (Õ).map çi=ts at e1 e2 b ⊢;simp only[Ø,e1,e2,qD,b]
def Kv:FS:=(zm 2 (e2 ńe Ĕ (e2 zJ ą ĺ)))
def Eb:FS:=
 (zR Áp
  (zR (jS (vm ć) Īc
   Kv)
  (yb Ĕ)))
def V7:Á D->É ä:=FR 2 4 Eb
def z99(a x1:D):V7 ď=yJ 4 Eb ď:=rfl
def Be:FA:=(p6 ı (e2 xU Ϙb ń))
def BF:pP:=(mK Ĕ ĺ)
def OE:pP:=(Ts (vm ř) Ŭb
      BF)
def dk:FS:=
 (Q5 1 ϖj
  (Tt (Ts Ġj ěj
    OE)
   OD))
def T3:Á D->É ä:=FR 1 5 dk
def z88(a:D):T3 [a]=yJ 5 dk [a]:=rfl
def O3:FS:=(zR (WB 6 5)
    (zR (zm 7 ãk)
    (ya ϖg
     (zR (g6 4 ðb ϭc)
      (U6 5 ùn))
     xM)))
def IG:FT:=(tE (e2 wp (qX 5) Ũb))
def Ec:FS:=
 (zR ύf
  (zR Àp
  (zR (zm 3 (zf T3 Őb))
  (zR (qK 4 (e2 IP (e2 TZ ŷh ųo) (xv (Η űc))))
  (zR (qK 5 (eL Gm (Α ųo)))
  (zR (Zw IG
   O3)
  (zR (Yw 5) Ëk)))))))
def V8:Á D->É ä:=FR 1 8 Ec
def z9a(a:D):V8 [a]=yJ 8 Ec [a]:=rfl
nonrec def gt(T:Á Â)(i:Â):Â:=T.getD i 0
def z9x{T:Á Â}{i:Â}(h:i<Ϻa):T[i]?=À ħb:=by unfold gt;rw[ő,đ h];rfl
def z9w{T:Á Â}{m i x:Â}(h:m<Ϻa):gt Ĉe i=if i=m then x else gt T i:=by unfold gt;rw[îq]
def uH(T:Á Â)(ws:Á Â):Â:=ïj Ćh 0
theorem nJ(T:Á Â)(k:Â):∀(ws:Á Â)(a:Â),(ïj Ćh a).testBit k=Ã↔Ħd k=Ã\/∃w∈ws,(ņd).testBit k=Ã
 | [],a=>{.inl,λh=>Ϩc id λ⟨_,z,_⟩=>by cases z}|w::ws,a=>by
  rw[Êa,nJ T k ws,ϱh,Ĥf]
  rw[ńq];rintro((h|h)|⟨v,b,h⟩);show .inl h;show .inr {w,ÿ,h};show .inr {v,ŏ _ b,h};rintro(h|⟨v,b,h⟩);show .inl Ác;rcases Ğ b with rfl|b;show .inl (.inr h);show .inr {v,b,h}
def nI(T ws:Á Â)(k:Â):(uH T ws).testBit k=Ã↔∃w∈ws,(ņd).testBit k=Ã:=by unfold uH;rw[nJ,ùd];show{λh=>Ϩc ŭm id,.inr}
def y8f(T ws:Á Â)(w:Â):uH T (ws++[w])=(uH T ws ||| gt T w):=by unfold uH;rw[Řh];rfl
def y8e{T:Á Â}(h:∀i,gt T i<2048)(ws:Á Â):uH T ws<2048:=by
 let:∀(ws:Á Â)(a:Â),a<2048->ïj Ćh a<2048:=by
  intro ws
  induction ws with
  |nil=>show λa b=>b|ñ w ws ih=>show λa b=>ih _ (nG b (h w))
 show this ws 0 Ò
def rl(u p:Â)(T ws:Á Â):Â:=u ||| (uH T ws-(uH T ws &&& p))
def P4(u p:Â)(T ws:Á Â)(k:Â):(ϙn).testBit k=Ã↔u.testBit k=Ã\/((∃w∈ws,(ņd).testBit k=Ã)/\p.testBit k=Ä):=by unfold rl;rw[ϱh,fL,Ĥf,Đ,nI,ţm]
theorem Od{u p:Â}{T a ws:Á Â}(h:∀w∈ws,Sb ņd (gt a w)):Sb ϙn (rl u p a ws):=λk z=>by rw[P4]at z ⊢;show Źd id λ⟨⟨w,b,e⟩,c⟩=>{{w,b,h w b k e},c}
def x1u{u p:Â}{T b ws:Á Â}(h:∀w∈ws,gt T w=gt b w):rl u p T ws=rl u p b ws:=
 (Od λw a=>by rw[h w a];show ŗe _).bX (Od λw a=>by rw[h w a];show ŗe _)
def rS{u p:Â}{T ws:Á Â}(a:u<2048)(h:∀i,gt T i<2048):rl u p T ws<2048:=nG a (z6p _ (y8e h ws))
structure z3f(n:Â)(U P:Â->Â)(W:Â->Á Â)(S:Á Â):È where
 last:gt S n=2047
 all:∀i,i<n->Sb (rl Ϡe ϡe S Ņa) (gt S i)
structure NI(n:Â)(U P:Â->Â)(W:Â->Á Â)(T dl:Á Â):È where
 len:Ϻa=n+1
 last:gt T n=2047
 lt:∀i,gt T i<2048
 up:∀i,i<n->Sb ħb (rl Ϡe ϡe T Ņa)
 fx:∀i,i<n->i ∉ dl->gt T i=rl Ϡe ϡe T Ņa
 dn:∀i∈dl,i<n
 least:∀S,z3f n U P W S->∀i,i<=n->Sb ħb (gt S i)
section
variable{n:Â}{U P:Â->Â}{W:Â->Á Â}{T dl:Á Â}{m:Â}
def y4g:NI n U P W şh İb:=by
 let d:∀i,i<n->gt şh i=0:=λi a=>by unfold gt;rw[ő,Ůa (by rw[Įa];show a),Ϩd,Ï a];rfl
 let b:gt şh n=2047:=by unfold gt;rw[ő,Żb (by rw[Įa];show Ĭ _),Įa,úc];rfl
 refine{by rw[ì,Įa];rfl,b,λi=>?_,λi a=>by rw[d i a];show Rw _,λi a z=>(z (Ąa a)).elim,λi a=>ód a,λS c i a=>?_};rcases ćf i n with h|h|h;rw[d i h];decide;rw[h,b];decide;unfold gt;rw[ő,Ùa (by rw[ì,Įa];show h)]
 decide;rcases Ĕd i n with h|h;rw[d i h];show Rw _;let:i=n:=by omega
 rw[this,b,c.last];show ŗe _
def y4f(N:NI n U P W T Ϟb)(e:rl (U m) (P m) T (W m)=gt T m):NI n U P W T dl:={Ϲc,ϲj,N.lt,N.up,λi a h=>by by_cases c:i=m;rw[c,e];show N.fx i a λz=>(ύ z).elim h λz=>c (Ľ z),λi a=>N.dn i (Ÿb _ a),ŕj}
def y4e{C:Á Â}(N:NI n U P W T Ϟb)(q:U m<2048)(g:∀j,j∈C↔(j<n/\m∈W j)):NI n U P W ϵe (dl++C):=by
 let f:m<n:=N.dn m ũf;let o:m<Ϻa:=by rw[Ϲc];omega
 let b:∀i,gt ϵe i=if i=m then rl (U m) (P m) T (W m)else gt T i:=λi=>z9w o
 let k:∀i,Sb ħb (gt ϵe i):=λi=>by rw[b];rw[Ŗq];show N.up m f;rw[Ñ c];show ŗe _
 let d:∀i,m ∉ W i->rl Ϡe ϡe T Ņa=rl Ϡe ϡe ϵe Ņa:=λi h=>x1u λw l=>by rw[b,Ñ (λz:w=m=>h (z▸l))]
 refine{by rw[Éa];show Ϲc,by rw[b,Ñ Ê];show ϲj,λi=>?_,λi a=>?_,λi a h=>?_,λi a=>?_,λS c i a=>?_};rw[b]
 split;show rS q N.lt;show N.lt i;rw[b];rw[Ŗq];show Od λw _=>k w;rw[Ñ c];show(N.up i a).trans (Od λw _=>k w);let p:m ∉ W i:=λz=>h (Ĭa _ ((ϒd).mpr {a,z}))
 rw[<-d i p,b];rw[Ŗq];rw[Ñ c];show N.fx i a λz=>(ύ z).elim (λz=>h ĥe) λz=>c (Ľ z);rcases ύ a with z|z;show N.dn i ĥe;show((ϒd).mp z).1;rw[b];by_cases e:i=m;rw[Ï e,e];show Sb.trans (Od λw l=>?_) (c.all m f);rcases Ĕd w Ĝ with hw'|hw';show ŕj S c w Ê;let:gt T w=0:=by unfold gt;rw[ő,Ùa (by rw[Ϲc];show hw')];rfl
 rw[this];show Rw _;rw[Ñ e];show ŕj S c i a
def Z9(T:Á Â):Â:=(ϒf).sum
theorem z0i:∀T:Á Â,Z9 T<=11*Ϻa
 | []=>Ĭ _|x::T=>by let:=z0i T;let h:=y8k x;exact pc x+(ϒf).sum<=11*(Ϻa+1);unfold Z9 at this;omega
theorem z0j:∀{T:Á Â}{m x:Â},m<Ϻa->Z9 Ĉe+pc ħj=Z9 T+pc x
 | [],m,x,h=>by cases h|y::T,0,x,_=>by exact pc x+(ϒf).sum+pc y=pc y+(ϒf).sum+pc x;omega|y::T,m+1,x,h=>by let a:=z0j (T:=T) (m:=m) (x:=x) Ća;let e:gt (y::T) (m+1)=gt T m:=rfl;rw[e];exact pc y+Z9 Ĉe+pc ħj=pc y+Z9 T+pc x;omega
#print a
def NC{T:Á Â}{i:Â}(h:i<Ϻa):zJ (Β üb) Ŵa=À (.int (gt T i:Â)):=by refine jH Ê ?_;rw[ŵq];rw[ģ,ė,z9x h];rfl
def mO{T ws:Á Â}(h:∀w∈ws,w<Ϻa):V7 [.lst üb,.lst še]=À (Ä,.int (uH T ws:Â)):=by
 let{σ',e1,f,rfl}:=kX (g:=yA 3) (b:=Kv) (λi σ=>∃f,σ=[À (Ä,.lst üb),À (Ä,.lst še),À (Ä,.int ((uH T śj:Â):Æ)),f]) (ds:=zN ws)
  (σ:=[À (Ä,.lst üb),À (Ä,.lst še),À (Ä,.int 0),Å]) 0 {Å,rfl} (by
  rintro i d σ a ⟨f,rfl⟩;rw[ĸ];unfold zN at a;rw[ė]at a;cases hw:ws[i]? with
  |Å=>rw[hw]at a;cases a|À w=>
   rw[hw]at a;cases a;let j:=(ĵ hw).1;let e:=NC (T:=T) (h w (Ϸ hw))
   let k:uH T łp=(uH T śj ||| gt T w):=by rw[Ñd j,y8f];rw[đ j]at hw;cases hw;rfl
   let c:=MM (uH T śj) ņd;rw[<-k]at c;show{_,[À (Ä,.lst üb),À (Ä,.lst še),À (Ä,.int ((uH T łp:Â):Æ)),À (Ä,.int (w:Æ))],rfl,.inl ?_,_,rfl};unfold Kv;generalize zN T=TT at e c ⊢;generalize zN ws=WW at e c ⊢;simp only[Ø,e,c])
 let l:(še).length=þp:=by rw[ŵq];rw[ã]
 rw[l,ĸ,ŕc]at e1;rw[z99];unfold Eb;generalize zN T=TT at e1 ⊢;generalize zN ws=WW at e1 ⊢;rw[Żq]
theorem N3{g:FG}{b:pP}(P:Â->Á ϓa->zx->È):∀{ds:Á D}{nds:Á ϓa} {σ:zx} (n:Â),P n nds σ->(∀i d nds σ,ds[i]?=À d->P (n+i) nds σ->∃σ1 Âd σ2,g d σ=À σ1/\b nds σ1=À (.nx Âd σ2)/\P Žj Âd σ2)->
  ∃Ķc σ',O8 g b ds nds σ=À (.nx Ķc σ')/\P żj Ķc σ'
 | [],nds,σ,n,h,_=>{nds,σ,rfl,h}|d::ds,nds,σ,n,h,Ŋa=>by
  let{σ1,Âd,σ2,e1,e2,l}:=Ŋa 0 d nds σ rfl h
  let{Ķc,σ',o,p}:=N3 P (ds:=ds) (nds:=Âd) (σ:=σ2) Ĝ l λi s q τ c k=>by let{a,e,f,j,r,m}:=Ŋa í s q τ ſb (by rw[Ĺq];show k);show{a,e,f,j,r,by rw[ęq];show m}
  show{Ķc,σ',?_,by rw[Ēq];show p};rw[Úq];exact(b nds σ1).bind _=_;rw[e2];show o
nonrec def gl(L:Á Řa)(p:Â):Á Â:=L.getD p []
theorem iO{L:Á Řa}{i:Â}(h:i<ϟ):L[i]?=À (gl L i):=by unfold gl;rw[ő,đ h];rfl
def iN{T:Á Řa}{m i:Â}{x:Á Â}(h:m<Ϻa):gl Ĉe i=if i=m then x else gl T i:=by unfold gl;rw[îq]
structure Cm(n:Â)(W:Â->Á Â)(i k:Â)(L:Á Řa):È where
 l:ϟ=n+1
 m:∀p,p<=n->∀j,j∈gl L p↔(j<i/\p∈W j\/j=i/\p∈(Ņa).take k)
 b:∀p,(òg).length<=2*i+k
section
variable{n i k w:Â}{W:Â->Á Â}{L:Á Řa}
def z5z:Cm n W 0 0 þe:=by
 let e:∀p,gl þe p=[]:=λp=>by unfold gl;rw[ő,Ϩd];split<;>rfl
 show{Įa,λp _ j=>by rw[e];show{nofun,λz=>Ũ (λz=>Þ z.1 ëd) λz=>by rw[åe]at z;cases z.2},λp=>by rw[e];show ŵ _}
def Cm.put(c:Cm n W i k L)(h:Ņa[k]?=À w)(a:w<=n):Cm n W i Ĩ ëh:=by
 let d:w<ϟ:=by rw[c.l];show Êe a
 let g:(Ņa).take Ĩ=(Ņa).take k++[w]:=by rw[List.take_succ,h];rfl
 refine{by rw[Éa];show c.l,λp f j=>?_,λp=>?_};rw[iN d,g,ϓh,Ĵh];by_cases e:p=w;rw[Ï e,ϓh,Ĵh,e,c.m w a];show{λz=>Ũ (λz=>Źd id λz=>{z.1,.inl z.2}) λz=>.inr {z,.inr rfl},λz=>Ũ în λz=>z.2.elim (λy=>.inl (.inr {z.1,y})) λ_=>.inr z.1};rw[Ñ e,c.m p f];show{λz=>Źd id λz=>{z.1,.inl z.2},λz=>Źd id λz=>{z.1,z.2.resolve_right e}};rw[iN d];by_cases e:p=w;rw[Ï e,ì];show õa (c.b w);rw[Ñ e];show ϊb (c.b p)
def Cm.next(c:Cm n W i (Ņa).length L)(h:(Ņa).length<=2):Cm n W í 0 L:=by
 show{c.l,λp a j=>?_,λp=>ý (c.b p) (åc h _)};rw[c.m p a,ŕc,åe]
 rw[ńq];rintro(z|⟨rfl,z⟩);show .inl {Ņb z.1,z.2};show .inl {Čb _,z};rintro(z|⟨_,z⟩);rcases Èh z.1 with q|rfl;show .inl {q,z.2};show .inr {rfl,z.2};cases z
def z3z{ws:D}{y:É ä}(h:w<ϟ)(c:(ŉe).length<=1000):BF ċc źg=À (.nx ((ëh).map zN) źg):=by
 let a:ċc[w]?=À (zN ŉe):=by rw[ė,iO h];rfl
 let d:(ċc).set w (zN ŉe++[Ě (i:Æ)])=(ëh).map zN:=by rw[Ēi];rw[ŵq];rw[ça];rfl
 let b:(zN ŉe).length<=1000:=by rw[ŵq];rw[ã];show c
 unfold BF
 exact(match ċc[((w:Â):Æ).toNat]? with
  |À ds=>if 0<=((w:Â):Æ)/\þ<yX then À (NF.nx ((ċc).set ((w:Â):Æ).toNat (ds++[Ě (i:Æ)])) źg)else Å|Å=>Å)=_
 rw[ģ,a];exact(if _ then _ else _)=_;rw[Ï {ŵb w,Öb b Ò},d]
#print a
def z61{n:Â}{W:Â->Á Â}(O:n<=100)(H:∀i,i<n->∀w∈W i,w<=n)(A:∀i,(Ņa).length<=2) :∃L:Á Řa,ϟ=n+1/\(∀p,p<=n->∀j,j∈gl L p↔(j<n/\p∈W j))/\(∀p,(òg).length<=2*n)/\T3 [.lst ((İb).map λi=>.lst çg)]=À (Ä,.lst Õd):=by
 obtain⟨a,h⟩:∃a:Á D,a=(İb).map λi=>.lst çg:={_,rfl}
 let s:ìa=n:=by rw[h,ã,Úa]
 let K:Be Úc=À (wt Ĝ):=by show Z4 (n:=((n+1:Â):Æ)) ?_ Ê;exact À (Ě ((ìa:Æ)+1))=_;rw[s];rfl
 rw[<-h]
 let{v,σ',e1,L,f,q,o,c,rfl,rfl}:=N3 (g:=vO 3 4) (b:=OE) (λi nds σ=>∃(L:Á Řa) (f q o:É ä),Cm n W i 0 L/\nds=Íc zN/\σ=ãl) (ds:=p8 a)
  (nds:=Ő Ĝ []) (σ:=Úc) 0 {_,Å,Å,Å,z5z,by rw[ĵh];rfl,rfl} (by
  rintro i d nds σ e ⟨L,f,q,o,c,rfl,rfl⟩;rw[ĸ]at c;rw[W4]at e
  let t:i<n:=by
   rw[<-s];cases z:a[i]? with
   |Å=>rw[z]at e;cases e|À y=>show(ĵ z).1
  let C:a[i]?=À (Β çg):=by rw[h,ė,æc t];rfl
  rw[C]at e;cases e
  let{_,_,e2,N,I,x,rfl,rfl}:=N3 (g:=yA 2) (b:=BF) (λk nds σ=>∃(L:Á Řa) (f:É ä),Cm n W i k L/\nds=Íc zN/\σ=ýk) (ds:=zN Ņa)
   (nds:=Íc zN) (σ:=ýk) 0 {L,f,c,rfl,rfl} (by
   rintro k d nds σ e ⟨L,f,c,rfl,rfl⟩;rw[ĸ]at c;unfold zN at e;rw[ė]at e;cases hw':Ņa[k]? with
   |Å=>rw[hw']at e;cases e|À w=>
    rw[hw']at e;cases e;let u:=H i t w (Ϸ hw');let P:=(ĵ hw').1
    let F:(ŉe).length<=1000:=by let:=c.b w;let:=A i;omega
    show{_,_,_,rfl,z3z (by rw[c.l];show Êe u) F,_,_,by rw[ĸ];show c.put hw' u,rfl,rfl})
  let r:(çg).length=(Ņa).length:=by rw[ŵq];rw[ã]
  rw[r,ĸ]at x;show{_,_,_,rfl,e2,N,I,_,_,by rw[ĸ];show x.next (A i),rfl,rfl})
 rw[kj,s,ĸ]at c;show{L,c.l,λp E j=>?_,c.b,?_};rw[c.m p E,åe];show{λz=>z.resolve_right λz=>(ϝ z.2).elim,.inl};rw[z88];exact(Q5 1 ϖj _ Úc).bind _=_
 let B:Q5 1 ϖj (Tt ġl OD) Úc=À (.rt Ä îp):=by
  unfold Q5;rw[show jy Úc=Ã from rfl];rw[Ûq];unfold OC;rw[K];let G:Ts Ġj ěj OE þe Úc=À (.nx ċc ãl):=e1
  let J:Tt ġl OD þe Úc=À (.rt îp):=by unfold Tt;rw[G];exact(if(ċc).length<=yX then À (NF.rt (Β ((ċc).map .lst)))else Å)=_;rw[Ï (by rw[ã,c.l];rw[åq]),ϭ];rfl
  exact((À (wt Ĝ).length).bind _)=_;rw[UL];exact((Tt _ _ þe Úc).bind _)=_;rw[J];rfl
 rw[B];rfl
def nk{σ:zx}{i j:Â}{ds:Á D}{d:D}(h:σ[i]?=À (Χa (ds++[d])))(a:j≠i):WB j i σ=À (Εe (Ν Àe)):=by unfold WB;rw[h];rw[Ûq];rw[List.getLast?_append,æd];exact(if j=i then Å else _)=_;rw[Ñ a];rfl
def x3x{σ:zx}{i j:Â}{k v:FE}{ds:Á D}{y:D}(hv:v σ=À y)(h:σ[i]?=À Àe)(hk:k σ=À Řn)(a:j<þ):g6 i k v σ=À (υb (ϩj j y)):=by
 unfold g6;rw[hv]
 exact(match σ[i]? with
  |À Àe=>(Ŗg).bind λx=>match x with
   |.int j=>(Éc þ j).bind λn=>À (ϊd (Ν (Χa Ĥi)))|_=>Å
  |_=>Å)=_
 rw[h];rw[Ûq];rw[hk];exact(Éc þ (j:Æ)).bind _=_;unfold Éc;rw[Ï Ê,Ï Ê,ģ];rfl
def f_{σ:zx}{i:Â}{f:FE}{xs ys:Á D}(h:σ[i]?=À ñm)(a:f σ=À Ĝa)(b:ë+ů<=10000000):U6 i f σ=À Ōp:=by unfold U6;rw[h];rw[Ûq];rw[a];exact(if ë+ů<=yX then _ else _)=_;rw[Ï Æh]
theorem W2(T:Á Â):(üb).length=Ϻa:=by rw[ŵq];rw[ã]
theorem OF(T:Á Â)(m:Â):zN (T++[m])=zN T++[.int (m:Æ)]:=by rw[ŵq];rw[ça];rfl
def mL(T S:Á Â):zN (T++S)=zN T++zN S:=by rw[ŵq];rw[ça]
theorem y3k(T:Á Â)(m x:Â):(üb).set m (.int (x:Æ))=zN Ĉe:=by rw[ŵq];rw[Ēi]
def zp(z6:Á D)(i:Â):D:=(Õ).getD i .zO
def Uf(z6:Á D)(i:Â):Â:=Vv (t7 ϳf)
def Pf(z6:Á D)(i:Â):Â:=Vv (qq ϳf)
def qI{z6:Á D}{i:Â}(h:i<(Õ).length):Õ[i]?=À Ϧ:=by unfold zp;rw[ő,đ h];rfl
def x1y{z6:Á D}{i:Â}(h:i<(Õ).length):zJ ϙf Ŵa=À Ϧ:=jH Ê (by rw[ģ];show qI h)
def jz{z6:Á D}(P:PC z6){i:Â}(h:i<(Õ).length):yk Ϧ/\zl Ϧ=Ä:=by let:=Ŏa (Ϸ (qI h));show{Ų _ this.1,by simpa using this.2}
def QR{z6:Á D}(P:PC z6){i:Â}(h:i<(Õ).length):t7 ϳf=À (Ä,.int (Uf z6 i:Â))/\Uf z6 i<2048:=w0h ñg.1 ñg.2
def BY{z6:Á D}(P:PC z6){i:Â}(h:i<(Õ).length):qq ϳf=À (Ä,.int (Pf z6 i:Â))/\Pf z6 i<2048:=x0c ñg.1 ñg.2
def uh(z6:Á D)(L:Á Řa)(T dl:Á Â)(x6 x7:É ä):zx:=[À (Ä,.lst z6),À (Ä,.lst Õ),À (Ä,.lst úb),À (Ä,.lst Õd),À (Ã,.lst üb),À (Ã,.lst (zN dl)),x6,x7]
theorem mM(a b:Â):wp çe řn=À (ν (a=b)):=by exact À (Ñb (!((a:Æ)==(b:Æ))))=_;by_cases c:a=b;subst c;simp;rw[Òb Ê,Ē c]
theorem y3p{z6:Á D}(P:PC z6){L:Á Řa}{T dl:Á Â}{m:Â}{x6 x7:É ä}(F:ϟ=(Õ).length+1)(s:∀p,(òg).length<=2*(Õ).length)(G:Ϫf<=1000000)(N:NI (Õ).length Ĵg Ŧe Ϡc T Ϟb) :O3 ϑl=À (.nx (if rl ϒc ϓc T Ĥb=gt T m then uh z6 L T dl ŭa žg
   else uh z6 L íi úo ŭa žg)):=by
 let t:m<(Õ).length:=N.dn m ũf;let H:(Õ).length<=100:=ý όc Öc;let n:=x1y t;let q:=(QR P t).1;let r:=(BY P t).1;let h:=A5 t;let g:=mO (T:=T) (ws:=Wf z6 m) λw E=>by rw[Ϲc];let:=Jr t E;omega
 let o:=z4c (uH T Ĥb) ϓc;let e:=MM ϒc (uH T Ĥb-šl);let e:ϣa (Uf z6 m:Â) ((uH T Ĥb-šl:Â):Æ)=((rl ϒc ϓc T Ĥb:Â):Æ):=e;let b:=NC (T:=T) (i:=m) Èm;let a:=mM ëk ħj;have z:=nk (σ:=uh z6 L T Ϟb x6 x7) (i:=5) (j:=6) (ds:=zN dl) (d:=.int (m:Æ)) ώm Ò;let z:WB 6 5 ϑl=À (.nx ϒl):=z;let A:zJ ϵk Çi=À (Β (zN (gl L m))):=jH Ê (by rw[ģ,ė,iO Ê];rfl);unfold O3;rw[tW z]
 let B:zm 7 ãk ϒl=À (.nx (uh z6 L T dl ŭa žg)):=by unfold uh;generalize rl ϒc ϓc T Ĥb=need at n q h g r o e ⊢;generalize zB z6=RR at n q h g r o e ⊢;generalize vI z6=WW at n q h g r o e ⊢;generalize Íc Áe=LL at n q h g r o e ⊢;generalize zN T=TT at n q h g r o e ⊢;generalize zN dl=DD at n q h g r o e ⊢;simp only[Ø,n,q,h,MY,g,xw,ϋ,r,TY,o,e]
 rw[tW B];generalize hneed:rl ϒc ϓc T Ĥb=need at *;by_cases c:need=gt T m
 .rw[ú c]at a;rw[Ï c];rw[Ìq];simp only[Ø,b,a]
 .rw[Ē c]at a;rw[Ñ c];let u:=x3x (σ:=uh z6 L T dl ŭa Ϛd) (i:=4) (j:=m) (k:=z7 6) (v:=z7 7) (ds:=zN T) (y:=.int (need:Æ)) rfl rfl rfl (by rw[W2,Ϲc];omega);rw[y3k]at u;let u:g6 4 ðb ϭc Šl=À (.nx ĵl):=u
  let x:=f_ (σ:=uh z6 L ġh dl ŭa Ϛd) (i:=5) (f:=e2 zJ ĺ ðb) (xs:=zN dl) (ys:=zN (gl L m)) rfl (by exact zJ ϵk Çi=_;show A) (by rw[W2,W2];let:=s m;omega)
  rw[<-mL]at x;let x:U6 5 ùn ĵl=À (.nx (uh z6 L ġh úo ŭa Ϛd)):=x
  let C:ϖg Šl=À Ã:=by rw[Ìq];simp only[Ø,b,a]
  exact(ϖg _).bind _=_;rw[C];exact zR _ _ _=_;rw[tW u,x]
theorem y3o{z6:Á D}(P:PC z6){L:Á Řa}(f:ϟ=(Õ).length+1)(b:∀p,(òg).length<=2*(Õ).length)(h:∀p,p<=(Õ).length->∀j,j∈gl L p↔(j<(Õ).length/\p∈Wf z6 j)) :∀(M:Â){T dl:Á Â}{x6 x7:É ä},NI (Õ).length Ĵg Ŧe Ϡc T dl->(11*ál-Z9 T)*ňh+Ϫf<=M->M<=1000000->
   ∃T' y6 y7,NI (Õ).length Ĵg Ŧe Ϡc T' []/\uz IG O3 (M+1) (uh z6 L T dl x6 x7)=À (.nx (uh z6 L T' [] y6 y7)):=by
 intro M
 induction M with
 |ň=>
  intro T dl x6 x7 N e _;let:dl=[]:=Ϲg Ê;subst this;show{T,x6,x7,N,UN rfl}
 |Ŝ M ih=>
  intro T dl x6 x7 N e v;rcases āh dl with rfl|⟨dl',m,hdl⟩
  .show{T,x6,x7,N,UN rfl}
  .rw[Ăh]at hdl;subst hdl;let t:(Ťc).length=Ϟo+1:=by rw[ì];rfl
   let d:m<(Õ).length:=N.dn m ũf
   let g:IG (uh z6 L T Ťc x6 x7)=À Ã:=by rw[úq];unfold IG uh;generalize zB z6=RR at this ⊢;generalize vI z6=WW at this ⊢;generalize Íc Áe=LL at this ⊢;generalize zN T=TT at this ⊢;generalize zN Ťc=DD at this ⊢;simp only[Ø,this]
   let i:=y3p P (x6:=x6) (x7:=x7) f b Ê N;rw[QX g i];by_cases c:rl ϒc ϓc T Ĥb=gt T m
   .rw[Ï c];show ih (y4f N c) Ê Ê
   .rw[Ñ c];refine ih (y4e N (QR P d).2 (h m Ê)) ?_ Ê;let q:=z0j (T:=T) (m:=m) (x:=rl ϒc ϓc T Ĥb) Èm;let u:=y8l (N.up m d) (rS (QR P d).2 N.lt) Ĝi;let k:=z0i íi;rw[Éa,Ϲc]at k;let r:=b m;rw[ì];generalize Z9 íi=s' at *;generalize Z9 T=s at *;generalize (Õ).length=n at *;obtain⟨a,o⟩:∃a,11*Ĝ-s=a+1+żo:={11*Ĝ-s-1-żo,by omega};rw[o,ńi,ńi,İo]at e;let:0<=a*(2*n+2):=ŵ _;omega
def BI{z6:Á D}(P:PC z6):∃T,NI (Õ).length Ĵg Ŧe Ϡc T []/\V8 ŧ=À (Ã,.lst üb):=by
 let s:(Õ).length<=100:=ý όc Öc;let c:uO ŧ=À (Ã,.lst Õ):=Yv Ų;let g:=A4 P;let{L,q,r,p,b}:=z61 (n:=(Õ).length) (W:=Wf z6) s (λi h w t=>Jr h t) (CY z6);let b:T3 [.lst úb]=À (Ä,.lst Õd):=b
 let j:ďn*ňh+(Ōc).length<=300000:=by rw[Úa];let:ďn*ňh<=1111*202:=Nat.mul_le_mul Ê Ê;omega
 let{T,o,m,N,a}:=y3o P q p r 300000 (x6:=Å) (x7:=Å) y4g j Ê;let a:=U7 (300000+1) a Ò;show{T,N,?_}
 let e:TZ (.lst [.int 0]) (.int ((Õ).length:Â))=À Ĵn:=by
  exact(if 0<=(((Õ).length:Â):Æ)/\(((Õ).length:Â):Æ)<=1000000/\([Ě 0]).length*(((Õ).length:Â):Æ).toNat<=yX then À (όd (Ő (((Õ).length:Â):Æ).toNat [Ě 0]).flatten)else Å)=_;rw[Ï {by omega,by omega,by exact 1*_<=16777216;omega},ģ]
  congr 2
  rw[ŵq];rw[ĵh];generalize (Õ).length=n
  induction n with
  |ň=>rfl|Ŝ n ih=>rw[Ēb,Ēb,ŏc,ih];rfl
 let d:IP Ĵn (.lst [.int 2047])=À (Β (zN ϯe)):=by exact(if(zN Ãh).length+1<=yX then _ else _)=_;rw[Ï (by rw[W2,Įa];rw[åq]),OF];rfl
 let f:Gm [.int ((Õ).length:Â)]=À (Β (zN Ōc)):=by exact(if 0<=(((Õ).length:Â):Æ)/\(((Õ).length:Â):Æ)<=1000000 then À (όd ((ϡ (((Õ).length:Â):Æ).toNat).map λk:Â=>Ě k))else Å)=_;rw[Ï {by omega,by omega},ģ];rfl
 let a:Zw IG O3 [À (Ä,.lst z6),À (Ä,.lst Õ),À (Ä,.lst úb),À (Ä,.lst Õd),À (Ã,.lst (zN ϯe)),À (Ã,.lst (zN Ōc)),Å,Å]=À (.nx [À (Ä,.lst z6),À (Ä,.lst Õ),À (Ä,.lst úb),À (Ä,.lst Õd),À (Ã,.lst üb),À (Ã,.lst (zN [])),o,m]):=a;rw[z9a];unfold Ec;generalize zN T=TT at c g b e d f a ⊢;generalize zN Ōc=DD at c g b e d f a ⊢;generalize zN ϯe=T0 at c g b e d f a ⊢;generalize zN Ãh=T1 at c g b e d f a ⊢;generalize zN []=DZ at c g b e d f a ⊢;generalize zB z6=RR at c g b e d f a ⊢;generalize vI z6=WW at c g b e d f a ⊢;generalize Íc Áe=LL at c g b e d f a ⊢;simp only[Ø,c,g,b,e,d,f,a]
def Iu(t:Ç)(d:D):Ð:=zl d&&Tu t d
def y0k{t:Ç}{d:D}(h:yk d)(a:Iu t d=Ã):d=vQ t:=by unfold Iu at a;rw[Đ]at a;let{u,rfl}:=Mu h a.1;let:(u==t)=Ã:=a.2;rw[ŷc]at this;rw[this]
theorem mT{t:Ç}:∀{L:Á D}{s:Â×É Â},(∀d∈L,Iu t d=Ä)->Èe.2=s.2
 | [],_,_=>rfl|d::L,s,h=>by
  rw[Êa,mT λx a=>h x ώc];let:=h d ϱ;unfold Iu at this;unfold uf;cases hl:zl d with
  |Ä=>rfl|Ã=>rw[hl,ļf]at this;rw[this]
def O4:FS:=(zR (WB 4 3)
    (ya Ėk
     (zR (j_ 2 ř ĩj)
      (U6 3 Ϥh))
     xM))
def IH:FT:=(tE (e2 wp (qX 3) Ũb))
def El:FS:=
 (zR (zm 1 ēm)
  (zR ži
  (zR (qK 3 ŷh)
  (zR (Zw IH
   O4)
  (zR (Yw 3) (zR (Yw 2) (vS (eL Gp Őb))))))))
def V9:Á D->É ä:=FR 1 5 El
def z9i(a:D):V9 [a]=yJ 5 El [a]:=rfl
inductive jb(n:Â)(W:Â->Á Â):Â->È
 |ň:jb n W 0
 |Ŋa {i w:Â}:jb n W i->i<n->w∈W i->jb n W w
structure RI(n:Â)(W:Â->Á Â)(F dl:Á Â):È where
 nd:F.Nodup
 fl:∀f∈F,f<n/\jb n W f
 dc:∀d∈dl,jb n W d
 z:0<n->0∈F\/0∈dl
 cl:∀f∈F,∀w∈W f,w<n->w∈F\/w∈dl
def NG{n:Â}:∀{F:Á Â},F.Nodup->(∀f∈F,f<n)->ãg<=n:=λ{F} a h=>by
 let:=List.Nodup.length_le_of_subset a (l₂:=ϡ n) λx b=>Ąa (h x b)
 rw[ŧq]
section
variable{n:Â}{W:Â->Á Â}{F dl:Á Â}{m:Â}
def x1r(R:RI n W F Ϟb)(h:¬ m<n\/m∈F):RI n W F dl:=by
 let b:∀w,w<n->w∈F\/w∈dl++[m]->w∈F\/w∈dl:=λw c a=>by rcases a with a|a;show .inl a;rcases ύ a with z|z;rw[ıq];cases Ľ z;rcases h with h|h;show Þ c h;show .inl h
 show{R.nd,R.fl,λd i=>R.dc d (Ÿb _ i),λg=>b 0 g (R.z g),λf j w c e=>b w e (R.cl f j w c e)}
def P0(R:RI n W F Ϟb)(j:m<n)(s:m ∉ F):RI n W ňd (dl++W m):=by
 let i:jb n W m:=R.dc m ũf
 let c:∀w,w∈F\/w∈dl++[m]->w∈F++[m]\/w∈dl++W m:=λw h=>by rcases h with h|h;show .inl (Ÿb _ h);rcases ύ h with z|z;show .inr ĥe;show .inl ūp
 refine{Āh {R.nd,łc {ϝ,Ųa},λa r b o e=>s (by cases Ľ o;show e▸r)},λf g=>?_,λd l=>?_,λq=>c 0 (R.z q),λf g w k p=>?_};rcases ύ g with z|z;show R.fl f z;cases Ľ z;show{j,i};rcases ύ l with z|z;show R.dc d ĥe;show .step i j z;rcases ύ g with z|z;show c w (R.cl f z w k p);cases Ľ z;show .inr (Ĭa _ k)
def x1q(R:RI n W F []){i:Â}(h:jb n W i):i<n->i∈F:=by
 induction h with
 |ň=>show λa=>(R.z a).resolve_right ϝ|Ŋa hc hj hw ih=>show λa=>(R.cl _ (ih hj) _ hw a).resolve_right ϝ
def x1p(R:RI n W F [])(i:Â):i∈F↔i<n/\jb n W i:={R.fl i,λh=>x1q R h.2 h.1}
#print a
nonrec def ub(F:Á Â):Á ľ:=ϋd λi:Â=>.inl (i:Æ)
nonrec def ZE(F:Á Â):Á D:=ϋd λ_=>.bl Ã
def y1a(F:Á Â):(Ŧa).length=ãg:=by unfold ub;rw[ã]
theorem lG:∀F:Á Â,Zj Ŧa=À (ϋd λi:Â=>(i:Æ))
 | []=>rfl|f::F=>by exact(Zj Ŧa).bind _=_;rw[lG F];rfl
def qe(z6:Á D)(F dl:Á Â)(x4:É ä):zx:=[À (Ä,.lst z6),À (Ä,.lst úb),À (Ã,.dic Ŧa ſe),À (Ã,.lst (zN dl)),x4]
theorem x1j{z6:Á D}{F dl:Á Â}{m:Â}{x4:É ä}(p:ãg<=1000)(o:Ϫf<=1000):O4 Àn=À (.nx (if m<(Õ).length/\m ∉ F then qe z6 ňd (dl++Wf z6 m) ŭa else qe z6 F dl ŭa)):=by
 have b:=nk (σ:=qe z6 F Ϟb x4) (i:=3) (j:=4) (ds:=zN dl) (d:=.int (m:Æ)) ώm Ò;let b:WB 4 3 Àn=À (.nx Ôe):=b;let n:(úb).length=(Õ).length:=by unfold vI;rw[ã,Úa]
 unfold O4;rw[tW b]
 let a:Xv Çi (.dic Ŧa ſe)=À (ν žj):=by exact(À (yx Ŧa Čd)).bind _=_;rw[show yx Ŧa Čd=decide žj from Iq m F];rfl
 let k:Ėk Ôe=À (decide (m<(Õ).length/\m ∉ F)):=by
  let e1:decide ((m:Æ)<((úb).length:Â))=decide (m<(Õ).length):=by rw[n];show ëf Ê
  unfold qe;generalize vI z6=WW at *;generalize ub F=KK at *;generalize ZE F=YY at *;generalize zN dl=DD at *;by_cases c:m<(Õ).length;rw[ú c]at e1;by_cases c2:m∈F;rw[ú c2]at a;rw[Ē (λz=>z.2 c2)];simp only[Ø,e1,a];rw[Ē c2]at a;rw[ú {c,c2}];simp only[Ø,e1,a];rw[Ē c]at e1;rw[Ē (λz=>c z.1)];rw[Żq]
 exact((X6 _ _) Ôe).bind _=_;rw[k];rw[ϓq];rw[ú c,Ï c];let l:=A5 c.1
 let g:¬ yx Ŧa Čd=Ã:=by
  rw[show yx Ŧa Čd=decide žj from Iq m F,Ē c.2]
  decide
 let h:j_ 2 ř ĩj Ôe=À (.nx (qe z6 ňd dl ŭa)):=by
  exact(Οd (Ŧa) (ϊd ((Ôe).set 2 (À (Ã,.dic (wE Ŧa Čd) (wG Ŧa ſe Čd Ķ))))))=_;rw[Ï (by rw[y1a];rw[Ëq])];unfold wE wG;rw[Ñ g,Ñ g];let e1:ub F++[.inl (m:Æ)]=ub ňd:=by unfold ub;rw[ça];rfl
  let e2:ZE F++[.bl Ã]=ZE ňd:=by unfold ZE;rw[ça];rfl
  rw[e1,e2];rfl
 let e:=f_ (σ:=qe z6 ňd dl ŭa) (i:=3) (f:=e2 zJ ć ř) (xs:=zN dl) (ys:=zN Ĥb) rfl l (by rw[W2,W2];let:=CY z6 m;omega);rw[<-mL]at e;exact zR _ _ _=_;rw[tW h];show e;rw[Ē c,Ñ c];rfl
def x1i{z6:Á D}(h:(Õ).length<=100) :∀(M:Â){F dl:Á Â}{x4:É ä},RI (Õ).length Ϡc F dl->3*((Õ).length-ãg)+Ϫf<=M->M<=1000->∃F' y4,RI (Õ).length Ϡc F' []/\uz IH O4 (M+1) (qe z6 F dl x4)=À (.nx (qe z6 F' [] y4)):=by
 intro M
 induction M with
 |ň=>intro F dl x4 R b _;let:dl=[]:=Ϲg Ê;subst this;show{F,x4,R,UN rfl}|Ŝ M ih=>
  intro F dl x4 R b j;let d:=NG R.nd λf a=>(R.fl f a).1
  rcases āh dl with rfl|⟨dl',m,hdl⟩;show{F,x4,R,UN rfl};rw[Ăh]at hdl;subst hdl;let i:(Ťc).length=Ϟo+1:=by rw[ì];rfl
  let e:IH (qe z6 F Ťc x4)=À Ã:=by rw[úq];unfold IH qe;generalize vI z6=WW at this ⊢;generalize ub F=KK at this ⊢;generalize ZE F=YY at this ⊢;generalize zN Ťc=DD at this ⊢;simp only[Ø,this]
  rw[QX e (x1j Ê Ê)];rw[ϓq];rw[Ï c];show ih Äi ?_ Ê;let g:=NG (Äi).nd λf a=>((Äi).fl f a).1
  let k:=CY z6 m;rw[ì,åf]at g;rw[ì,ì,åf];omega;rw[Ñ c];show ih (x1r R (Decidable.not_and_iff_or_not.mp c |>.imp id λz=>Decidable.not_not.mp z)) Ê Ê
def x7h{l:Á Æ}(h:∀x∈l,0<=x):(Õa ģp).map Ϯd=l:=by
 rw[ϭ]
 conv=>rhs;rw[<-Ĝd l]
 show ùf λx a=>Ϲd (h x a)
def rP{z6:Á D}(P:PC z6)(A:(Õ).length<=60):∃R:Á Â,Ϩo (·<·)/\(∀i,i∈R↔i<(Õ).length/\jb (Õ).length Ϡc i)/\V9 ŧ=À (Ã,.lst ųd):=by
 let e1:=A4 P
 let{F,s,l,c}:=x1i (z6:=z6) Ê 200 (F:=[]) (dl:=[0]) (x4:=Å) {Ųa,Ňc,(λd w=>by cases Ľ w;show .zero),λ_=>.inr żg,λ_ h=>by cases h} (by exact 3*((Õ).length-0)+1<=200;omega) Ê
 let c:=U7 (200+1) c Ò;let B:=NG l.nd λf t=>(l.fl f t).1
 obtain⟨R,y⟩:∃R,R=(Îl).map ģp:={_,rfl};let n:=ßi (ϋd λi:Â=>(i:Æ))
 let m:Ϗe Ϯd=Ğd (ϋd λi:Â=>(i:Æ)):=by
  rw[y];show x7h λx u=>?_
  let{f,_,rfl}:=Ϻ (Ϸn u);omega
 let k:∀i,i∈R↔i∈F:=λi=>by
  let r:i∈R↔(i:Æ)∈Ϗe Ϯd:=⟨λh=>Ŗc {i,h,rfl},λh=>by
   rw[Žq]
   show this▸o⟩
  rw[r,m,n.mem_iff]
  show⟨λh=>by
   rw[Žq]
   show this▸o,λh=>Ŗc {i,h,rfl}⟩
 let p:Ϩo (·<·):=by
  let q:(ļp).Pairwise (·<=·):=by rw[m];show Ùn _
  let v:R.Nodup:=by
   let:(ļp).Nodup:=by rw[m,n.nodup_iff];show ÿh (l.nd.imp λh e=>h Ê)
   show(þl).imp λh e=>h Ûp
  rw[śm]at q;show q.imp₂ (λa b r z=>by let:a≠b:=z;omega) v
 let g:Gp [.dic Ŧa ſe]=À (Β ųd):=by exact(Zj Ŧa).bind _=_;rw[lG];exact(if(ϋd λi:Â=>(i:Æ)).length<64 then À (Ηb Îl)else Å)=_;rw[Ï (by rw[ã];omega),<-m,ϭ];rfl
 show{R,p,λi=>(k i).trans (x1p l i),?_};let c:Zw IH O4 [À (Ä,.lst z6),À (Ä,.lst úb),À (Ã,.dic [] []),À (Ã,.lst [.int 0]),Å]=À (.nx [À (Ä,.lst z6),À (Ä,.lst úb),À (Ã,.dic Ŧa ſe),À (Ã,.lst (zN [])),s]):=c;rw[z9i];unfold El;generalize zN R=RR at e1 c g ⊢;generalize zN []=DZ at e1 c g ⊢;generalize ub F=KK at e1 c g ⊢;generalize ZE F=YY at e1 c g ⊢;generalize vI z6=WW at e1 c g ⊢;simp only[Ø,e1,c,g]
def AE:FE:=(wP (zC Ĕ ϙh))
def rN:FA:=(p6 ı (eL vk (zC Ôf zE)))
def z1v:FE:=Ĕ
def AS:FT:=(tE (e2 Xv Ĕ ć))
def Ef:FS:=
 (zR (zm 1 (eL YX (zC (wO 1 (vm (zf V9 ĭa)) Ŭb xc AE) zE)))
  (vS (wO 1 rN Ŭb AS z1v)))
def Xf:Á D->É ä:=FR 1 2 Ef
def z9c(a:D):Xf [a]=yJ 2 Ef [a]:=rfl
def z1x:FE:=ć
def AW:FT:=(tE (e2 zh Ĕ ýf))
def Es:FS:=
 (vS (wO 2 ğj ìg AW z1x))
def Xh:Á D->É ä:=FR 1 1 Es
def z9o(a:D):Xh [a]=yJ 1 Es [a]:=rfl
def z1q:FE:=ć
def AM:FT:=(X6 (tE (e2 zh Þe Ŵi)) (tE (e2 zh ϣh (e2 zJ Ĕ Ϡa))))
def Cu:FS:=
 (vS (wO 2 (qD Ôf) ìg AM z1q))
def XY:Á D->É ä:=FR 1 1 Cu
def z89(a:D):XY [a]=yJ 1 Cu [a]:=rfl
def DT:FE:=(zf qq Àg)
def rM:FA:=(p6 ı (eL vk čc))
def z1u:FE:=ř
def AR:FT:=(X6 (tE (e2 wp ún ı)) (tE (e2 zh (e2 ëg ún (zf V7 ão)) ı)))
def Ee:FS:=
 (zR (zm 1 (wA V8 ĭa))
  (zR Àp
  (zR (zm 3 (wO 1 ęj Äk xc DT))
  (vS (wO 1 rM Äk AR z1u)))))
def Xe:Á D->É ä:=FR 1 4 Ee
def z9b(a:D):Xe [a]=yJ 4 Ee [a]:=rfl
theorem lU{g:FG}{c:FT}{e:FE}{σ:zx}(p:Â->Ð):∀{ds:Á D}(k:Â),(∀i d,ds[i]?=À d->∃σ1,g d σ=À σ1/\c σ1=À (p (k+i))/\e σ1=À (.int ((k+i:Â):Æ)))->wB g c e σ ds=À (zN ((Ňo).filter p))
 | [],_,_=>rfl|d::ds,k,h=>by
  let{σ1,e1,e2,b}:=h 0 d rfl
  let a:=lU p (ds:=ds) Ĩ λi j f=>by rw[show k+1+i=k+í by omega];show h í j Łh
  rw[Úq];exact(ϑj).bind _=_;rw[e2,Ć,ϥm,Éo];cases hp:p k with
  |Ä=>rw[óa Ńm];show a|Ã=>rw[ăa hp];exact(Şd).bind _=_;rw[b];exact(Ϲm).bind _=_;rw[a];rfl
nonrec def pN(n:Â)(p:Â->Ð):Á Â:=(İb).filter p
def W6{n:Â}{p:Â->Ð}{i:Â}:i∈pN n p↔i<n/\p i=Ã:=by unfold pN;rw[List.mem_filter,List.mem_range]
theorem B6{g:FG}{c:FT}{e:FE}{σ:zx}(p:Â->Ð){ds:Á D}(h:∀i d,ds[i]?=À d->∃σ1,g d σ=À σ1/\c σ1=À (p i)/\e σ1=À Ŵa):wB g c e σ ds=À (zN (pN þ p)):=by
 let:=lU (g:=g) (c:=c) (e:=e) (σ:=σ) p (ds:=ds) 0 λi d a=>by rw[ĸ];show h i d a
 rw[this,<-îf];rfl
def y4l{z6:Á D}(P:PC z6){R:Á Â}(f:V9 ŧ=À (Ã,.lst ųd)):Xf ŧ=À (Ã,.lst (zN ŷk)):=by
 let m:(Õ).length<=100:=ý όc Öc;rw[žq]
 let e1:wB Ŭb xc AE źb ųd=À (Ϗe λi:Â=>ό üd):=by
  let:=Zl (g:=yA 2) (e:=AE) (σ:=źb) ŋl (ds:=zN R) λd j=>{_,rfl,rfl}
  rw[this];rw[ŵq];rw[ϭ];rfl
 let{K,V,e2,l}:=fH R
 let b:rN [À (Ä,.lst z6),À (Ä,.dic K V)]=À Ÿm:=by show Z4 (n:=((Õ).length:Â)) ?_ Ê;generalize zB z6=RR at h ⊢;simp only[Ø,h]
 let a:=B6 (g:=yA 2) (c:=AS) (e:=z1v) (σ:=[À (Ä,.lst z6),À (Ä,.dic K V),Å]) (λi=>!decide Įg) (ds:=wt (Õ).length) λi d j=>by
  let{_,rfl}:=UK j;rw[šq]
  let k:Xv Ŵa Čc=À (ν Įg):=by exact(À (yx K śn)).bind _=_;rw[l];rfl
  unfold AS;simp only[Ø,k]
 rw[UL]at a;rw[z9c];unfold Ef;generalize zN ŷk=AA at f e1 e2 b a ⊢;generalize zN R=RR at f e1 e2 b a ⊢;generalize (Ϗe λi:Â=>ό üd)=TT at f e1 e2 b a ⊢;simp only[Ø,f,e1,e2,b,a]
def Zp(z6:Á D)(i:Â):Ð:=decide (yY z6 Ϧ=À í)
def y8d(o:É Â)(i:Â):zh (xC o) (Δ ŕi)=À (ι (o=À í)):=by
 cases o with
 |Å=>rfl|À p=>exact À (Ñb ((p:Æ)==(i:Æ)+1))=_;by_cases c:p=i+1;subst c;rw[ú rfl,show((i+1:Â):Æ)=(i:Æ)+1 by omega,ėb];rw[Ē (by intro z;cases z;show c rfl),Òb Ê]
theorem x7k{z6:Á D}(P:PC z6):Xh ŧ=À (Ã,.lst (zN Ĝl)):=by
 let f:=DG P
 let b:=B6 (g:=vO 1 2) (c:=AW) (e:=z1x) (σ:=źb) ϔj (ds:=p8 îh) λi d a=>by
  rw[W4,ė]at a;cases hr:Õ[i]? with
  |Å=>rw[hr]at a;cases a|À r=>
   rw[hr]at a;cases a
   let j:zp z6 i=r:=by let:=qI (ĵ hr).1;rw[hr]at this;show(ŷi).symm
   rw[šq];let h:=y8d Ŧc i;unfold AW Zp;rw[j];simp only[Ø,ϴ,h]
 rw[kj,ã]at b;rw[z9o];unfold Es;generalize zN Ĝl=AA at f b ⊢;generalize (Õ).map çi=ts at f b ⊢;simp only[Ø,f,qD,b]
nonrec def q_:D->Ð
 |.tup Šk=>(w == Ïa)&&(d==s)|_=>Ä
def z64{r:D}(h:yk r):∃b,zh Ňf ĉd=À ıb/\(b=Ã->∃x y,zJ r ýa=À x/\zJ r ôb=À y/\zh x y=À ďo)/\Ϗm:=by
 let a:∀{r:D},zh Ňf ĉd=À û->q_ r=Ä->∃b,zh Ňf ĉd=À ıb/\(b=Ã->∃x y,zJ r ýa=À x/\zJ r ôb=À y/\zh x y=À ďo)/\Ϗm:=λg f=>{Ä,g,nofun,λ_=>f}
 cases h with
 |ïa t=>show a rfl rfl|Ϫ h=>
  cases h with
  |Ϡ=>show a rfl rfl|Wo hw=>rcases hw with rfl|rfl<;>show a rfl rfl
  |@two w d s hw d0 d1 s0 s1=>have e:q_ èp=((w==(Ïa : Ç))&&(d==s)):=rfl;show{w == Ïa,Sc _ _,λc=>{_,_,rfl,rfl,?_},λc=>by rw[e,c];rfl};rw[e,c];rfl|Wp hw=>rcases hw with rfl|rfl<;>show a rfl rfl
  |mem hw=>rcases hw with rfl|rfl|rfl|rfl<;>show a rfl rfl
 |w8 t=>show a rfl rfl|š t hw hk=>rcases hw with rfl|rfl<;>show a rfl rfl
def z63{z6:Á D}(P:PC z6):XY ŧ=À (Ã,.lst (zN Ýl)):=by
 rw[žq]
 let f:=B6 (g:=vO 1 2) (c:=AM) (e:=z1q) (σ:=źb) (λi=>q_ Ϧ) (ds:=p8 Õ) λi d a=>by
  rw[W4]at a;cases hr:Õ[i]? with
  |Å=>rw[hr]at a;cases a|À r=>
   rw[hr]at a;cases a;let k:=(ĵ hr).1
   let n:zp z6 i=r:=by let:=qI k;rw[hr]at this;show(ŷi).symm
   let j:=(jz P k).1;rw[n]at j;let m:=iz j;let{b,l,o,t}:=z64 j;rw[šq];unfold AM;rw[n];cases b with
   |Ã=>let{x,y,p,s,q}:=o rfl;simp only[Ø,m,l,p,s,q]
   |Ä=>rw[t rfl];simp only[Ø,m,l]
 rw[kj]at f;rw[z89];unfold Cu;generalize zN Ýl=AA at h f ⊢;generalize zB z6=RR at h f ⊢;simp only[Ø,h,qD,f]
def gY(z6:Á D)(T:Á Â)(i:Â):Ð:=decide (Pf z6 i≠0)&&decide (ũl=0)
def z77(a:Â):zh çe ű=À (ι (a=0)):=by exact À (Ñb ((a:Æ)==0))=_;by_cases c:a=0;subst c;rfl;rw[Òb Ê,Ē c]
theorem y4k{z6:Á D}(P:PC z6){T:Á Â}(E:Ϻa=(Õ).length+1)(k:V8 ŧ=À (Ã,.lst üb)):Xe ŧ=À (Ã,.lst (zN úl)):=by
 let F:(Õ).length<=100:=ý όc Öc;let j:uO ŧ=À (Ã,.lst Õ):=Yv Ų;let o:=A4 P;obtain⟨a,m⟩:∃a:Á Â,a=(Ōc).map Ŧe:={_,rfl};let v:ìa=(Õ).length:=by rw[m,ã,Úa]
 let y:∀i,i<(Õ).length->gt a i=Pf z6 i:=λi b=>by unfold gt;rw[m,ő,ė,æc b];rfl
 let e1:wB Äk xc DT ÿk Õ=À ĩc:=by
  let:=B5 (g:=yA 4) (e:=DT) (σ:=ÿk) (λi=>.int (Pf z6 i:Â)) (ds:=zB z6) 0 λi d q=>by
   let b:=(ĵ q).1
   let B:zp z6 i=d:=by let:=qI b;rw[q]at this;show(ŷi).symm
   let r:=(BY P b).1;rw[B]at r;rw[Ýq];rw[ĸ];unfold DT;generalize zN T=TT at r ⊢;generalize vI z6=WW at r ⊢;simp only[Ø,r]
  rw[this,<-îf,m];rw[ŵq];rw[ϭ];rfl
 let l:rM ôk=À Ÿm:=by
  let:=Z4 (f:=eL vk čc) (τ:=ôk) (n:=((Õ).length:Â)) (by exact À (Ě ((ĩc).length:Â))=_;rw[W2,v]) Ê
  rw[ģ]at this;rw[Ôq]
 let h:=B6 (g:=yA 4) (c:=AR) (e:=z1u) (σ:=[À (Ä,.lst z6),À (Ä,.lst üb),À (Ä,.lst úb),À (Ä,.lst ĩc),Å]) Ýj (ds:=wt (Õ).length) λi d q=>by
  let{b,rfl}:=UK q;rw[šq];let s:=NC (T:=a) (i:=i) Ê;rw[y i b]at s;let x:=A5 b;let t:=mO (T:=T) (ws:=Wf z6 i) λw C=>by let:=Jr b C;omega
  let u:=E_ Ϩp (uH T ëe);let p:=mM Ϩp 0;let p:wp (.int (Pf z6 i:Â)) ű=À (ν (Pf z6 i=0)):=p;let A:=z77 ũl;unfold AR gY;generalize zN T=TT at *;generalize vI z6=WW at *;generalize zN a=PP at *;generalize zN ëe=WI at *;by_cases c:Pf z6 i=0;rw[ú c]at p;rw[Ē (λz=>z c),įf];simp only[Ø,s,p];rw[Ē c]at p;rw[ú c,ļf];simp only[Ø,s,p,x,t,u,A]
 rw[UL]at h;rw[z9b];unfold Ee;generalize zN úl=AA at k o j e1 l h ⊢;generalize zN T=TT at k o j e1 l h ⊢;generalize zN a=PP at k o j e1 l h ⊢;generalize vI z6=WW at k o j e1 l h ⊢;generalize wt (Õ).length=UU at k o j e1 l h ⊢;generalize zB z6=RR at k o j e1 l h ⊢;simp only[Ø,k,o,j,e1,l,h]
theorem NR:∀(ns acc:Á Æ),acc.Nodup->(Îo).Nodup/\∀x,x∈ŗi gQ acc↔x∈acc\/x∈ns
 | [],acc,h=>{h,λx=>{.inl,λz=>Ũ id λz=>by cases z}}|n::ns,acc,h=>by
  rw[Êa];by_cases c:(acc.any λm=>decide (m=n))=Ã;let e:gQ acc n=acc:=Ï c;rw[e];let{a,b}:=NR ns acc h;show{a,λx=>(b x).trans {λz=>Źd id (ŏ _),λz=>Ũ .inl λz=>?_}};rcases Ğ z with rfl|z;let{m,f,e}:=List.any_eq_true.mp c;show .inl (ţ e▸f);rw[ıq];let e:gQ acc n=acc++[n]:=Ñ c;rw[e];let d:n ∉ acc:=λz=>c (List.any_eq_true.mpr {n,z,ú rfl})
  let{a,b}:=NR ns (acc++[n]) (Āh {h,łc {ϝ,Ųa},λx i y g z=>d (by cases Ľ g;show z▸i)});show{a,λx=>(b x).trans ?_};rw[ϓh,Ĵh,ęa];show{λz=>Ũ (λz=>Ũ .inl λz=>.inr Řb) λz=>.inr ſa,λz=>Ũ în λz=>Ũ (λz=>.inl ſa) .inr}
theorem m9:∀{a b:Á Æ},ϣo (·<·)->ūi (·<·)->(∀x,x∈a↔x∈b)->a=b
 | [],[],_,_,_=>rfl| [],y::b,_,_,h=>by let:=(h y).mpr ÿ;cases this|x::a,[],_,_,h=>by let:=(h x).mp ÿ;cases this|x::a,y::b,ha,hb,h=>by
  rw[List.pairwise_cons]at ha hb
  let e:x=y:=by rcases Ğ ((h x).mp ÿ)with z|z;show z;rcases Ğ ((h y).mpr ÿ)with w|w;show w.symm;let:=hb.1 x z;let:=ha.1 y w;omega
  subst e
  rw[m9 ha.2 hb.2 λz=>⟨λc=>by
   rcases Ğ ((h z).mp ϧb)with w|w;let:=ha.1 z c;omega;show w,λc=>by
   rcases Ğ ((h z).mpr ϧb)with w|w;let:=hb.1 z c;omega;show w⟩]
theorem y8g(n:Â)(p:Â->Ð):((Ģj).map λi:Â=>(i:Æ)).Pairwise (·<·):=by rw[śm];unfold pN;show List.Pairwise.filter _ (List.pairwise_lt_range.imp λh=>by omega)
def x51{n:Â}(t:n<64){l:Á Â}(r:īb<1000){p:Â->Ð}(h:∀i,i∈l↔i<n/\p i=Ã):Tb [.lst Àk]=À (Β (zN Ģj)):=by
 let j:ϕa Àk=À (Õa λi:Â=>(i:Æ)):=by let:=ip (Õa λi:Â=>(i:Æ));rw[ϭ]at this;rw[Ôq]
 let{k,f}:=NR (Õa λi:Â=>(i:Æ)) [] Ųa;let e:=ßi Íd
 let o:(Äj).Pairwise (·<·):=by let q:(Äj).Nodup:=e.nodup_iff.mpr k;show(Ùn Íd).imp₂ (λa b s m=>by let:a≠b:=m;omega) q
 let g:Ğd Íd=(Ģj).map λi:Â=>(i:Æ):=m9 o (y8g n p) λx=>by
  rw[e.mem_iff,show x∈pA (Õa λi:Â=>(i:Æ))↔x∈([]:Á Æ)\/x∈Õa Ϯd from f x]
  rw[ńq];rintro(z|z);cases z;let{i,c,rfl}:=Ϻ z;show Ŗc {i,W6.mpr ((h i).mp c),rfl};intro z;let{i,c,rfl}:=Ϻ z;show .inr (Ŗc {i,(h i).mpr (ţg c),rfl})
 have d:(Íd).length<64:=by rw[<-e.length_eq,g,ã];unfold pN;let:=ŷg p İb;rw[Úa]at this;omega
 exact(ϕa Àk).bind _=_;rw[j];exact(if(Õa λi:Â=>(i:Æ)).length<1000/\(Íd).length<64 then À (Ηb Äj)else Å)=_;rw[Ï {by rw[ã];show r,d},g,ϭ];rfl
nonrec def jO:D->É Ç
 |.tup [_,.str t]=>À t|_=>Å
nonrec def Q3(g:Ç->Ç):D->D
 |.tup [a,.str t]=>.tup [a,.str (g t)]|.tup [a,b,.str t]=>.tup [a,b,.str (g t)]|d=>d
def Yf{d:D}(h:yk d)(a:xJ d=Ã):∃(hd:Á D) (t:Ç),d=.tup (hd++[.str t])/\hd≠[]/\ęe<=2/\(∀g,Q3 g d=.tup (hd++[.str (g t)]))/\(∀u,yk ďb/\xJ ďb=Ã/\zl ďb=Ä)/\(∀u,jO ďb=(Řg).map λ_=>u):=by
 cases h with
 |ïa u=>cases a|Ϫ h=>let{_,_,_,_,c,_}:=Zt h;rw[c]at a;cases a
 |w8 t=>show{[.str ļa],t,rfl,by simp,by simp,λ_=>rfl,λu=>{.w8 u,rfl,rfl},λ_=>rfl}|š t hw hk=>rename_i w k;show{[.str w,.str k],t,rfl,by simp,by simp,λ_=>rfl,λu=>{.cond u hw hk,by rcases hw with rfl|rfl<;>rfl,by rcases hw with rfl|rfl<;>rfl},λ_=>rfl}
def Vh{c:Á D}{t u:Ç}(e:c≠[])(d:üa<=2):Mf Ím Å Ϲo=À (.tup c)/\zJ Ím Ųc=À ťb/\xU (.tup c) (.tup [.str u])=À (.tup (c++[.str u])):=by
 match c,e,d with
 | [a],_,_=>show{rfl,rfl,rfl}| [a,b],_,_=>show{rfl,rfl,rfl}| [],h,_=>show Þ rfl h|_::_::_::_,_,h=>simp at h
section
variable(J:Â->É Ç)(pl:Ç->Â)
inductive qw:Â->Ç->Á Â->É Ç->È
 |Ϡ {a:Ç} {ϛ:Á Â}:J ła=Å->qw 0 a ϛ (À a)
 |YJ {a r:Ç} {ϛ:Á Â}:J ła=À r->pl a∈ϛ->qw 0 a ϛ Å
 |go {a r:Ç} {ϛ:Á Â} {k:Â} {o:É Ç}:J ła=À r->pl a ∉ ϛ->qw k r Ŏi o->qw Ĩ a ϛ o
def qo:Â->Ç->È
 |0,a=>J ła=Å|k+1,a=>∃r,J ła=À r/\qo k r
inductive VC:Â->Ç->Ç->È
 |refl {a:Ç}:VC 0 a a
 |Ŋa {a r b:Ç} {k:Â}:J ła=À r->VC k r b->VC Ĩ a b
#print a
section
variable{J:Â->É Ç}{pl:Ç->Â}
def x24{k:Â}{a:Ç}{b:Á Â}{o:É Ç}(h:qw J pl k a b o):∀{k':Â}{o':É Ç},qw J pl k' a b o'->o=o':=by
 induction h with
 |Ϡ h=>
  intro k' o' g;cases g with
  |Ϡ _=>rfl|YJ g _=>rw[h]at g;cases g|go g _ _=>rw[h]at g;cases g
 |YJ h m=>
  intro k' o' g;cases g with
  |Ϡ g=>rw[h]at g;cases g|YJ _ _=>rfl|go _ g _=>show Þ m g
 |go h m _ ih=>
  intro k' o' g;cases g with
  |Ϡ g=>rw[h]at g;cases g|YJ _ g=>show Þ g m|go g _ r=>rw[h]at g;cases g;show ih r
theorem U3{n:Â}(e:∀p r,J p=À r->p<n):∀(m:Â)(a:Ç)(ϛ:Á Â),seen.Nodup->(∀q∈ϛ,q<n)->n-seen.length<=m->∃k o,k<=m/\qw J pl k a ϛ o
 |m,a,ϛ,nd,hs,hm=>by
  cases h:J ła with
  |Å=>show{0,_,ŵ _,.stop h}|À r=>
   by_cases hi:pl a∈ϛ;show{0,_,ŵ _,.YJ h hi};let f:=e _ _ h;let b:(Ŏi).Nodup:=łc {hi,nd}
   let c:∀q∈pl a::ϛ,q<n:=λq d=>by rcases Ğ d with rfl|d;show f;show hs q d
   let:=IB n b c;rw[Ć]at this
   match m,hm with
   |0,hm=>omega|m+1,hm=>let{k,o,g,R}:=U3 e m r Ŏi b c Łm;show{k+1,o,by omega,.go h hi R}
def rZ{k:Â}{a:Ç}{c:Á Â}{o:É Ç}(R:qw J pl k a c o):∀{b:Ç},o=À b->J Ék=Å/\∃j,qo J pl j a:=by
 induction R with
 |Ϡ h=>intro b e;cases e;show{h,0,h}|YJ=>show nofun|go h _ _ ih=>intro b e;let{a,j,e}:=ih e;show{a,j+1,_,h,e}
theorem fW:∀{k k':Â}{a:Ç},qo J pl k a->qo J pl k' a->k=k'
 |0,0,_,_,_=>rfl|0,k'+1,_,h,⟨r,h',_⟩=>by rw[show J Êk=Å from h]at h';cases h'|k+1,0,_,⟨r,h,_⟩,h'=>by rw[show J Êk=Å from h']at h;cases h|k+1,k'+1,_,⟨r,h,e⟩,⟨r',h',e'⟩=>by rw[h]at h';cases h';rw[fW e e']
theorem y26{m:Â}{a b:Ç}(l:VC J pl m a b):∀{k:Â},qo J pl k a->∃k',k'+m=k/\qo J pl k' b:=by
 induction l with
 |refl=>show λ{k} h=>{k,rfl,h}|Ŋa e _ ih=>
  intro k h;cases k with
  |ň=>rw[show J Êk=Å from h]at e;cases e|Ŝ k=>let{r,c,f}:=h;rw[e]at c;cases c;let{k',e1,e2}:=ih f;show{k',by rw[<-e1];rfl,e2}
def z74{k:Â}{a b:Ç}(h:pl a=pl b)(e:qo J pl k a):qo J pl k b:=by
 cases k with
 |ň=>show(ķ J h).symm.trans e|Ŝ k=>let{r,d,c}:=e;show{r,by rw[<-h];show d,c}
def y27{m:Â}{a b r:Ç}(l:VC J pl m a b)(h:J Ék=À r):VC J pl (m+1) a r:=by
 induction l with
 |refl=>show .step h .refl|Ŋa e _ ih=>show .step e (ih h)
theorem PD:∀{k:Â}{a:Ç}{ϛ:Á Â},qw J pl k a ϛ Å->(∀q∈ϛ,∃m r b,J q=À r/\VC J pl m r b/\pl b=pl a)->¬ ∃j,qo J pl j a
 |_,a,ϛ,.YJ h hi,inv=>λ⟨j,e⟩=>by
  let{m,r,b,c,l,g}:=inv _ hi
  match j,e with
  |0,e=>rw[show J ła=Å from e]at c;cases c|j+1,⟨r',h',e'⟩=>rw[c]at h';cases h';let{n,e1,e2}:=y26 l e';let:=fW (z74 g e2) (show qo J pl ϫ a from{r,c,e'});omega
 |_,a,ϛ,.go (r:=r) h hi R,inv=>λ⟨j,e⟩=>by
  match j,e with
  |0,e=>rw[show J ła=Å from e]at h;cases h|j+1,⟨r',h',e'⟩=>rw[h]at h';cases h';show PD R (λq f=>?_) {j,e'};rcases Ğ f with rfl|f;show{0,r,r,h,.refl,rfl};let{m,i,b,d,l,g}:=inv q f;show{m+1,i,r,d,y27 l (by rw[g];show h),rfl}
#print a
nonrec def qF(J:Â->É Ç)(pl:Ç->Â)(t:Ç):Ç:=open ĥp in if h:∃o k,qw J pl k t [] o then(Classical.choose h).getD t else t
def Vl{J:Â->É Ç}{pl:Ç->Â}{t:Ç}{k:Â}{o:É Ç}(h:qw J pl k t [] o):qF J pl t=ūd t:=by let a:∃o k,qw J pl k t [] o:={o,k,h};unfold qF;rw[dif_pos a];let{c,b}:=Classical.choose_spec a;rw[x24 b h]
theorem y1v{J:Â->É Ç}{pl:Ç->Â}{n:Â}(s:∀p r,J p=À r->p<n)(t:Ç) :qF Êf pl (qF J pl t)=qF J pl t:=by
 let q:∀p r,Êf p=À r->p<n:=λp r h=>by
  cases e:J p with
  |Å=>rw[show Êf p=(J p).map Øj from rfl,e]at h;cases h|À r'=>show s p r' e
 let{k,o,_,R}:=U3 (pl:=pl) s n t [] Ųa Ňc Ĵa;rw[Vl R];cases o with
 |À b=>have h:=(rZ R rfl).1;show Vl (k:=0) (o:=À b) (.stop (by exact(J Ék).map _=Å;rw[h];rfl))|Å=>
  let x:=PD R Ňc;exact qF _ pl t=t
  let d:∀u,(¬ ∃j,qo J pl j u)->∃r,J ŕg=À r/\(¬ ∃j,qo J pl j r)/\qF J pl r=r:=λu g=>by
   cases e:J ŕg with
   |Å=>show Þ {0,e} g|À r=>
    let i:¬ ∃j,qo J pl j r:=λ⟨j,z⟩=>g {j+1,r,e,z}
    show{r,rfl,i,?_};let{l,f,_,c}:=U3 (pl:=pl) s n r [] Ųa Ňc Ĵa;rw[Vl c];cases f with
    |Å=>rfl|À b=>show Þ (rZ c rfl).2 i
  let m:∀{l:Â}{u:Ç}{a:Á Â}{f:É Ç},qw Êf pl l u a f->(¬ ∃j,qo J pl j u)->f=Å:=λ{l}=>by
   induction l with
   |ň=>
    intro u a f c g;let{r,i,_,_}:=d u g;cases c with
    |Ϡ h=>have h:(J ŕg).map Øj=Å:=h;rw[i]at h;cases h|YJ _ _=>rfl
   |Ŝ l ih=>
    intro u a f c g;let{r,i,w,v}:=d u g;cases c with
    |go h _ R2=>have h:(J ŕg).map Øj=À _:=h;rw[i,Õn,v]at h;cases h;show ih R2 w
  let{l,f,_,c}:=U3 (pl:=pl) q n t [] Ųa Ňc Ĵa;rw[Vl c,m c x];rfl
theorem Nf{t:Ç}:∀{L:Á D}(s:Â×É Â),vQ t∈L\/s.2.isSome=Ã->(Èe.2).isSome=Ã
 | [],s,h=>Ϩc ŭm id|d::L,s,h=>by
  rw[Êa];show Nf _ ?_;rcases h with h|h;rcases Ğ h with rfl|h;show .inr ?_;let:Tu t Æk=Ã:=ėb t;unfold uf;rw[show zl Æk=Ã from rfl];rw[Ûq];rw[this];rfl;show .inl h;show .inr ?_;unfold uf;cases zl d with
  |Ã=>
   rw[Ûq];cases Tu t d with
   |Ã=>rfl|Ä=>show h
  |Ä=>show h
def x4v{z6:Á D}(h:∀d∈z6,yk d){t:Ç}{p:Â}(e:čd.2=À p):vQ t∈z6:=by
 apply Ôh;intro b
 let:=mT (t:=t) (L:=z6) (s:=(0,Å)) λd a=>by
  cases ht:Iu t d with
  |Ä=>rfl|Ã=>show Þ (y0k ϋj ht▸a) b
 unfold xO at e;rw[this]at e;cases e
def ET:FS:=
 (yb (Zc Ãn (e2 zh (e2 zJ ĩf ı) Ňd)))
def JU:Á D->É ä:=FR 2 2 ET
def z92(a x1:D):JU ď=yJ 2 ET ď:=rfl
def Xz:FS:=(zR (ya (tE (e2 xV Ϣh (qX 3)))
     (yb ą)
     xM)
    (zR (j_ 3 Ϣh ĩj)
    (zm 4 (e2 zJ (e2 zJ ć Ϣh) ĥd))))
def Xr:FT:=(tE (zf JU ão))
def EI:FS:=
 (zR (qK 3 Ϲe)
  (zR (zm 4 ą)
  (zR (Zw Xr
   Xz)
  (zR (Yw 3) (yb ř)))))
def JO:Á D->É ä:=FR 3 5 EI
def z8s(b x1 a:D):JO ϲ=yJ 5 EI ϲ:=rfl
def AD:FE:=(pU (tE (zf Xa čc)) (e2 xU (kQ ĺ kq (ku ĥd)) (wP (Α (zf JO (zC (e2 zJ ĺ ĥd) (Τ ϻh)))))) ĺ)
def EU:FS:=
 (zR ύf
  (zR (zm 2 ūo)
  (vS (wO 1 ϵb Īc xc AD))))
def T6:Á D->É ä:=FR 1 3 EU
def z93(a:D):T6 [a]=yJ 3 EU [a]:=rfl
def jn(Ă:Á D)(p:Â):É Ç:=(Ŗp).bind jO
def Iz(Ă:Á D)(p:Â):jn Ă p=(Ŗp).bind jO:=rfl
def P7{d:D}(h:yk d)(a:zl d=Ä):∃w,zJ d ű=À Ř/\zh Ř ĕb=À (.bl (Řg).isSome)/\∀t,jO d=À t->d=.tup śh:=by
 cases h with
 |ïa u=>cases a|Ϫ h=>cases h with
  |Ϡ=>show{_,rfl,rfl,λt z=>by cases z}|Wo hw=>rcases hw with rfl|rfl<;>show{_,rfl,rfl,λt z=>by cases z}
  |two hw=>rcases hw with rfl|rfl|rfl|rfl|rfl|rfl|rfl|rfl|rfl<;>show{_,rfl,rfl,λt z=>by cases z}
  |Wp hw=>rcases hw with rfl|rfl<;>show{_,rfl,rfl,λt z=>by cases z}
  |mem hw=>rcases hw with rfl|rfl|rfl|rfl<;>show{_,rfl,rfl,λt z=>by cases z}
 |w8 u=>show{_,rfl,rfl,λt z=>by cases z;rfl}|š u hw hk=>rcases hw with rfl|rfl<;>show{_,rfl,rfl,λt z=>by cases z}
def xr(z6:Á D)(t:Ç):Â:=(śe).getD 0
def YM(z6:Á D)(t:Ç):È:=∃p,čd.2=À p
def Kq{z6:Á D}{t:Ç}(h:YM z6 t):čd.2=À (xr z6 t):=by let{p,e}:=h;unfold xr;rw[e];rfl
def P9{z6:Á D}(P:PC z6){p:Â}{d:D}(h:Õ[p]?=À d):d∈z6/\yk d/\zl d=Ä:=by let:=Ŏa (Ϸ h);show{this.1,Ų d this.1,by simpa using this.2}
def Xy{z6:Á D}(P:PC z6){p:Â}{r:Ç}(h:jn Õ p=À r):Õ[p]?=À âh/\YM z6 r/\p<(Õ).length:=by
 rw[Iz]at h;cases e:Õ[p]? with
 |Å=>rw[e]at h;cases h|À d=>rw[e]at h;let{m,f,i}:=P9 P e;let{w,a,b,c}:=P7 f i;let g:=c r h;subst g;show{rfl,?_,Še.1};let{t,q,e1,e2}:=Çd _ m rfl;cases e1;show{q,e2}
def lV{z6:Á D}(P:PC z6)(p:Â):JU [.lst Õ,.int (p:Æ)]=À (Ä,.bl (ſi).isSome):=by
 rw[z92];unfold ET;by_cases h:p<(Õ).length;let c:decide îl=Ã:=ú Ê;let e:Õ[p]?=À Õ[p]:=đ h;let{_,i,j}:=P9 P e;let{w,a,b,_}:=P7 i j;let f:zJ ϙf ţc=À Õ[p]:=jH Ê (by rw[ģ];show e);let g:jn Õ p=jO Õ[p]:=by rw[Iz,e];rfl
 rw[g];generalize Õ[p]=d at c f a b ⊢;generalize zB z6=RR at c f a b ⊢;simp only[Ø,c,f,a,b];let c:decide îl=Ä:=Ē Ê;let g:jn Õ p=Å:=by rw[Iz,Ùa Ê];rfl
 rw[g];generalize zB z6=RR at c ⊢;simp only[Ø,c];rfl
def y1y{z6:Á D}(P:PC z6){ks:Á ľ}{vs:Á D}(hk:∀t,ĉ ks vs ŏd=(śe).map λn:Â=>Ě n)(Ĵ:Ç) :∀{k:Â}{a:Ç}{ϛ:Á Â}{o:É Ç},qw ňe Ţe k a ϛ o->YM z6 a->∀(K:Á ľ) (V:Á D),âg=V.length->âg+k<=1000->(∀q:Â,yx K (.inl (q:Æ))=decide (q∈ϛ))->
  (∃b K' V',o=À b/\uz Xr Xz Ĩ Êd=À (.nx [À (Ä,.str Ĵ),À (Ä,.lst Õ),À (Ä,.dic ks vs),À (Ã,.dic K' V'),À (Ä,.str b)])) \/
  (o=Å/\uz Xr Xz Ĩ Êd=À Îm):=by
 let v:∀{a:Ç},YM z6 a->zJ (.dic ks vs) ûg=À ϴd:=λ{a} h=>by exact ĉ ks vs Ĺj=_;rw[hk,Kq h];rfl
 intro k
 induction k with
 |ň=>
  rw[īq];cases R with
  |Ϡ h=>
   show .inl {a,K,V,rfl,?_};rw[h]at f;rw[UN];rw[Õq]
  |YJ h hi=>
   show .inr {rfl,?_};rw[h]at f
   let c:xV ϴd Čc=À Ķ:=by exact(ϯm).bind _=_;rw[g,ú hi];rfl
   unfold uz
   let j:Xr Êd=À Ã:=by rw[Õq]
   let l:Xz Êd=À Îm:=by unfold Xz;generalize zB z6=RR at d c ⊢;simp only[Ø,d,c]
   rw[j];exact(Xz _).bind _=_;rw[l];rfl
 |Ŝ k ih=>
  rw[īq];cases R with
  |go h hi R=>
   rename_i r;let{B,A,C}:=Xy P h;rw[h]at f
   let c:xV ϴd Čc=À û:=by exact(ϯm).bind _=_;rw[g,Ē hi];rfl
   let s:zJ ϙf ϴd=À âh:=jH Ê (by rw[ģ];show B);let u:zJ âh Ųc=À (.str r):=rfl;let w:ua ϴd=À ϥe:=rfl;let i:âg<yX:=by rw[Ëq]
   let j:Xr Êd=À Ã:=by rw[Õq]
   let l:Xz Êd=À (.nx [À (Ä,.str Ĵ),À (Ä,.lst Õ),À (Ä,.dic ks vs),À (Ã,.dic żi ϸm),À (Ä,.str r)]):=by unfold Xz;generalize zB z6=RR at d c w i s u ⊢;simp only[Ø,d,c,j_,w,Ï i,s,u]
   let:=ih R A żi ϸm (W9 x) (by
    let:(żi).length<=âg+1:=by
     unfold wE
     split;rw[āq]
    omega) λq=>by
    rw[iT,g];by_cases e:q=xr z6 a;subst e;rw[ú (p:=(Į ((xr z6 a:Â):Æ):Sum Æ Ç)=Į ((xr z6 a:Â):Æ)) rfl,ėi,ú ϱ];rw[Ē (p:=(Į ((xr z6 a:Â):Æ):Sum Æ Ç)=Į (q:Æ)) Ôo,Ľf];show ëf {λz=>ŏ _ z,λz=>?_};rcases Ğ z with z|z;show Þ z e;show z
   rw[QX j l];rw[Ôq]
def y1w{z6:Á D}(P:PC z6){ks:Á ľ}{vs:Á D}(hk:∀t,ĉ ks vs ŏd=(śe).map λn:Â=>Ě n){t:Ç}(c:YM z6 t) :JO [.str t,.lst Õ,.dic ks vs]=À (Ä,.str (qF ňe Ţe t)):=by let rl:(Õ).length<=100:=ý όc Öc;let{k,o,a,R}:=U3 (J:=jn Õ) (pl:=xr z6) (n:=(Õ).length) Üf (Õ).length t [] Ųa Ňc Ĵa;rw[Vl R,z8s];unfold EI;rcases y1y P hk t R c [] [] rfl (by exact 0+k<=_;omega) (λq=>rfl)with⟨b,d,f,rfl,e⟩|⟨rfl,e⟩;rw[ýq];rw[ýq]
nonrec def vZ(z6:Á D)(t:Ç):Ç:=qF ňe Ţe t
nonrec def xP(z6:Á D)(d:D):D:=match xJ d with
 |Ã=>Q3 Ŝd d|Ä=>d
def y2a{z6:Á D}(P:PC z6):T6 ŧ=À (Ã,.lst Őa):=by
 let{s,m,e1,r}:=lQ Ų Ém;let e2:=Yv Ų
 let l:=Zl (g:=yA 3) (e:=AD) (σ:=[À (Ä,.lst z6),À (Ä,.lst Õ),À (Ä,.dic s m),Å]) ţe (ds:=z6) λd j=>by
  let a:=Ke Ŏp;rw[Ýq];unfold AD xP;cases z:xJ d with
  |Ä=>rw[z]at a;generalize zB z6=RR at a ⊢;simp only[Ø,a]|Ã=>
   rw[z]at a;let{w,p,b,v}:=Çd d j z;let{k,t,q,n,o,rl,_,_}:=Yf Ŏp z;let{h,c,i}:=Vh (t:=t) (u:=vZ z6 t) n o;rw[rl];subst q;rw[c]at b;injection b with b
   injection b with b
   subst b;let f:=y1w P r {p,v};unfold vZ at *;generalize qF ňe Ţe t=u at a h c f i ⊢;generalize zB z6=RR at a h c f i ⊢;generalize k++[Òa t]=dd at a h c f i ⊢;simp only[Ø,a,kQ,ku,kq,h,c,f,i]
 rw[z93];unfold EU;generalize ϝj ţe=LL at *;let e2:uO ŧ=À (Ã,.lst Õ):=e2;generalize zB z6=RR at e2 e1 l ⊢;simp only[Ø,e2,e1,l]
theorem lA{f:D->D}(t:Ç):∀{L:Á D}(s:Â×É Â),(∀d∈L,zl (f d)=zl d/\Űm)->(ŝj).foldl Ÿe s=Įd Ÿe s
 | [],_,_=>rfl|d::L,s,h=>by
  rw[Ļ,Êa,Êa,lA t _ λx c=>h x ϧb];let{a,b}:=h d ϱ
  congr 1
  unfold uf;rw[a];cases hl:zl d with
  |Ã=>rw[b hl]|Ä=>rfl
theorem l8{f:D->D}:∀{L:Á D},(∀d∈L,zl (f d)=zl d/\Űm)->(ŝj).filter zl=ÿc zl
 | [],_=>rfl|d::L,h=>by
  let{a,b}:=h d ϱ;let c:=l8 λx e=>h x ůp
  rw[Ļ];cases hl:zl d with
  |Ã=>rw[ăa (by rw[a];show hl),ăa hl,c,b hl]|Ä=>rw[óa Çm,óa êc,c]
theorem lB{f:D->D}:∀{L:Á D},(∀d∈L,zl (f d)=zl d)->(ŝj).filter Ėd=(Ŵh).map f
 | [],_=>rfl|d::L,h=>by
  let a:=h d ϱ;let b:=lB λx c=>h x ϧb
  rw[Ļ];cases hl:zl d with
  |Ã=>rw[óa Çm,óa êc,b]|Ä=>rw[ăa (by rw[a,hl];rfl),ăa Ϧh,b,Ļ]
theorem lg{z6:Á D}(P:PC z6):∀d∈z6,yk Ĵd/\xJ Ĵd=xJ d/\zl Ĵd=zl d/\(zl d=Ã->xP z6 d=d)/\jO Ĵd=(if xJ d=Ã then(Řg).map Ŝd else jO d):=λd b=>by
 unfold xP;cases z:xJ d with
 |Ä=>show{Ų d b,z,rfl,λ_=>rfl,by rw[Ñ Ħ]}|Ã=>
  let{i,t,g,j,k,rl,a,f}:=Yf (Ų d b) z;exact yk (Q3 Ŝd d)/\_;rw[rl,Ï rfl,f];let c:zl d=Ä:=by rw[g];show(a t).2.2
  refine{(a _).1,(a _).2.1,by rw[c];show(a _).2.2,(λy=>by rw[c]at y;cases y),?_};let:=f t;rw[<-g]at this;cases e:jO d with
  |Å=>rfl|À u=>rw[e]at this;let h:u=t:=Ϣ this;rw[h];rfl
def lL{z6:Á D}(P:PC z6){t:Ç}(d:YM z6 t):YM z6 Ēd:=by
 let{k,o,_,R}:=U3 (J:=jn Õ) (pl:=xr z6) (n:=(Õ).length) Üf (Õ).length t [] Ųa Ňc Ĵa;unfold vZ;rw[Vl R]
 let f:∀{k:Â}{a:Ç}{c:Á Â}{b:Ç},qw ňe Ţe k a c ħg->YM z6 a->YM z6 b:=λ{k}=>by
  induction k with
  |ň=>intro a c b R h;cases R;show h|Ŝ k ih=>
   intro a c b R h;cases R with
   |go e _ R=>show ih R (Xy P e).2.1
 cases o with
 |Å=>show d|À b=>show f R d
def Yj{z6:Á D}(P:PC z6):PC Őa/\(∀t,xO t Őa=xO t z6)/\zB Őa=(Õ).map ţe:=by
 let c:=lg P;let i:∀t,xO t Őa=xO t z6:=λt=>lA t _ λd a=>{ťe.2.2.1,ťe.2.2.2.1}
 show{{λd a=>?_,?_,λd a n=>?_,by rw[ã];show Öc},i,lB λd a=>ťe.2.2.1};let{x,g,rfl}:=Ϻ a;show(c x g).1;rw[l8 λd a=>{ťe.2.2.1,ťe.2.2.2.1}];show Èd;let{x,g,rfl}:=Ϻ a;let b:=n;rw[(c x g).2.1]at b;let{s,p,f,r}:=Çd x g b;let{h,t,m,j,k,rl,_,_}:=Yf (Ų x g) b
 let e:xP z6 x=.tup (h++[.str Ēd]):=by unfold xP;rw[b];show rl _
 let{_,l,_}:=Vh (t:=t) (u:=t) j k;rw[m,l]at f;injection f with f
 injection f with f
 subst f;let{q,o}:=lL P {p,r};show{vZ z6 t,q,?_,by rw[i];show o};rw[e];show(Vh (t:=vZ z6 t) (u:=t) j k).2.1
def y29{z6:Á D}(P:PC z6):(Őa).map (xP Őa)=ϝj ţe:=by
 let{G,s,rk}:=Yj P;let o:=lg P;let i:xr Őa=xr z6:=funext λt=>by unfold xr;rw[s]
 let x:jn (zB Őa)=λp=>(ſi).map Ŝd:=funext λp=>by
  rw[Iz,rk,ė];exact _=(ſi).map Ŝd;rw[Iz];cases e:Õ[p]? with
  |Å=>rfl|À d=>
   exact jO Ĵd=(Řg).map Ŝd;let{m,l,C}:=P9 P e;rw[(o d m).2.2.2.2];cases hj:xJ d with
   |Ã=>rw[Ï rfl]|Ä=>
    rw[Ñ Ħ];cases en:jO d with
    |Å=>rfl|À u=>let{_,_,_,c}:=P7 l C;let:=c u en;subst this;cases hj
 let q:∀t,vZ Őa Ēd=vZ z6 t:=λt=>by exact qF (jn (zB Őa)) (xr Őa) Ēd=_;rw[i,x];show y1v (n:=(Õ).length) Üf t
 rw[ϭ];show ùf λd y=>?_
 exact xP Őa Ĵd=xP z6 d;cases hj:xJ d with
 |Ä=>
  let e:xP z6 d=d:=by unfold xP;rw[hj]
  rw[e];unfold xP;rw[hj]
 |Ã=>
  let{a,t,F,E,I,rl,b,_}:=Yf (Ų d y) hj
  let e:xP z6 d=.tup ąn:=by unfold xP;rw[hj];show rl _
  rw[e];let{j,k,f,J,H,g,_,_}:=Yf ϒj.1 ϒj.2.1
  let e2:xP Őa (.tup ąn)=.tup (j++[.str (vZ Őa k)]):=by unfold xP;rw[ϒj.2.1];show g _
  let v:=D.tup.inj f;let{w,A}:=List.append_inj' v rfl;let B:vZ z6 t=k:=by injection A with z _;injection z
  rw[e2,<-B,q,w]
def AJ:FE:=(wP (zC ðb ϙh))
def Kx:FS:=(ya (tE (zf Xb Çj))
     Ϛn
     (zR (ya (tE (e2 Xv ĺ Ĕ))
       Ϛn
       xM)
      (zm 3 (e2 Ĩf ĺ ń))))
def Ew:FS:=
 (zR (zm 2 (Ιc (wO 1 (vm ć) Ŷe xc AJ)))
  (zR Ôp
  (zR (zm 3 ı)
  (zR (jS ϵb Ŏg
   Kx)
  Ëk))))
def TB:Á D->É ä:=FR 2 6 Ew
def z9s(a x1:D):TB ď=yJ 6 Ew ď:=rfl
def vY(a:Á Â)(s:Â×Á D)(d:D):Â×Á D:=match zl d with
 |Ã=>(s.1,s.2++[d])|Ä=>(s.1+1,if s.1∈a then s.2 else s.2++[d])
def uB(a:Á Â)(L:Á D):Â×Á D:=Įd (vY a) (0,[])
def y10(a:Á Â)(L:Á D)(d:D):uB a Ϲb=vY a Ńd d:=by unfold uB;rw[Řh];rfl
theorem Kj(a:Á Â):∀(L:Á D)(s:Â×Á D),Ϲh.2.length<=s.2.length+ϟ
 | [],s=>Ĭ _|d::L,s=>by
  rw[Êa];let h:=Kj a L Íp
  let:Íp.2.length<=s.2.length+1:=by
   unfold vY;cases zl d with
   |Ã=>exact(Óp).length<=_;rw[ì];show Ĭ _|Ä=>
    exact(ϩg).length<=_
    split;rw[āq]
  rw[Ć];omega
theorem lD(a:Á Â):∀(L:Á D)(s:Â×Á D),∀x∈Ϲh.2,x∈s.2\/x∈L
 | [],s,x,h=>.inl h|d::L,s,x,h=>by
  rw[Êa]at h;rcases lD a L _ x h with h|h;let:x∈s.2\/x=d:=by
   unfold vY at h;cases hl:zl d with
   |Ã=>rw[hl]at h;rcases ύ h with h|h;show .inl h;show .inr (Ľ h)
   |Ä=>
    rw[hl]at h;let h:x∈ϩg:=h
    rw[ìq];show .inl h;rcases ύ h with h|h;show .inl h;show .inr (Ľ h)
  rcases this with h|h;show .inl h;show .inr (h▸ÿ ..);show .inr (ŏ _ h)
def w1a{z6:Á D}(h:∀d∈z6,yk d)(w:ϊa<=100)(a:Á Â):TB [.lst z6,.lst ĩc]=À (Ã,.lst (uB a z6).2):=by
 let e1:wB Ŷe xc AJ Đk ĩc=À (Ìc λi:Â=>ό üd):=by
  let:=Zl (g:=yA 6) (e:=AJ) (σ:=Đk) ŋl (ds:=zN a) λd u=>{_,rfl,rfl}
  rw[this];rw[ŵq];rw[ϭ];rfl
 let{K,V,e2,q}:=fH a
 let{σ',l,m,rfl}:=kX (g:=yA 5) (b:=Kx) (λi σ=>∃m,σ=[À (Ä,.lst z6),À (Ä,.lst ĩc),À (Ä,.dic K V),À (Ä,.int ((īd.1:Â):Æ)),À (Ã,.lst īd.2),m]) (ds:=z6)
  (σ:=[À (Ä,.lst z6),À (Ä,.lst ĩc),À (Ä,.dic K V),À (Ä,.int 0),À (Ã,.lst []),Å]) 0 {Å,rfl} (by
  rintro i v σ k ⟨m,rfl⟩;rw[ĸ]at *;let n:i<ϊa:=(ĵ k).1;let t:z6[i]=v:=(ĵ k).2;let p:Ćg í=Ćg i++[v]:=by rw[Ñd n,t]
  let f:=Kf (h v (Ϸ k));let o:=Kj a Ŋc (0,[]);let lt:(Ŋc).length<=100:=by rw[åa];omega
  let c:Xv (.int ((īd.1:Â):Æ)) Čc=À (ν (īd.1∈a)):=by exact(À (yx K (.inl _))).bind _=_;rw[q];rfl
  let j:=Xp (L:=īd.2) (r:=v) (by let:īd.2.length<=0+(Ŋc).length:=o;omega);show{_,[À (Ä,.lst z6),À (Ä,.lst ĩc),À (Ä,.dic K V),À (Ä,.int ((Ñp.1:Â):Æ)),À (Ã,.lst Ñp.2),À (Ä,v)],rfl,.inl ?_,_,rfl};rw[p,y10];generalize uB a Ŋc=s at *;unfold Kx vY;cases hL:zl v with
  |Ã=>
   rw[hL]at f;simp only[Ø,f,j]
  |Ä=>
   rw[hL]at f;by_cases hm:s.1∈a
   .rw[ú hm]at c;simp only[Ø,f,c,Ï hm];rfl
   .rw[Ē hm]at c;simp only[Ø,f,c,j,Ñ hm];rfl)
 rw[ĸ,ŕc]at l;rw[z9s];unfold Ew;generalize zN a=QQ at e1 e2 l ⊢;simp only[Ø,e1,e2,l]
def Vk:FS:=(zR (zm 1 (e2 xU (e2 zJ (eC ϝb) (e2 xE Ăn žm)) ć))
    (zm 2 (e2 vC Ăn žm)))
def VN:FT:=(tE (e2 (Ζc (j<i)) Ĕ ı))
def EY:FS:=
 (zR (zm 1 ōn)
  (zR (zm 2 (e2 xU ą ń))
  (zR (Zw VN
   Vk)
  ĕj)))
def T7:Á D->É ä:=FR 1 3 EY
def z97(a:D):T7 [a]=yJ 3 EY [a]:=rfl
def nm(n:Â):Ç:=if n<26 then lt (n:Æ) ++ "" else lt ((n/26-1:Â):Æ)++(lt ((n%26:Â):Æ) ++ "")
def y4r{n left:Æ}{c:Ç}(f:üa<=100):Vk [À (Ä,.int n),À (Ä,.str c),À (Ä,.int left)]=À (.nx [À (Ä,.int n),À (Ä,.str (lt òi++c)),À (Ä,.int ϰn)]):=by let e:=CZ (k:=(left-1)%26) Ê Ê;let d:=ŕe (a:=lt òi) (b:=c) (by rw[O9];omega);unfold Vk;simp only[Ø,z3m,e,d]
theorem m_{n left:Æ}{a:Ç}:VN [À (Ä,.int n),À (Ä,.str a),À (Ä,.int left)]=À (decide (0<left)):=by unfold VN;simp only[Ø]
theorem NK{n left:Æ}{a:Ç}{k:Â}(h:0<left)(b:ìa<=100):uz VN Vk Ĩ ϊg =
  uz VN Vk k [À (Ä,.int n),À (Ä,.str (lt òi++a)),À (Ä,.int ϰn)]:=QX (m_.trans (by rw[ú h])) (y4r b)
def mz{n left:Æ}{a:Ç}{k:Â}(h:¬ 0<left):uz VN Vk Ĩ ϊg=À (.nx ϊg):=
 UN (m_.trans (by rw[Ē h]))
def y4i{n:Â}(h:n<702):T7 Įn=À (Ä,.str (nm n)):=by
 let a:∀{s:Ç}{left:Æ},Zw VN Vk [À (Ä,.int (n:Æ)),À (Ä,.str ""),À (Ä,.int Ϗo)]=À (.nx [À (Ä,.int (n:Æ)),À (Ä,.str s),À (Ä,.int left)])->T7 Įn=À (Ä,.str s):=λ{s left} h=>by rw[z97];unfold EY;simp only[Ø,ϴ,h]
 let e:(n:Æ)+1-1=n:=Int.add_sub_cancel _ _;unfold nm;by_cases c:n<26;rw[Ï c];refine a (left:=ϯn/26) (U7 2 ((ÿo).trans ?_));rw[mz Ê,e,şm Şe Ê];rw[Ñ c];let f:0<n/26:=Ńi (Ėf c) Ò;let g:n/26<27:=Nat.div_lt_of_lt_mul h;let b:(n:Æ)/26=((n/26:Â):Æ):=rfl;let d:(n:Æ)%26=((n%26:Â):Æ):=rfl;refine a (left:=(ϯn/26-1)/26) (U7 3 ((ÿo).trans ((NK (by rw[e,b];omega) (by rw[B8,O9];decide)).trans ?_)));rw[e,d,b];generalize n/26=q at *;rw[mz Ê,show((q:Æ)-1)%26=((q-1:Â):Æ) by omega]
theorem lK(v:Â->D):∀qs:Á Â,Zk (ħa λi:Â=>ό Ęi)=À (ħa λi:Â=>Į (i:Æ),ħa v)
 | []=>rfl|a::qs=>by exact(ua çe).bind _=_;exact(Zk (ħa λi:Â=>ό Ęi)).bind _=_;rw[lK v qs];rfl
theorem iI(v:Â->D)(n:Â):∀(qs:Á Â)(as:Á ľ) (ds:Á D),Ϭf=þ->ĉ ļk.1 ļk.2 Ğb=if n∈qs then À (v n)else ĉ as ds Ğb
 | [],as,ds,_=>by rw[Ñ ϝ];unfold wL;rfl|a::qs,as,ds,h=>by exact ĉ ìk.1 ìk.2 Ğb=_;rw[iI v n qs _ _ (W9 h),iJ h];by_cases c:n∈qs;rw[Ï c,Ï ϧb];rw[Ñ c];by_cases e:a=n;subst e;rw[Ï rfl,Ï ϱ];rw[Ñ Ôo,Ñ (λz=>(Ğ z).elim (λz=>e įb) c)]
theorem z6k(v:Â->D)(a:Á Â):∃K V,YX [.lst (Ìc λi:Â=>ό Ęi)]=À Čc/\(∀n:Â,yx K Ğb=decide (n∈a))/\∀n∈a,ĉ K V Ğb=À (v n):=by show{Įk.1,Įk.2,?_,λn=>?_,λn b=>?_};exact(Zk _).bind _=_;rw[lK];rfl;rw[KY ô,Iq];rfl;rw[iI v n a [] [] rfl,Ï b]
def z1t:FE:=Ĕ
def AQ:FT:=(tE (e2 IS Ĕ Ϸa))
def DS:FE:=(wP (zC ĺ (Α (zf T7 ϻh))))
def EZ:FS:=
 (zR (zm 1 (eL Tb (Α (wO 1 ϵb Ŭb AQ z1t))))
  (vS (Ιc (wO 2 (qD ć) Ĝj xc DS))))
def JV:Á D->É ä:=FR 1 2 EZ
def z98(a:D):JV [a]=yJ 2 EZ [a]:=rfl
def B0:FS:=(zR (ya (tE (e2 xV ř Ĕ))
     (qJ 3 tS (Ρ Đe Łk))
     xM)
    (qJ 3 tS (pU (tE (e2 Ze Ϥh Ϸa)) õb (e2 xU õb (wP (Α (e2 zJ ōg Ϥh)))))))
def EH:FS:=
 (zR (zm 2 (zf JV Ôb))
  (zR (qK 3 Ũb)
  (zR (jS Ġj (vO 4 5)
   B0)
  (zR (ya (tE (e2 xV Ϙb Ĕ))
   (ξd (zC (e2 zJ Ĕ Ϙb) zE))
   xM)
  (p_ 3)))))
def JN:Á D->É ä:=FR 2 6 EH
def z8r(a x1:D):JN ď=yJ 6 EH ď:=rfl
def AG:FE:=(pU Ϻm (kQ Ĕ kq (ku ĥd)) Ĕ)
def Ei:FS:=
 (zR (zm 1 (wO 1 ęj Ŭb xc AG))
  (vS (wA JN (Τ (zC ĭh zE)))))
def JX:Á D->É ä:=FR 1 2 Ei
def z9f(a:D):JX [a]=yJ 2 Ei [a]:=rfl
nonrec def X7(zG:Á ϕ):Á Â:=zG.filterMap id
def xL(n:Â)(zG:Á ϕ):Á Â:=pN Ĝ λi=>decide ŏi
def NY{n:Â}{zG:Á ϕ}(h:∀p,À p∈zG->p<=n){p:Â}:p∈xL n zG↔À p∈zG:=by
 unfold xL X7;rw[W6,ÿf,List.mem_filterMap]
 rw[ńq];rintro⟨_,a,b,e⟩;let e:a=À p:=e;show e▸b;show λz=>{Êe (h p z),À p,z,rfl}
def wv(n:Â)(zG:Á ϕ)(p:Â):Ç:=nm Ĕn
def nY(n:Â)(zG:Á ϕ):(Ýa).length<=n+1:=by unfold xL pN;let:=ŷg (λi=>decide ŏi) (ϡ Ĝ);rw[ŧq]
def y9v(n:Â)(zG:Á ϕ):(Ýa).Nodup:=by unfold xL pN;show ġm ám ůh
theorem NV:∀zG:Á ϕ,(Ęa).filter Øo=zN ĳg
 | []=>rfl|Å::zG=>by rw[Ļ,óa Ò,NV zG];rfl|À p::zG=>by rw[Ļ,ăa õg,NV zG];rfl
def y3i{n:Â}(u:n<=60){zG:Á ϕ}(v:Žc<=900)(h:∀p,À p∈zG->p<=n) :∃K V,JV [.lst Ęa]=À (Ã,.dic K V)/\(∀p:Â,yx K Èi=decide (p∈xL n zG))/\∀p∈xL n zG,ĉ K V Èi=À (.str Ŭf):=by
 let e1:=Vm (g:=yA 2) (c:=AQ) (e:=z1t) (σ:=[À (Ä,.lst Ęa),Å,Å]) Øo id (ds:=Ϥc xC) λd b=>by show{_,rfl,?_,λ_=>rfl};unfold AQ;simp only[Ø]
 rw[Ĝd,NV]at e1
 let e2:=x51 (n:=n+1) Ê (l:=X7 zG) (by
  let:(ĳg).length<=Žc:=List.length_filterMap_le _ _;omega) (p:=λi=>decide ŏi) λi=>by
  rw[ÿf];show{λz=>{?_,z},λz=>z.2};let{a,s,e}:=ŵl z;let e:a=À i:=e;show Êe (h i (e▸s))
 let e2:Tb [.lst (zN ĳg)]=À (.lst ďj):=e2;let{K,V,j,r,o}:=z6k (λp=>.str Ŭf) Ýa
 let k:wB Ĝj xc DS Ģk (p8 ďj)=À ((Ýa).map λp:Â=>ό Íf):=by
  let:=B5 (g:=vO 2 3) (e:=DS) (σ:=Ģk) (λi=>match Ýa[i]? with|À p=>ό Íf|Å=>.zO) (ds:=p8 ďj) 0 λi d b=>by
   rw[W4]at b;unfold zN at b;rw[ė]at b;cases hp:Ýa[i]? with
   |Å=>rw[hp]at b;cases b|À p=>
    rw[hp]at b;cases b;let f:=(ĵ hp).1;let t:=nY n zG
    let q:(Ýa).idxOf p=i:=by let e:Ýa[i]=p:=(ĵ hp).2;rw[<-e];show(y9v n zG).idxOf_getElem i f
    let m:=y4i (n:=i) Ê;rw[Ýq];rw[ĸ,hp];exact _=À (ό [.int p,.str (nm Ĕn)]);rw[q];unfold DS;generalize zN Ýa=PP at m ⊢;generalize Ϥc xC=TT at m ⊢;simp only[Ø,m]
  rw[this,<-îf,kj,W2];show ķ À (ìc λi=>?_);rw[ė,ė];by_cases f:i<(Ýa).length;rw[æc f,đ f];exact À (match Ýa[i]? with|À p=>ό Íf|Å=>.zO)=_;rw[đ f];rfl;rw[Ùa ńh,Ùa Ê];rfl
 show{K,V,?_,r,o};rw[z98];unfold EZ;generalize (Ýa).map (λp:Â=>ό Íf)=PR at e1 e2 k j ⊢;generalize zN Ýa=PP at e1 e2 k j ⊢;generalize zN ĳg=NN at e1 e2 k j ⊢;generalize Ϥc xC=TT at e1 e2 k j ⊢;simp only[Ø,e1,e2,qD,k,j]
nonrec def z3y:D->Ç->D
 |.tup xs,s=>.tup (xs++[.str s])|d,_=>d
def vn(n:Â)(zG:Á ϕ)(p:Â):Á D:=if p∈xL n zG then[vQ Ŭf]else[]
def jR(n:Â)(zG:Á ϕ)(r:D):É Â->D
 |Å=>r|À p=>z3y r Ŭf
def wq(Ă:Á D)(zG:Á ϕ):Â->Á D
 |0=>[]|i+1=>wq Ă zG i++ēk
def kW(Ă:Á D)(zG:Á ϕ):Á D:=wq Ă zG Č++vn Č zG Č
def Ky(n:Â)(zG:Á ϕ)(p:Â):(Ŭo).length<=1:=by
 unfold vn
 split;show Ĭ _;show ŵ _
theorem B4(Ă:Á D)(zG:Á ϕ):∀i,(Đd).length<=2*i
 |0=>Ĭ _|i+1=>by unfold wq;rw[ì,ì,åf];let:=B4 Ă zG i;let:=Ky Č zG i;omega
def y1q{Ă:Á D}{zG:Á ϕ}(J:Č<=60)(Y:Žc=Č)(h:∀p,À p∈zG->p<=Č)(N:∀i p:Â,zG[i]?=À ŷj->∃hd:Á D,Ă[i]?=À (ό hd)/\hd≠[]/\ęe<=2) :JN [.lst Ă,.lst Ęa]=À (Ã,.lst űf):=by
 let{K,V,e1,I,S}:=y3i J Ê h
 let A:∀p:Â,xV ţc Čc=À (ι Āl):=λp=>by exact(À (yx K Èi)).bind _=_;rw[I];rfl
 let s:∀p∈xL Č zG,zJ Čc ţc=À (.str Ąd):=λp y=>S p y
 let C:∀(p:Â)(L:Á D)(f:FE)(σ:zx),σ[3]?=À ħm->σ[2]?=À (À (Ä,.dic K V))->f σ=À ţc->ϟ<=900->(∀L',f (σ.set 3 L')=f σ)->ya (tE (e2 xV f Ĕ)) (ξd (Α (e2 zJ ōg f))) xM σ=À (.nx (σ.set 3 (Χa (L++vn Č zG p)))):=λp L f σ B F E X _=>by
  let x:=A p;unfold vn;by_cases c:p∈xL Č zG;rw[Ï c];rw[ú c]at x;let m:=s p c;let l:=Xp (L:=L) (r:=vQ Ąd) Ê;unfold vQ at *;simp only[Ø,E,F,x,m,B,l];rw[Ñ c,Œ];rw[Ē c]at x
  let e:σ.set 3 ħm=σ:=by
   show ìc λj=>?_
   rw[ôd];by_cases z:3=j;subst z;rw[Ï rfl,Ï (ĵ B).1,B];rw[Ñ z]
  rw[e];simp only[Ø,E,F,x]
 let{σ',e2,o,w,rfl}:=kX (g:=vO 4 5) (b:=B0) (λi σ=>∃(o w:É Sl),σ=[À (Ä,.lst Ă),À (Ä,.lst Ęa),À (Ä,.dic K V),À (Ã,.lst Đd),o,w]) (ds:=p8 Ă)
  (σ:=øk) 0 {Å,Å,rfl} (by
  rintro i d σ hd ⟨o,w,rfl⟩;rw[ĸ]at *;rw[W4]at hd;cases hx:Ă[i]? with
  |Å=>rw[hx]at hd;cases hd|À r=>
   rw[hx]at hd;cases hd;let U:=(ĵ hx).1;let R:=B4 Ă zG i;let W:=Ky Č zG i;let O:ķf i .zO=r:=by rw[ő,hx];rfl
   let v:zG[i]?=À zG[i]:=đ Ê;let Q:łd i Å=zG[i]:=by rw[ő,v];rfl
   let a:zJ ύi Ŵa=À (xC zG[i]):=jH Ê (by rw[ģ,ė,v];rfl);let G:=C i Đd ř çk rfl rfl rfl Ê Īd;let k:=Xp (L:=wq Ă zG i++vn Č zG i) (r:=jR Č zG r zG[i]) łm;show{_,[À (Ä,.lst Ă),À (Ä,.lst Ęa),À (Ä,.dic K V),À (Ã,.lst (wq Ă zG í)),À (Ä,.int (i:Æ)),À (Ä,r)],rfl,.inl ?_,_,_,rfl};exact B0 çk=À (ϊd [À (Ä,.lst Ă),À (Ä,.lst Ęa),À (Ä,.dic K V),À (Ã,.lst (wq Ă zG i++ēk)),À (Ä,.int (i:Æ)),À (Ä,r)]);rw[O,Q,<-Ţ];unfold B0;rw[tW G];exact qJ 3 tS _ [À (Ä,.lst Ă),À (Ä,.lst Ęa),À (Ä,.dic K V),À (Ã,.lst Ĳk),À (Ä,.int (i:Æ)),À (Ä,r)]=_;cases hg:zG[i]with
   |Å=>
    rw[hg]at a k;let a:zJ ύi Ŵa=À .zO:=a;let l:tS śp r=À (Β Àl):=k;clear k;exact _=À (ϊd [À (Ä,.lst Ă),À (Ä,.lst Ęa),À (Ä,.dic K V),À (Ã,.lst Àl),À (Ä,.int (i:Æ)),À (Ä,r)]);generalize Ϥc xC=TT at a l ⊢;generalize wq Ă zG i++vn Č zG i=LL at a l ⊢;simp only[Ø,a,l]
   |À p=>
    rw[hg]at a k v;let{hd,q,H,T}:=N i p v;rw[hx]at q;cases q;let y:p∈xL Č zG:=(NY h).mpr (Ϸ v);let m:=s p y;let z:Ze ţc .zO=À û:=rfl;let a:zJ ύi Ŵa=À ţc:=a;let n:=(Vh (t := "") (u:=wv Č zG p) H T).2.2;let l:tS śp (.tup (hd++[.str Ąd]))=À (Β ĥk):=k;clear k;exact _=À (ϊd [À (Ä,.lst Ă),À (Ä,.lst Ęa),À (Ä,.dic K V),À (Ã,.lst ĥk),À (Ä,.int (i:Æ)),À (Ä,.tup hd)]);generalize wv Č zG p=u at a z m n l ⊢;generalize Ϥc xC=TT at a z m n l ⊢;generalize wq Ă zG i++vn Č zG i=LL at a z m n l ⊢;generalize ό (hd++[.str u])=dd at a z m n l ⊢;generalize ό hd=dh at a z m n l ⊢;simp only[Ø,a,z,m,n,l])
 rw[kj,ĸ]at e2;let R:=B4 Ă zG Č;let P:=C Č (wq Ă zG Č) Ϙb îk rfl rfl rfl Ê Īd;rw[z8r];unfold EH;exact((zR _ _ [À (Ä,.lst Ă),À (Ä,.lst Ęa),Å,Å,Å,Å]).bind _)=_
 rw[tW (σ':=[À (Ä,.lst Ă),À (Ä,.lst Ęa),À (Ä,.dic K V),Å,Å,Å]) (by generalize Ϥc xC=TT at e1 ⊢;rw[Żq])]
 rw[tW (σ':=øk) Ćm]
 rw[tW (σ':=îk) (by generalize Ϥc xC=TT at e2 ⊢;simp only[Ø,qD,e2])]
 rw[tW P];rfl
def xA(r:D):D:=match xJ r with
 |Ã=>match r with
  |.tup xs=>.tup Ķi|d=>d
 |Ä=>r
def xD(z6:Á D):Á ϕ:=(Õ).map (yY z6)
def pB(z6:Á D):Á D:=kW Ėa ſ
def G7{d:D}(h:yk d)(e:xJ d=Ã):∃hd:Á D,xA d=.tup hd/\hd≠[]/\ęe<=2/\Mf d Å Ϲo=À (.tup hd)/\∀u,yk ďb:=by let{hd,t,c,a,b,_,f,_}:=Yf h e;let{g,_,_}:=Vh (t:=t) (u:=t) a b;show{hd,?_,a,b,by rw[c];show g,λu=>(f u).1};unfold xA;rw[e];subst c;exact ό (ϡn).dropLast=_;rw[æd]
theorem z0r{z6:Á D}{r:D}{p:Â}(h:yY z6 r=À p):p<=(Õ).length:=by
 unfold yY at h
 rw[ìq];let:=Nc Úk z6 (0,Å) äa p h;rw[BV]at this;exact p<=(õh).length;omega;cases h
def nZ{z6:Á D}(P:PC z6)(m:(Õ).length<=60):JX ŧ=À (Ã,.lst ūb)/\∀d∈pB z6,yk d:=by
 let j:uO ŧ=À (Ã,.lst Õ):=Yv Ų;let x:=DG P
 let e1:=Zl (g:=yA 2) (e:=AG) (σ:=źb) xA (ds:=zB z6) λd a=>by
  let c:=Ų d (Ŏa a).1;let f:=Ke c;rw[Ýq];unfold AG;cases z:xJ d with
  |Ä=>
   rw[z]at f;let e:xA d=d:=by unfold xA;rw[z]
   rw[e];simp only[Ø,f]
  |Ã=>rw[z]at f;let{u,l,_,_,C,_}:=G7 c z;rw[l];simp only[Ø,f,kQ,ku,kq,C]
 let s:(Ėa).length=(Õ).length:=ã _
 let o:∀i p,ſ[i]?=À ŷj->∃r,Õ[i]?=À r/\yY z6 r=À p/\yk r/\xJ r=Ã:=λi p h=>by
  unfold xD at h;rw[ė]at h;cases e:Õ[i]? with
  |Å=>rw[e]at h;cases h|À r=>
   rw[e]at h;let h:À Ŧc=À ŷj:=h;injection h with h
   show{r,e,h,Ų r (Ŏa Űj).1,?_};cases z:xJ r with
   |Ã=>rfl|Ä=>unfold yY at h;rw[z]at h;cases h
 let v:∀p,À p∈xD z6->p<=(Ėa).length:=λp q=>by rw[s];let{r,_,e}:=Ϻ q;show z0r e
 have b:=y1q (Ă:=(Õ).map xA) (zG:=xD z6) Ê (by unfold xD;rw[ã,s]) v (λi p h=>by let{r,e,_,c,f}:=o i p h;let{a,l,A,E,_}:=G7 c f;show{a,by rw[ė,e,<-l];rfl,A,E})
 let k:gJ ŧ=À (Ã,.lst ((ſ).map xC)):=by rw[x];unfold xD;rw[ϭ];rfl
 clear x;show{?_,?_};rw[z9f];unfold Ei pB;generalize kW Ėa ſ=LL at j e1 k b ⊢;generalize (ſ).map xC=TT at j e1 k b ⊢;generalize (Õ).map xA=BB at j e1 k b ⊢;generalize zB z6=RR at j e1 k b ⊢;simp only[Ø,j,e1,k,b];let w:∀n p,∀d∈vn n ſ p,yk d:=λn p d a=>by
  unfold vn at a
  rw[æq];cases Ľ a;show .label _;cases a
 let F:∀i,i<=(Õ).length->∀d∈wq Ėa ſ i,yk d:=λi=>by
  induction i with
  |ň=>show λ_ d a=>by cases a|Ŝ i ih=>
   intro G d a;unfold wq at a;rcases ύ a with a|a;show ih Ê d a;rcases ύ a with a|a;show w _ _ d a;cases Ľ a;let m:Õ[i]?=À Õ[i]:=đ Ê;let t:=(Ŏa ůj).1;let e1:(Ėa).getD i .zO=xA Õ[i]:=by rw[ő,ė,m];rfl
   let e2:(ſ).getD i Å=yY z6 Õ[i]:=by unfold xD;rw[ő,ė,m];rfl
   rw[e1,e2];generalize Õ[i]=r at t;let c:=Ų r t;cases z:xJ r with
   |Ä=>
    let b:yY z6 r=Å:=by unfold yY;rw[z]
    let B:xA r=r:=by unfold xA;rw[z]
    rw[b,B];show c
   |Ã=>have:=(UI P t).1;rw[z]at this;let{p,q}:=Łb this;let{u,l,_,_,_,y}:=G7 c z;rw[q,l];show y _
 intro d a;unfold pB kW at a;rcases ύ a with a|a;show F _ (by rw[s];show Ĭ _) d a;show w _ _ d a
nonrec def B7:D->Ð
 |.int _=>Ã|.str _=>Ã|_=>Ä
def y28{x y:D}(c:B7 x=Ã)(d:B7 y=Ã):u8 4 x y=Ã/\ľh:=by
 cases x<;>first|(cases c;done)|skip
 all_goals (cases y<;>first|(cases d;done)|skip)
 rename_i a b;show{rfl,?_};rw[show xh ĸj ķj=Že from rfl,ŷc];rw[ûq];rw[ϊq];rw[ϊq];rename_i a b;show{rfl,?_};rw[show xh ûg İj=Že from rfl,ŷc];rw[ûq]
theorem Gc{p:D->Ð}{f:D->D->Ð}(h:∀x y,p x=Ã->p y=Ã->f x y=Ã/\ľh):∀{xs ys:Á D},(∀x∈xs,p x=Ã)->(∀y∈ys,p y=Ã)->pT f xs ys=Ã/\(Ϟa xs ys=Ã↔xs=ys)
 | [],[],_,_=>{rfl,{λ_=>rfl,λ_=>rfl}}| [],_::_,_,_=>{rfl,{λh=>(ģg).elim,nofun}}|_::_,[],_,_=>{rfl,{λh=>(ģg).elim,nofun}}|x::xs,y::ys,hx,hy=>by let{b,c}:=h x y (hx x ϱ) (hy y ϱ);let{d,g}:=Gc h (xs:=xs) (ys:=ys) (λz a=>hx z ώc) (λz a=>hy z ώc);show{?_,?_};exact Ĩh=Ã;rw[b,d];rfl;rw[show Ϟa ϔa (y::ys)=Ėh from rfl,Đ,c,g];show{λ⟨e1,e2⟩=>by rw[e1,e2],λe=>by injection e with e1 e2;show{e1,e2}}
def Q4:D->Ð
 |.tup xs=>ũd B7|_=>Ä
def x1x{x y:D}(e:Q4 x=Ã)(c:Q4 y=Ã):u8 5 x y=Ã/\ľh:=by
 cases x<;>first|(cases e;done)|skip
 cases y<;>first|(cases c;done)|skip
 rename_i d g;let{a,b}:=Gc (p:=B7) (f:=u8 4) (λx y=>y28) (ãa e) (ãa c);show{a,?_};rw[show xh (.tup d) (.tup g)=Ϟa d g from rfl,b];rw[ûq]
def x22{xs ys:Á D}(d:∀x∈xs,Q4 x=Ã)(e:∀y∈ys,Q4 y=Ã)[ĝe ĩg]:Zd ϧ Ĝa=À (decide ĩg):=by
 let{a,b}:=Gc (p:=Q4) (f:=u8 5) (λx y=>x1x) d e;exact(match u8 6 ϧ Ĝa with|Ã=>À èo|Ä=>Å)=_;rw[show u8 6 ϧ Ĝa=Ã from a];exact À èo=_;rw[show xh ϧ Ĝa=Ϟa xs ys from rfl];by_cases c:xs=ys;rw[ú c,b.mpr c];rw[Ē c];cases z:Ϟa xs ys with
 |Ä=>rfl|Ã=>show Þ (b.mp z) c
def iw{d:D}(h:yk d):Q4 d=Ã:=by
 cases h with
 |ïa u=>rfl|Ϫ h=>cases h<;>rfl|w8 u=>rfl|š u hw hk=>rfl
def y0o{xs ys:Á D}(a:∀x∈xs,yk x)(b:∀y∈ys,yk y)[ĝe ĩg]:wp ϧ Ĝa=À (ν ĩg):=by unfold wp;rw[x22 (λx h=>iw (a x h)) (λy h=>iw (b y h))];rfl
def y69{z6:Á D}(h:∀d∈z6,yk d):p9 6 äj=Ã:=çd λd a=>(Ix ϋj).choose_spec.2.2
def t9:FS:=(ya (tE (e2 wp Ĕ Ũb))
     (yb Ĕ)
     xM)
def E8:FS:=
 (zR (gW 1 Ŵg)
  (vS Ũb))
def JK:Á D->É ä:=FR 1 3 E8
def z8j(a:D):JK [a]=yJ 3 E8 [a]:=rfl
nonrec def jr:Á Řa->Á Â
 | []=>[]|l::ls=>if l.isEmpty=Ã then jr ls else l
nonrec def Ss:É ä->Á Â
 |À (_,.lst ds)=>ůe λd=>match d with
  |.int i=>ĝc|_=>0
 |_=>[]
theorem DJ(o:Ð)(R:Á Â):Ss (À (o,.lst ųd))=R:=by exact(ųd).map _=R;rw[ŵq];rw[ϭ];show List.map_id'' (λi=>ģ i) R
def Ti(z6:Á D)(R T:Á Â)(n:Â):Á Řa:=[pN n λi=>!decide Įg,pN n ϔj,pN n λi=>q_ Ϧ,pN n Ýj]
def Z3(a:Á D):Á Â:=jr (Ti a (Ss (V9 Ćj)) (Ss (V8 Ćj)) (Ϭc).length)
theorem i4:∀{ls:Á Řa} {n:Â},(∀l∈ls,∀i∈l,i<n)->∀i∈jr ls,i<n
 | [],_,_,_,h=>by cases h|l::ls,n,h,i,hi=>by
  unfold jr at hi
  split at hi;show i4 (λl a=>h l ώc) i hi;show h l ϱ i hi
def x0m{a:Á D}:∀i∈Z3 a,i<(Ϭc).length:=i4 λl b i c=>by unfold Ti at b;simp only[ęa,ϝ,Ļa]at b;rcases b with rfl|rfl|rfl|rfl<;>show(ţg c).1
def y3j(Y:Á Â):(Ŵe).isEmpty=Ğp:=by cases Y<;>rfl
theorem nC{z6:Á D}:∀(ps:Á (ýd×Á Â)) (x2:É Sl),(∀p∈ps,p.1 ŧ=À (Ã,.lst (zN p.2)))->
  ((jr (ϊ (·.2))=[]/\∃y2,gW 1 ϐk Ϟd=À (.nx [À (Ä,.lst z6),Å,y2])) \/
  gW 1 ϐk Ϟd=À (.rt Ä (.lst (zN (jr (ϊ (·.2)))))))
 | [],x2,_=>.inl {rfl,x2,rfl}|(F,Y)::ps,x2,h=>by
  let b:F ŧ=À (Ã,.lst Ŵe):=h (F,Y) ϱ;let a:=BH Ŵe;rw[y3j]at a;rw[Ļ,Ļ];exact(jr (Y::ϊ (·.2))=[]/\∃y2,(ñn).bind _=_)\/(ñn).bind _=_;unfold jr;cases e:Ğp with
  |Ã=>
   rw[e]at a
   let s:zR ãh t9 Ϟd=À (.nx [À (Ä,.lst z6),Å,À (Ä,.lst Ŵe)]):=by rw[Ęq]
   rw[s,Ï rfl];show nC ps _ λp c=>h p ϧb
  |Ä=>
   rw[e]at a;show .inr ?_
   let s:zR ãh t9 Ϟd=À (.rt Ä (Β Ŵe)):=by rw[Ęq]
   rw[s,Ñ Ħ];rfl
def y09{z6:Á D}(P:PC z6)(q:(Õ).length<=60):∃o,JK ŧ=À (o,.lst (zN (Z3 z6))):=by
 let{R,_,_,c}:=rP P q;let{T,k,b}:=BI P;let j:=y4l P c;let g:=x7k P;let f:=z63 P;let l:=y4k P k.len b
 let n:Z3 z6=jr áh:=by unfold Z3;rw[c,b,DJ,DJ]
 rw[n]
 let m:=nC (z6:=z6) [(Xf,pN (Õ).length λi=>!decide Įg),(Xh,pN (Õ).length ϔj),(XY,pN (Õ).length λi=>q_ Ϧ),(Xe,pN (Õ).length Ýj)] Å λp d=>by simp only[ęa,ϝ,Ļa]at d;rcases d with rfl|rfl|rfl|rfl;show j;show g;show f;show l
 rw[z8j];unfold E8;rcases m with⟨a,h,e⟩|e;let a:jr áh=[]:=a;rw[a];show{Ã,?_};let e:gW 1 Ŵg źb=À (.nx [À (Ä,.lst z6),Å,h]):=e;exact((zR _ _ źb).bind _)=_;rw[tW e];rfl;show{Ä,?_};exact(((gW 1 _ źb).bind _).bind _)=_;let e:gW 1 Ŵg źb=À (.rt Ä (Β (zN (jr áh)))):=e;rw[e];rfl
theorem lC(a:Á Â):∀(L:Á D)(s:Â×Á D),Ϲh.2.filter zl=s.2.filter zl++ÿc zl
 | [],s=>by rw[Øe,Œ];rfl|d::L,s=>by
  rw[Êa,lC a L];unfold vY;cases hl:zl d with
  |Ã=>exact(Óp).filter zl++_=_;rw[ıa,ăa hl,ăa hl,Øe,Ţ];rfl|Ä=>
   exact(ϩg).filter zl++_=_;rw[óa êc]
   split;rfl;rw[ıa,óa êc,Øe,Œ]
theorem Kl(f:Á Â):∀(L:Á D)(s:Â×Á D),(ώl).length<=(zB s.2).length+(Ła).length/\((∃q∈f,s.1<=q/\q<s.1+(Ła).length)->(ώl).length<(zB s.2).length+(Ła).length)
 | [],s=>{Ĭ _,λ⟨q,_,i,j⟩=>by let:(zB []).length=0:=rfl;omega}|d::L,s=>by
  rw[Êa];let{a,b}:=Kl f L (vY f s d)
  let e:(zB (d::L)).length=ûl+(Ła).length:=by
   unfold zB;cases hl:zl d with
   |Ã=>rw[óa êc];simp|Ä=>rw[ăa Ϧh,Ć];simp;omega
  rw[e]
  let g:∀x:Á D,(zB (x++[d])).length=(zB x).length+ûl:=λx=>by
   unfold zB;rw[ıa,ì];cases hl:zl d with
   |Ã=>rw[óa êc];rfl|Ä=>rw[ăa Ϧh];rfl
  cases hl:zl d with
  |Ã=>
   let k:vY f s d=(s.1,s.2++[d]):=by unfold vY;rw[hl]
   rw[k]at a b ⊢;let o:=g s.2;rw[hl,Ï rfl]at o;rw[o]at a b;rw[Ï rfl];rw[űq];let:=b {q,h,i,by exact q<s.1+_;omega};omega
  |Ä=>
   let o:=g s.2;rw[hl,Ñ Ħ]at o;rw[Ñ Ħ];by_cases c:s.1∈f;let k:vY f s d=(s.1+1,s.2):=by rw[ąq];rw[Ï c]
   rw[k]at a b ⊢;dsimp only at a b ⊢;refine{by omega,λ_=>by omega};let k:vY f s d=(s.1+1,s.2++[d]):=by rw[ąq];rw[Ñ c]
   rw[k]at a b ⊢;rw[o]at a b;rw[űq];let l:s.1≠q:=λz=>c (z▸h)
   let:=b {q,h,by exact s.1+1<=q;omega,by exact q<s.1+1+_;omega};omega
theorem Kk:∀(L:Á D)(s:Â×Á D),(Įd (vY []) s).2=s.2++L
 | [],s=>by rw[Œ];rfl|d::L,s=>by
  rw[Êa,Kk L]
  let:(vY [] s d).2=s.2++[d]:=by
   unfold vY;cases zl d with
   |Ã=>rfl|Ä=>exact(if s.1∈([]:Á Â)then s.2 else s.2++[d])=_;rw[Ñ ϝ]
  rw[this,Ţ];rfl
def y0z{L:Á D}(P:PC L)(a:Á Â):PC Ńd.2:=by
 let f:∀x∈Ńd.2,x∈L:=λx j=>by rcases lD a L (0,[]) x j with h|h;cases h;show h
 let c:Ńd.2.filter zl=ÿc zl:=lC a L (0,[]);refine{λd b=>Ų d (f d b),by rw[c];show Èd,λd b l=>?_,?_};let{t,p,e1,e2}:=Çd d (f d b) l;let g:=x4v Ų e2
 let k:vQ t∈Ńd.2:=by let:vQ t∈ÿc zl:=éd {g,rfl};rw[<-c]at this;show(Ŏa this).1
 let{q,i}:=Łb (Nf (0,Å) (.inl k));show{t,q,e1,i};let:=Kj a L (0,[]);let e:Ńd.2.length<=0+ϟ:=this;let:=Öc;omega
nonrec def xB(z6:Á D):Á D:=ϝj ţe
nonrec def tK(z6:Á D):Á D:=(uB ög ţb).2
def Vn{z6:Á D}(P:PC z6):(zB ţb).length=(Õ).length:=by unfold xB;rw[Ÿd.2.2,ã]
theorem D6{z6:Á D}(P:PC z6):PC Ťe/\(zB Ťe).length<=(Õ).length:=by let a:PC ţb:=Ÿd.1;show{y0z a _,?_};let:=(Kl ög ţb (0,[])).1;let e:(zB Ťe).length<=0+(zB ţb).length:=this;rw[Vn P]at e;omega
inductive Xo:Â->Á D->Á D->È
 |fin {a:Á D}:tK a=a->Xo 0 a a
 |go {a b:Á D} {k:Â}:tK a≠a->Xo k Çk b->Xo Ĩ a b
theorem z06:∀(n:Â){a:Á D},PC a->(Ϭc).length<=n->∃k b,k<=n+1/\Xo k a b
 |n,a,P,hn=>by
  by_cases c:tK a=a;show{0,a,ŵ _,.fin c};by_cases q:Z3 Ϯc=[];let e:tK a=xB a:=by unfold tK uB;rw[q,Kk];rfl
  let h:PC Ϯc:=Ÿd.1;let e2:xB Ϯc=xB a:=y29 P
  let g:tK Ϯc=xB a:=by unfold tK uB;rw[e2,q,Kk];rfl
  show{1,xB a,by omega,.go c (by rw[e];show .fin g)};let{x,f}:=List.exists_mem_of_ne_nil _ q;let lt:=x0m x f;let d:=(Kl (Z3 Ϯc) Ϯc (0,[])).2 {x,f,ŵ _,by exact x<0+_;omega};let d:(zB Çk).length<0+(zB Ϯc).length:=d;rw[Vn P]at d
  match n,hn with
  |0,hn=>omega|n+1,hn=>let{k,b,i,S}:=z06 n (D6 P).1 Ê;show{k+1,b,by omega,.go c S}
def B3:FS:=(zR (zm 1 Ĕ)
    (zR (zm 3 (wA T6 Ôb))
    (zm 2 (zf TB (zC ĺ (Α (zf JK ŧo)))))))
def II:FT:=(tE (e2 IR Ĕ ć))
def En:FS:=
 (zR (zm 1 Ϸa)
  (zR (zm 2 ą)
  (zR (Zw II
   B3)
  (vS (wA JX Őb)))))
def Xg:Á D->É ä:=FR 1 4 En
def z9k(a:D):Xg [a]=yJ 4 En [a]:=rfl
def sW{i0:D}{z6:Á D}{x1 x3:É Sl}(P:PC z6)(c:(Õ).length<=60):∃y3,B3 [À (Ä,i0),x1,À (Ä,.lst z6),x3]=À (.nx [À (Ä,i0),À (Ä,.lst z6),À (Ä,.lst Ťe),y3]):=by let e1:T6 ŧ=À (Ã,.lst ţb):=y2a P;let b:PC ţb:=Ÿd.1;let{o,e2}:=y09 b (by rw[Vn P];show c);let a:TB [.lst ţb,.lst (zN ög)]=À (Ã,.lst Ťe):=w1a b.it b.ln _;show{À (Ä,.lst ţb),?_};unfold B3;generalize zN ög=QQ at e1 e2 a ⊢;generalize tK z6=SS at e1 e2 a ⊢;generalize xB z6=LL at e1 e2 a ⊢;simp only[Ø,e1,e2,a]
theorem x4d{i0:D}:∀{k:Â}{a b:Á D},Xo k a b->PC a->(Ϭc).length<=60->∀(x1:D)(x3:É Sl),IR Ōd x1=À Ķ->∃y3,uz II B3 (k+2) [À (Ä,i0),À (Ä,x1),À (Ä,.lst a),x3]=À (.nx [À (Ä,i0),À (Ä,.lst b),À (Ä,.lst b),y3]):=λ{k}=>by
 induction k with
 |ň=>
  intro a b S P c x1 x3 d;cases S with
  |fin h=>let{y3,e}:=sW (i0:=i0) (x1:=À (Ä,x1)) (x3:=x3) P c;rw[h]at e;show{y3,?_};let q:IR Ōd Ōd=À û:=mN (y69 Ų);rw[QX Æl e,UN (by unfold II;simp only[Ø,q])]
 |Ŝ k ih=>
  intro a b S P c x1 x3 d;cases S with
  |go h S=>
   let{y3,e}:=sW (i0:=i0) (x1:=À (Ä,x1)) (x3:=x3) P c;let{f,g}:=D6 P
   let q:IR (Β Çk) Ōd=À Ķ:=by
    haveI:=Classical.propDecidable (tK a=a)
    exact wp _ _=_;rw[y0o f.it Ų,Ē h];rfl
   rw[QX Æl e];show ih S f Ê Ōd y3 q
def z05{k:Â}{a b:Á D}(S:Xo k a b):PC a->PC b/\(zB b).length<=(Ϭc).length:=by
 induction S with
 |fin _=>show λP=>{P,Ĭ _}|go _ _ ih=>intro P;let{d,c}:=D6 P;let{f,e}:=ih d;show{f,ý e c}
def x4c{k:Â}{a b:Á D}(S:Xo k a b)(P:PC a)(d:(Ϭc).length<=60)(hk:k<=100):Xg Ćj=À (Ã,.lst (pB b)):=by let{f,g}:=z05 S P;let{c,_}:=nZ f Ê;let{h,e}:=x4d (i0:=.lst a) S P d .zO Å rfl;let e2:=U7 _ e (ý (show k+2<=102 by omega) Ò);rw[z9k];unfold En;generalize pB b=BB at e2 c ⊢;simp only[Ø,e2,c]
def z1s:FE:=(e2 zJ ϭc ń)
def AO:FT:=(Θd ϭc)
def rL:FA:=(p6 ı Ϙb)
def Vj:FS:=(zR (zm 6 (zf vh (Τ (Α (e2 xU ōg õb)))))
    (ya (ZA (Θd ün) (ZA (tE (e2 ļc ÿn Ϡa)) (tE (e2 zh ĺ Ũb))))
     (qJ 4 tS ün)
     (ya (tE (e2 zh ÿn Ϡa))
       (qJ 4 tS (wP (zC Ňd (Α (e2 zJ ĺ (e2 xE (e2 vC ðb ņb) (eL vk ŧo)))))))
       (qJ 4 tS (wP (zC Ŵi (zC ül (Α ül))))))))
def ES:FS:=
 (zR (zm 3 (wO 1 ϵb (yA 7) AO z1s))
  (zR Ôp
  (zR (jS rL Ŏg
   Vj)
  Ëk)))
def JS:Á D->É ä:=FR 3 7 ES
def z91(b x1 a:D):JS ϲ=yJ 7 ES ϲ:=rfl
inductive Vr(ns:Á Ç)(d:D):D->È
 |same:Vr ns d d
 |w8 {t:Ç}:zl d=Ä->t∈ns->Vr ns d Ýc
 |copy {y:D}:zl d=Ä->kH y->Vr ns d y
nonrec def vE(I:Á D)(s:D)(N L:Á D)(a x6:É Sl):zx:=[À (Ä,.lst I),À (Ä,s),À (Ä,.int 46),À (Ä,.lst N),À (Ã,.lst L),a,x6]
theorem w0p{I N L:Á D}{s d:D}{i m:Æ}{w:Ç}{x6:É Sl}{e h:Ð}(g:vh ϗh=À (Ä,.int m))(c:zJ ĵj Ϩ=À d)(a:zJ d ű=À Ř)(f:zh Ř ŀc=À (.bl e))(l:zh Ĵj ēc=À (.bl h))(k:ϟ<=1000)(j:(e||(decide ĭg||h))=Ã):Vj øm=À (.nx (vE I s N Ϲb ϭd Ĺh)):=by
 let b:=Xp (r:=d) k;unfold Vj vE;cases e with
 |Ã=>simp only[Ø,ϴ,g,c,a,f,b]|Ä=>
  cases k2:decide ĭg with
  |Ã=>simp only[Ø,ϴ,g,c,a,f,k2,b]|Ä=>
   rw[k2]at j;cases h with
   |Ã=>simp only[Ø,ϴ,g,c,a,f,k2,l,b]|Ä=>cases j
def w0o{I N L:Á D}{s d t:D}{i m:Æ}{w:Ç}{x6:É Sl}(k:vh ϗh=À (Ä,.int m))(g:zJ ĵj Ϩ=À d)(a:zJ d ű=À Ř)(j:zh Ř ŀc=À û)(h:zh Ĵj ēc=À û)(e:ϟ<=1000)(f:decide ĭg=Ä)(l:decide ϫn=Ã)(it:zJ Ĵj (Δ (m/4%(ŕ:Æ)))=À t):Vj øm=À (.nx (vE I s N (L++[bif decide (m%4=2)then .tup Ìo else .tup Ϗk]) ϭd Ĺh)):=by unfold Vj vE;by_cases h4:m%4=2;let c:=ib h4;rw[ú h4];let b:=Xp (r:=.tup Ìo) e;simp only[Ø,ϴ,k,g,a,j,f,h,c,l,it,b,Ϧi];let c:=ic h4;rw[Ē h4];let b:=Xp (r:=.tup Ϗk) e;simp only[Ø,ϴ,k,g,a,j,f,h,c,b,Ũi]
theorem w0q{I L:Á D}{ns:Á Ç}{s d:D}{i m:Æ}{x6:É Sl}(h:yk d)(p:vh ϗh=À (Ä,.int m))(k:zJ ĵj Ϩ=À d)(l:ϟ<=1000):∃y,Vr ns d y/\Vj (vE I s Ϧb L ϭd x6)=À (.nx (vE I s Ϧb (L++[y]) ϭd Ĺh)):=by
 let{w,a,j,_}:=Ix h;let g:zh (Β Ϧb) ēc=À (.bl (Ϧb).isEmpty):=by cases ns<;>rfl
 cases hb:zl d||(decide ĭg||(ϣ Òa).isEmpty)with
 |Ã=>show{d,.same,w0p p k a j g l hb}|Ä=>
  let{f,b}:=èh hb;let{b,o}:=èh b;rw[f]at j;rw[o]at g
  let c:0<(Ϧb).length:=by
   cases ns with
   |nil=>cases o|ñ _ _=>show Nat.zero_lt_succ _
  let q:=Õb (m/4) (ŏf ìh)
  let n:(m/4%((Ϧb).length:Æ)).toNat<ť:=by let:=Ďb (m/4) ìh;rw[ã]at *;omega
  let e:=w0o p k a j g l b (ú ìh) (jH q (by rw[ė,đ n];rfl)) (x6:=x6);show{_,?_,e};cases decide (m%4=2)with
  |Ã=>show .w8 f (ŋb n)|Ä=>show .copy f (.two Ť Ê Ê Ê Ê)
def w0m{ns:Á Ç}{xs ys:Á D}(h:XV (Vr ns) xs ys):ys.filter zl=xs.filter zl/\∀t s,ys.foldl Ÿe s=xs.foldl Ÿe s:=by
 induction h with
 |nil=>show{rfl,λ_ _=>rfl}|@cons x y _ _ r _ ih=>
  let k:y=x\/(zl x=Ä/\zl y=Ä):=by
   cases r with
   |same=>show .inl rfl|w8 h _=>show .inr {h,rfl}|copy h p=>show .inr {h,(Bj (m:=0) (.inl p)).choose_spec.2.2.1}
  rcases k with rfl|⟨hl,hy⟩;show{by rw[Ęf,Ęf,ih.1],λt s=>by rw[Êa,Êa,ih.2]};refine{by rw[óa (by rw[hy];decide),óa êc,ih.1],λu s=>?_};rw[Êa,Êa,ih.2]
  congr 1
  unfold uf;rw[hl,hy]
theorem w0n:∀{L:Á D},(∀d∈L,yk d)->∃ns:Á Ç,(ĉj).map Ŵk=ϣ Òa/\∀t∈ns,vQ t∈L:=λ{L}=>by
 induction L with
 |nil=>show λ_=>{[],rfl,λ_ h=>(Śd).elim}|ñ d L ih=>
  intro h;let{ns,c,b}:=ih λx g=>h x (ŏ _ g)
  cases hl:zl d with
  |Ä=>show{ns,by rw[óa êc,c],λt f=>ŏ _ (b t f)}|Ã=>let{t,rfl}:=Mu (h d ϱ) hl;show⟨t::ns,by rw[ăa hl,Ļ,c];rfl,λu a=>(Ğ a).elim (λe=>e▸ÿ ..) λa=>ŏ _ (b u a)⟩
def w0l{z6:Á D}(P:PC z6)(T:ϊa<=40){s:D}(K:∀i:Â,i<41->∃m:Æ,0<=m/\vh [s,.int Ąo]=À (Ä,.int m)):∃ϥj,PC ϥj/\items'.length=ϊa/\JS [.lst z6,s,.int 46]=À (Ã,.lst ϥj):=by
 let{ns,e1,u}:=w0n Ų
 let e1:=(Vm (g:=yA 7) (c:=AO) (e:=z1s) (σ:=[À (Ä,.lst z6),À (Ä,s),À (Ä,.int 46),Å,Å,Å,Å,Å]) zl Ŵk (ds:=z6) λd o=>by let{w,a,b,_}:=Ix ōp;show{_,rfl,?_,λW=>?_};unfold AO;rw[Łq];let{t,rfl}:=Mu ōp W;rfl).trans (ķ À e1)
 let G:rL (vE z6 s Ϧb [] Å Å)=À (wt ϊa):=Z4 (n:=(ϊa:Æ)) rfl Ê
 let{σ',e2,L,E,x6,q,C,rfl}:=kX (g:=yA 5) (b:=Vj) (λi σ=>∃L E x6,ϟ=i/\(∀j x y,z6[j]?=À x->L[j]?=À y->Vr ns x y)/\σ=vE z6 s Ϧb L E x6) (ds:=wt ϊa) (σ:=vE z6 s Ϧb [] Å Å) 0 {[],Å,Å,rfl,(λ_ _ _ _ h=>by cases(List.getElem?_nil▸h)),rfl} (by
  rintro i v σ O ⟨L,E,x6,q,C,rfl⟩;let{F,rfl}:=UK O;rw[ĸ]at *;let{m,_,R}:=K i Ê;let H:=đ F;let{y,Q,S}:=w0q (ns:=ns) (x6:=x6) (Ų _ (ŋb F)) R (jH şe H) (L:=L) Ê;refine{_,_,rfl,.inl S,L++[y],_,_,by rw[ì,q];rfl,λj x z f l=>?_,rfl};rw[List.getElem?_append]at l
  split at l;show C j x z f l;rename_i c
  obtain⟨e,rfl⟩:j-ϟ=0/\y=z:=by
   cases k:j-ϟ with
   |ň=>rw[k]at l;cases l;show{rfl,rfl}|Ŝ _=>rw[k]at l;cases l
  obtain rfl:j=i:=by omega
  rw[H]at f;cases f;show Q)
 rw[UL,ĸ]at q;let A:=fS q.symm C;let{U,r}:=w0m A;let r:∀t,xO t L=xO t z6:=λt=>r t _
 show{L,{λd o=>?_,by rw[U];show Èd,λd o B=>?_,by let:=Öc;omega},q,?_};let{x,f,h}:=Ma A d o;cases h with
 |same=>show Ų _ f|w8=>show .w8 _|copy _ h=>show .plain h
 let{x,f,h}:=Ma A d o;cases h with
 |same=>let{t,p,I,N}:=Çd _ f B;show{t,p,I,(ϋn).trans N}
 |@w8 t _ ht=>let{p,J}:=Łb (Nf (L:=z6) (0,Å) (.inl (u t ht)));show{t,p,rfl,(ϋn).trans J}
 |copy _ h=>rw[(Zt h).choose_spec.2.2.2.1]at B;cases B
 rw[z91];unfold ES;unfold vE at *;generalize ϣ Òa=NN at e1 G e2 ⊢;simp only[Ø,e1,G,e2]
theorem MQ(a b:Ç):(že).cps.toList=Ão++Âo:=çc
def y4h{a b:Â}(j:a<702)(i:b<702)(h:nm a=nm b):a=b:=by
 let c:=ķ ĸn h;let e:∀x:Â,(lt (x:Æ)).cps.toList=[97+x]:=λ_=>rfl
 let d:(("" : Ç)).cps.toList=[]:=rfl;unfold nm at c;by_cases ca:a<26;by_cases cb:b<26;simp only[Ï ca,Ï cb,MQ,e,d,Œ,Ùe]at c;omega;simp only[Ï ca,Ñ cb,MQ,e,d,Œ,Ōb,òc,Ùe]at c;show Þ c.2 æa;by_cases cb:b<26;simp only[Ñ ca,Ï cb,MQ,e,d,Œ,Ōb,òc,Ùe]at c;show Þ c.2 æa;simp only[Ñ ca,Ñ cb,MQ,e,d,Œ,Ōb,òc,Ùe]at c;let f:0<a/26:=Ńi (Ėf ca) Ò;let g:0<b/26:=Ńi (Ėf cb) Ò;let e1:=ěh c.1;let e2:=ěh c.2.1;rw[<-Ön a 26,<-Ön b 26,e2,<-ïd f,<-ïd g,e1]
section
variable{n:Â}{zG:Á ϕ}
def mQ(k:n<=60){p q:Â}(c:p∈xL n zG)(f:q∈xL n zG)(h:wv n zG p=wv n zG q):p=q:=by
 let j:=nY n zG;let a:=ñl c;let b:=ñl f;let e:=y4h Ê Ê h;let g:Ýa[(Ýa).idxOf p]=p:=ğm a;let d:Ýa[(Ýa).idxOf q]=q:=ğm b;rw[<-g,<-d]
 show ķ (λi=>(Ýa).getD i 0) e |> λz=>by rw[ő,ő,đ a,đ b]at z;show z
#print a
structure Xk(Ă:Á D)(zG:Á ϕ):È where
 z34:Č<=60
 ln:Žc=Č
 le:∀p,À p∈zG->p<=Č
 nl:∀i,i<Č->zl (jR Č zG ōo (łd i Å))=Ä
section
variable{Ă:Á D}{zG:Á ϕ}
def Kz{n p:Â}:∀d∈vn n zG p,zl d=Ã:=λd a=>by
 unfold vn at a
 rw[æq];cases Ľ a;rfl;cases a
def lP{n p:Â}:zB Ŭo=[]:=List.filter_eq_nil_iff.mpr λd a=>by
 rw[Kz d a]
 decide
def P8(a b:Á D):zB že=zB a++zB b:=ıa ..
theorem Bk(Y:Xk Ă zG):∀i,i<=Č->zB Đd=(ϡ i).map λj=>jR Č zG Ōo Ŋo
 |0,_=>rfl|i+1,h=>by
  unfold wq;rw[P8,P8,Bk Y i Ê,lP,òc,ġf,ça]
  congr 1
  exact ıo _ [_]=_;rw[ăa (by rw[Y.nl i Ê];rfl)];rfl
def x21(Y:Xk Ă zG):zB űf=(ϡ Č).map λj=>jR Č zG Ōo Ŋo:=by unfold kW;rw[P8,Bk Y _ Ď,lP,Œ]
theorem lR(Y:Xk Ă zG):∀i,i<=Č->(Đd).filter zl=(Υd (ϡ i)).map λp=>vQ Ąd
 |0,_=>rfl|i+1,h=>by
  unfold wq;rw[ıa,ıa,lR Y i Ê,ġf,ıa,ça]
  congr 1
  rw[óa (by rw[Y.nl i Ê];decide),Øe,Œ,çh Kz];rw[ſq];rw[śq]
def y1s(Y:Xk Ă zG):(űf).filter zl=(Υd (ϡ (Č+1))).map λp=>vQ Ąd:=by
 unfold kW;rw[ıa,lR Y _ Ď,ġf,ıa,ça]
 congr 1
 rw[çh Kz];unfold vn;by_cases c:Č∈xL Č zG;rw[śq]
def ng(Y:Xk Ă zG){q:Â}(a:q∈xL Č zG)(L:Á D)(i:Â)(hi:(Ła).length=i)(h:(xO ńf L).2=if q<i then À q else Å):(xO ńf (L++vn Č zG i)).2=if q<i+1 then À q else Å:=by
 rw[ſq];rw[Ï c,Nb];by_cases e:i=q;subst e;rw[Ï rfl,Ï Ê];show ķ À hi;rw[Ñ (λz=>e (mQ Y.z34 c a z)),h];rw[őq];rw[Ñ c,Œ,h];let e:i≠q:=λz=>c (z▸a)
 rw[őq]
theorem ni(Y:Xk Ă zG){q:Â}(a:q∈xL Č zG):∀i,i<=Č->(xO ńf Đd).2=if q<i then À q else Å
 |0,_=>rfl|i+1,h=>by unfold wq;rw[<-Ţ,Nd (Y.nl i Ê)];show ng Y a _ i (by rw[Bk Y i Ê,ã,Úa]) (ni Y a i Ê)
def y9z(Y:Xk Ă zG){q:Â}(a:q∈xL Č zG):(xO ńf űf).2=À q:=by unfold kW;rw[ng Y a _ Č (by rw[Bk Y _ Ď,ã,Úa]) (ni Y a _ Ď)];let:=(NY Y.le).mp a;let:=Y.le q this;rw[Ï Ê]
#print a
def y9y{z6:Á D}(P:PC z6)(f:(Õ).length<=60):Xk Ėa ſ/\∀i,i<(Õ).length->ðk\/(xJ Ϧ=Ã/\∃(hd:Á D) (p:Â),yY z6 Ϧ=À p/\xA Ϧ=.tup hd/\hd≠[]/\ęe<=2/\p∈xL (Õ).length ſ/\jR (Õ).length ſ ßf Þf=.tup Ân/\∀u,yk ďb/\xJ ďb=Ã/\zl ďb=Ä):=by
 let j:(Ėa).length=(Õ).length:=ã _
 let d:∀p,À p∈xD z6->p<=(Õ).length:=λp b=>by let{r,_,e}:=Ϻ b;show z0r e
 let a:∀i,i<(Õ).length->ðk\/(xJ Ϧ=Ã/\∃(hd:Á D) (p:Â),yY z6 Ϧ=À p/\xA Ϧ=.tup hd/\hd≠[]/\ęe<=2/\p∈xL (Õ).length ſ/\jR (Õ).length ſ ßf Þf=.tup Ân/\∀u,yk ďb/\xJ ďb=Ã/\zl ďb=Ä):=λi c=>by
  let f:=qI c;let l:zp z6 i∈z6:=(Ŏa (Ϸ f)).1;let e1:(Ėa).getD i .zO=xA Ϧ:=by rw[ő,ė,f];rfl
  let e2:(ſ).getD i Å=yY z6 Ϧ:=by unfold xD;rw[ő,ė,f];rfl
  rw[e1,e2];let s:=Ų _ l;cases z:xJ Ϧ with
  |Ä=>
   let v:yY z6 Ϧ=Å:=by unfold yY;rw[z]
   let m:xA Ϧ=zp z6 i:=by unfold xA;rw[z]
   rw[v,m];show .inl {rfl,rfl,rfl}
  |Ã=>
   let:=(UI P l).1;rw[z]at this;let{p,b}:=Łb this;let{hd,t,q,n,o,_,g,_}:=Yf s z
   let k:xA Ϧ=.tup hd:=by unfold xA;rw[z,q];exact ό (ϡn).dropLast=_;rw[æd]
   let h:À p∈xD z6:=Ŗc {_,Ϸ f,b};show .inr {rfl,hd,p,b,k,n,o,(NY d).mpr h,?_,g};rw[b,k];rfl
 refine{{by omega,by unfold xD;rw[ã,j],λp b=>by rw[j];show d p b,λi c=>?_},a};rw[j]at c ⊢;rcases a i c with⟨_,_,e⟩|⟨_,hd,p,_,_,_,_,_,e,g⟩;rw[e];show(jz P c).2;rw[e];show ϟe.2.2
structure TL(X Y:Á D):È where
 bare:(Ĉ).map xA=(ŵe).map xA
 zG:xD X=xD Y
def y9x{z6:Á D}(P:PC z6)(O:(Õ).length<=45):PC ūb/\TL z6 ūb:=by
 let{Y,f}:=y9y P Ê;let w:(Ėa).length=(Õ).length:=ã _;let g:=x21 Y;let F:=y1s Y;rw[w]at g F;let g:zB ūb=(Ōc).map λj=>jR (Õ).length ſ ((Ėa).getD j .zO) ((ſ).getD j Å):=g
 let L:=(nZ P Ê).2
 let y:∀d∈pB z6,zl d=Ä->∃i,i<(Õ).length/\d=jR (Õ).length ſ ßf Þf:=λd l B=>by let:d∈zB ūb:=éd {l,by rw[B];rfl};rw[g]at this;let{i,c,e}:=Ϻ this;show{i,ód c,Ůd}
 let E:∀{q:Â},q∈xL (Õ).length ſ->(xO (wv (Õ).length ſ q) ūb).2=À q:=λ{q} H=>by let:=y9z Y (q:=q) (by rw[w];show H);rw[w]at this;rw[Ôq]
 let k:∀i,i<(Õ).length->xA Þl=xA Ϧ/\yY ūb Þl=yY z6 Ϧ:=λi c=>by rcases f i c with⟨z,m,e⟩|⟨z,l,p,m,G,v,A,s,e,C⟩;rw[e,m];show{rfl,by unfold yY;rw[z]};rw[e,m,G];let{I,r,Q}:=C Œk;show{?_,?_};unfold xA;rw[r];exact ό (l++[Òa _]).dropLast=_;rw[æd];unfold yY;rw[r];exact(xO (Tv _) ūb).2=_;rw[Mv I r ŀk.2.1];show E s
 show{{L,?_,λd l o=>?_,?_},{?_,?_}};exact((kW _ _).filter zl).Nodup;rw[F];show ÿh (Įl (λ{a b} N J x=>?_) (ġm ám (ůh (n:=(Õ).length+1))));intro h
 let h:wv (Õ).length ſ a=wv (Õ).length ſ b:=by
  unfold vQ at h;injection h with h
  injection h with _ h
  injection h with h _
  injection h
 show x (mQ Ê (ţ (Ŏa N).2) (ţ (Ŏa J).2) h);let B:zl d=Ä:=by
  cases z:zl d with
  |Ä=>rfl|Ã=>rw[y0j z]at o;cases o
 let{i,c,rfl}:=y d l B;rcases f i c with⟨z,m,e⟩|⟨z,K,p,m,G,v,A,s,e,C⟩;rw[e,z]at o;cases o;rw[e];show{_,p,ŀk.2.1,E s};let a:=B4 Ėa ſ (Ėa).length;let b:=Ky (Ėa).length ſ (Ėa).length;exact(wq _ _ _++vn _ _ _).length<=100;rw[ì];omega;rw[g,ϭ];show ìc λi=>?_
 rw[ĸq];show ķ À (k i c).1.symm;rw[Ùa Ê,Ùa ńh];rfl;exact(Õ).map (yY z6)=(zB ūb).map (yY ūb);rw[g,ϭ];show ìc λi=>?_
 rw[ĸq];show ķ À (k i c).2.symm;rw[Ùa Ê,Ùa ńh];rfl
def NH(r:D):D:=match xJ r with
 |Ã=>Q3 (λ_ => "") r|Ä=>r
def z4d{r c:D}(h:yk r)(h':yk c)(l:xJ r=xJ c)(b:xA r=xA c):NH r=NH c/\wd r=wd c/\(xJ r=Ä->r=c):=by
 cases z:xJ r with
 |Ä=>
  let f:=Ąi z
  let e:r=c:=by unfold xA at b;rw[z,f]at b;show b
  rw[e];show{rfl,rfl,λ_=>rfl}
 |Ã=>
  let f:=Ąi z;let{i,t,k,o,q,rl,_,_}:=Yf h z;let{d,n,g,m,p,j,_,_}:=Yf h' f
  let e:i=d:=by unfold xA at b;rw[z,f,k,g]at b;let b:ό (i++[Òa t]).dropLast=ό (d++[Òa n]).dropLast:=b;rw[æd,æd]at b;injection b
  subst e;show{?_,?_,λw=>nomatch w};unfold NH;rw[z,f];exact Q3 _ r=Q3 _ c;rw[rl,j];rw[k,g]
  match i,o with
  |a::i,_=>cases a<;>rfl
section
variable{X Y:Á D}
def TL.len(S:TL X Y):(Ĉ).length=(ŵe).length:=by let:=ķ ĝd S.bare;rw[ã,ã]at this;rw[Ôq]
def TL.row(S:TL X Y)(c:PC X)(f:PC Y){i:Â}(hi:i<(Ĉ).length):xA Ϗ=xA łe/\yY X Ϗ=yY Y łe/\xJ Ϗ=xJ łe:=by
 have a:i<(ŵe).length:=by rw[<-S.len];show hi
 let b:=ķ (λl:Á D=>l[i]?) S.bare;let t:=ķ (λl:Á ϕ=>l[i]?) S.zG;unfold xD at t;simp only[ė,qI hi,qI a,Õn,Option.some.injEq]at b t;show{b,t,?_};let e:zp X i∈X:=ïm.1;let d:zp Y i∈Y:=(Ŏa (Ϸ (qI a))).1;rw[<-(UI c e).1,<-(UI f d).1,t]
def jp(X:Á D)(p:Â):É Â:=(jn Ĉ p).map (xr X)
def Wu(J:Â->É Â):Â->Â->È
 |0,a=>J a=Å|k+1,a=>∃r,J a=À r/\Wu J k r
theorem GZ{J:Â->É Ç}{pl:Ç->Â}:∀{k:Â}{a:Ç},qo J pl k a↔Wu óm k ła
 |0,a=>by
  exact J ła=Å↔(J ła).map pl=Å;cases J ła with
  |Å=>show{λ_=>rfl,λ_=>rfl}|À r=>show{æa,æa}
 |k+1,a=>by
  exact(∃r,J ła=À r/\qo J pl k r)↔∃r,(J ła).map pl=À r/\Wu óm k r
  rw[ńq];rintro⟨r,e,h⟩;show{pl r,by rw[e];rfl,GZ.mp h};rintro⟨r,e,h⟩;cases z:J ła with
  |Å=>rw[z]at e;cases e|À r0=>rw[z]at e;let e:pl r0=r:=Ϣ e;subst e;show{r0,rfl,GZ.mpr h}
#print a
def Ku:FS:=(zR (zm 4 (Τb (e2 xU ć ĺ)))
    (qJ 2 tS (e2 zJ (xv (zC (e2 xE ř ôg) (zC Ān (zC (e2 pW (eC (.int 4294967295)) (e2 xE ān ęb)) (Α (e2 xE ān (eC (.int 70000)))))))) (e2 xE ř ņb))))
def EO:FS:=
 (zR (qK 2 Ũb)
  (zR (jS (p6 ı ìb) Īc
   Ku)
  Ìk))
def Xd:Á D->É ä:=FR 2 5 EO
def z8y(a x1:D):Xd ď=yJ 5 EO ď:=rfl
def x1l{ns:Á Æ}(A:ť<=63)(y:∀m∈ns,vW m<=1048576){f:Æ}(C:0<=f)(G:f<=40):∃W:Á Æ,Xd [.lst Ϲ,.int f]=À (Ã,.lst ŏg)/\Āj=8/\∀w∈W,0<=w/\w<4294967296:=by
 let s:∀τ:zx,p6 ı ìb τ=À (wt 8):=λτ=>Z4 (n:=8) rfl Ò
 let{σ',e1,W,j,e,a,l,rfl}:=kX (g:=yA 3) (b:=Ku) (λi σ=>∃(W:Á Æ) (j e:É Sl),Āj=i/\(∀w∈W,0<=w/\w<4294967296)/\σ=[À (Ä,.lst Ϲ),À (Ä,.int f),À (Ã,.lst ŏg),j,e])
  (ds:=wt 8) (σ:=[À (Ä,.lst Ϲ),À (Ä,.int f),À (Ã,.lst []),Å,Å]) 0 {[],Å,Å,rfl,λ_ h=>Þ h ô,rfl} λi d σ r x=>by
   let{W,j,e,a,l,rfl}:=x;rw[ĸ]at a ⊢;let{B,rfl}:=UK r;let{m,F,E,q}:=Zn A y (k:=f+(i:Æ)) Ê Ê
   obtain⟨v,p,u,t⟩:∃v:Æ,zJ (.lst [.int (m%4294967296),.int (m%3),.int (4294967295-m/4%3),.int (m/4%70000)]) (Δ (m%4))=À Ϯb/\0<=v/\v<4294967296:=by rcases(show m%4=0\/m%4=1\/m%4=2\/m%4=3 by omega)with h|h|h|h<;>rw[h]<;>show{_,rfl,by omega,by omega}
   let o:tS (Β ŏg) Ϯb=À (Β ϕn):=by exact(Οd ŏg (όd (wI W++[_])))=_;rw[Ï (by rw[gA];rw[Ëq])];unfold wI;rw[ça];rfl
   show{_,[À (Ä,.lst Ϲ),À (Ä,.int f),À (Ã,.lst ϕn),À (Ä,.int (i:Æ)),À (Ä,.int m)],rfl,.inl ?_,W++[v],_,_,by rw[ì,a];rfl,λw c=>?_,rfl};unfold Ku;generalize ϣ Ě=NS at q p o ⊢;simp only[Ø,ϴ,q,p,o,ϛb];rcases ύ c with c|c;show l w c;cases Ľ c;show{u,t}
 let z:(wt 8).length=8:=by rw[ã,Úa]
 rw[ĸ,z]at a;show{W,?_,a,l};rw[z8y];unfold EO;simp only[Ø,s,e1]
def O2:yd:=(N4 2 Ĩf ń)
def YT:qt:=(Sq (νa (e2 ļc Ĕ ć)) (Sr (ji à ŧe 0 [] jc vN)))
def Ci:yd:=
 (xK (uv 2 ėj)
  (xK (N7 YT
   O2)
  (Yo Ėj)))
def qp:FM:=uM 2 3 Ci
def z7y(a x1:M):qp ď=vF 2 3 Ci ď:=rfl
theorem A8{c:qt}{b:yd}{a:kG}:∀{n:Â}{β:yU}(m:Â),gB c b n β=À a->gB c b (n+m) β=À a
 |0,_,_,h=>by cases h|n+1,β,m,h=>by
  rw[show n+1+m=(n+m)+1 by omega]
  change (Ĭc).bind _=_ at h
  rw[ϧq];cases e:c β with
  |Å=>rw[e]at h;cases h|À r=>
   rw[e]at h
   change (match r.1 with|Ä=>_|Ã=>_)=_ at h
   exact(match r.1 with|Ä=>_|Ã=>_)=_;cases hr:r.1 with
   |Ä=>rw[hr]at h;show h|Ã=>
    rw[hr]at h
    change (ϓj).bind _=_ at h
    exact(ϓj).bind _=_;cases e2:b r.2 with
    |Å=>rw[e2]at h;cases h|À f=>
     rw[e2]at h;cases f with
     |nx β2=>show A8 m h|ct β2=>show A8 m h|bk β2=>show h|rt x β2=>show h
def y2m{c:qt}{b:yd}{β:yU}{a:kG}(n:Â)(h:gB c b n β=À a)(d:Î (n<=YL) q10):N7 c b β=À a:=by let e:=A8 (YL-n) h;rw[Śm d]at e;show e
def w17{c:qt}{b:yd}{β β1 β2:yU}{n:Â}(a:c β=À (Ã,β1))(d:b β1=À Ϫb):gB c b Ĝ β=gB c b n β2:=by rw[ϧq];rw[a];exact(Ĳg).bind _=_;rw[d];rfl
def z1o{c:qt}{b:yd}{β β1:yU}{n:Â}(a:c β=À (Ä,β1)):gB c b Ĝ β=À (.nx β1):=by rw[ϧq];rw[a];rfl
section
variable{T fw fh:D}{e:Æ}{s s1:M}{d0 d1 j0 j1:Æ}
def f7{T fw fh:D}{e due done:Æ}{s:M}{x1 a:É M}:ji à ŧe 0 [] jc vN Īn=YU jc Ĺp Īn:=rfl
def x25{m k:Æ}(hk:k<m)(h:jc [yz T e fw fh s d0 j0]=À ([yz T e fw fh s1 d1 j1],.fz Ķ)):YT Żg=À (Ã,[À (yz T e fw fh s1 d1 j1),À ûd,À æj]):=by rw[Ďq]
theorem x2b{m k:Æ}(hk:¬ k<m):YT Żg=À (Ä,Żg):=by let z:decide (k<m)=Ä:=Ē hk;unfold YT;simp only[ŉ,WN,z]
theorem x23{m k:Æ}{x:É M}(b:x=À śl):O2 [x,À ûd,À æj]=À (.nx [x,À ûd,À (.fz (.int Ĩ))]):=by subst b;let a:űb śl=Å:=rfl;unfold O2;simp only[ŉ,N4,a]
#print a
def Na{r:D}(h:kH r):qu r\/r=.tup ŀf:=by
 cases h with
 |Ϡ=>show .inr rfl|Wo hw d0 d1 n0 n1=>let{d,rfl}:=ŋa d0;rcases hw with rfl|rfl;show .inl (.set Ê n0 n1);show .inl (.high Ê n0 n1)
 |two hw d0 d1 s0 s1=>
  rw[ěq]
  let a:s<8:=by omega
  rcases hw with rfl|rfl|rfl|rfl|rfl|rfl|rfl|rfl|rfl;show .inl (.copy b a);show .inl (.sum .add b a);show .inl (.sum .addc b a);show .inl (.sum .sub b a);show .inl (.sum .subc b a);show .inl (.bits .and b a);show .inl (.bits .or b a);show .inl (.bits .xor b a);show .inl (.sum .test b a)
 |Wp hw d0 d1 n0 n1=>let{d,rfl}:=ŋa d0;let{n,rfl}:=ŋa n0;rcases hw with rfl|rfl;show .inl (.left Ê Ê);show .inl (.right Ê Ê)
 |mem hw d0 d1 s0 s1 n0 n1=>
  rw[ěq]
  let a:s<8:=by omega
  rcases hw with rfl|rfl|rfl|rfl;show .inl (.mem .load b a n0 n1);show .inl (.mem .store b a n0 n1);show .inl (.mem .loadw b a n0 n1);show .inl (.mem .storew b a n0 n1)
def UM{w v:Ç}{x:Á D}(h:w≠v):¬ wd (.tup (.str w::x))=v:=h
def z1l(h:qu r):¬ wd r = ŧd/\xJ r=Ä:=by
 cases h with
 |sum h=>cases h<;>show{UM Ò,rfl}|bits h=>cases h<;>show{UM Ò,rfl}|mem h=>cases h<;>show{UM Ò,rfl}|_=>show{UM Ò,rfl}
def x5k{T fw fh:D}{e due done:Æ}{s:M}(h:uN ϻe=À (Ä,.bl Ã)):jc Öh=À (Öh,.fz û):=by
 let a:∀τ:zx,qB à ĥb ą zE Ņk=À ϻe:=λτ=>Jw fJ ϸ rfl
 rw[iQ];unfold MH;simp only[ŉ,WN,a,h]
theorem GS{r:D}{a:M}{w:Ç}(b:zJ r ű=À Ř)(c:VS jl Ř=À û):pO Ĵp=À (Ĵp,.fz .zO):=by rw[HK];unfold IA;simp only[ŉ,b,c]
theorem x0e(t:Ç):qq [.tup śh]=À (Ä,.int 0):=by rw[ãq]
def x0d{w k:Ç}(t:Ç)(a:w = Ða \/ w = Ía)(hk:k = Âa \/ k = èa \/ k = ía):qq Ϯo=À (Ä,.int 0):=by rcases a with rfl|rfl<;>rcases hk with rfl|rfl|rfl<;>kernel_rfl
def w0j:t7 [.tup ŀf]=À (Ä,.int 2047):=by rw[ãq]
def w0i{w:Ç}(t:Ç)(a:w = Ða \/ w = Ía):t7 [.tup [.str w,.str Âa,.str t]]=À (Ä,.int 256)/\t7 [.tup [.str w,.str èa,.str t]]=À (Ä,.int 512)/\t7 [.tup [.str w,.str ía,.str t]]=À (Ä,.int 1024):=by rcases a with rfl|rfl<;>show{by rw[ãq],by rw[ãq],by rw[ãq]}
def Tx{o:É ä}{n m:Â}(h:o=À (Ä,.int (n:Æ)))(g:o=À (Ä,.int (m:Æ))):n=m:=by
 let:=ùh g;injection this with this
 injection this with _ this
 injection this with this
 omega
structure W8(Ws:Á Æ):È where
 l:ĉa=8
 h:∀w∈Ws,0<=w/\w<4294967296
structure yo where
 ws:Á Æ
 a:Ð
 b:Ð
 c:Ð
 ps:Á Ĳ
def UE(s:yo):M:=st ŵf s.a s.b s.c (kP Òc) (vP Òc)
def Xt(s:yo):D:=gT ŵf s.a s.b s.c (kP Òc) (vP Òc)
def UJ(s:yo):vU (UE s)=Xt s:=j4
structure Gd(m:Â)(s:yo):È where
 w:W8 Ñc
 p:qS Òc
 l:s.ps.length<=m
structure tq(r:D)(s s':yo)(ld:Ð):È where
 dr:pO [UE s,.fz r]=À ([UE s',.fz r],.fz .zO)
 ld:kE [Xt s',r]=À (Ä,.bl ld)
theorem mC:∀{x y:Á Æ},wI x=wI y->x=y
 | [],[],_=>rfl| [],_::_,h=>nomatch h|_::_,[],h=>nomatch h|a::x,b::y,h=>by
  injection (show Ě a::wI x=Ě b::wI y from h)with h1 h2
  injection h1 with h1
  rw[h1,mC h2]
theorem nu:∀{x y:Á Ĳ},kP x=kP y->vP x=vP y->x=y
 | [],[],_,_=>rfl| [],_::_,h,_=>nomatch h|_::_,[],h,_=>nomatch h|(a,b)::x,(c,d)::y,h,g=>by
  injection (show(Į a:Sum Æ Ç)::kP x=.inl c::kP y from h)with h1 h2
  injection (show Ě b::vP x=.int d::vP y from g)with g1 g2
  injection h1 with h1
  injection g1 with g1
  rw[h1,g1,nu h2 g2]
theorem x5e{s s':yo}(h:UE s=UE s'):s=s':=by
 let{k,a,b,c,j}:=s;let{e,g,f,i,d}:=s';injection (show M.obj Ŀ Ŀf [.own (Β (wI k)),.own żc,.own (.dic (kP j) (vP j))]=.obj Ŀ Ŀf [.own (Β (wI e)),.own (Y1 g f i),.own ύk]from h)with _ _ h
 injection h with h1 h
 injection h with h2 h
 injection h with h3 _
 injection h1 with h1
 injection h1 with h1
 injection h2 with h2
 injection (show D.dic jE ņc=.dic jE [.bl g,.bl f,.bl i]from h2)with _ h2
 injection h2 with a1 h2
 injection h2 with b1 h2
 injection h2 with c1 _
 injection a1 with a1
 injection b1 with b1
 injection c1 with c1
 injection h3 with h3
 injection h3 with h3 h4
 obtain rfl:=mC h1;obtain rfl:=nu h3 h4;subst a1 b1 c1;rfl
def tq.one{r:D}{s s1 c:yo}{a b:Ð}(A:tq r s s1 a)(B:tq r s c b):s1=c/\a=b:=by
 let e:=A.dr.symm.trans B.dr;injection e with e
 injection e with e _
 injection e with e _
 obtain rfl:=x5e e;let g:=A.ld.symm.trans B.ld;injection g with g
 injection g with _ g
 injection g with g
 show{rfl,g}
inductive kF:D->D->È
 |refl (r:D):kF r r
 |w8 (t u:Ç):kF Ýc (.tup [.str ļa,.str u])
 |š {w k:Ç} (t u:Ç) (hw:w = Ða \/ w = Ía) (hk:k = Âa \/ k = èa \/ k = ía):kF Ġd (.tup [.str w,.str k,.str u])
def z6r(a:M)(t:Ç):pO Ło=À (Ło,.fz .zO):=GS (w := ļa) rfl rfl
def z6q{w k:Ç}(a:M)(t:Ç)(b:w = Ða \/ w = Ía):pO ľo=À (ľo,.fz .zO):=by rcases b with rfl|rfl;show GS (w := Ða) rfl rfl;show GS (w := Ía) rfl rfl
def TN(s:yo)(t:Ç):tq Ýc s s Ã:={z6r _ t,rfl}
def M6{w k:Ç}(s:yo)(b:w = Ða \/ w = Ía)(hk:k = Âa \/ k = èa \/ k = ía):∃ld,∀t,tq Ġd s s ld:=by
 let a:∃ld,∀t,kE [Xt s,.tup Ëd]=À (Ä,.bl ld):=by rcases hk with rfl|rfl|rfl<;>rcases b with rfl|rfl<;>show{_,λ_=>rfl}
 let{ld,h}:=a;show{ld,λt=>{z6q _ t b,h t}}
def kF.act{r a:D}{s s':yo}{ld:Ð}(L:kF r a)(A:tq r s s' ld):tq a s s' ld:=by
 cases L with
 |refl=>show A|w8 t u=>let{rfl,rfl}:=ųg (TN s t);show TN _ u
 |š t u hw hk=>let{b,h}:=M6 s hw hk;let{rfl,rfl}:=ųg (h t);show h u
nonrec def X5:D:=.tup ŀf
inductive qA(X:Á D)(i:Â)(s:yo):Â->yo->È
 |mk {i':Â} {s':yo} {ld:Ð} (hi:i<(Ĉ).length) (ns:zp X i≠X5) (A:tq Ϗ s s' ld) (g1:ld=Ã->yY X Ϗ=À i') (g2:ld=Ä->i'=i+1):qA X i s i' s'
def qV(X:Á D)(i:Â):È:=i<(Ĉ).length->zp X i=X5
inductive qT(X:Á D):Â->Â->yo->Â->yo->È
 |nil {i:Â} {s:yo}:qT X 0 i s i s
 |ñ {k i i1 i2:Â} {s s1 s2:yo}:qA X i s i1 s1->qT X k i1 s1 i2 s2->qT X Ĩ i s i2 s2
def qT.snoc{X:Á D}{s1 b:yo}{i1 c k i:Â}{s:yo}(r:qT X k i s i1 s1)(h:qA X i1 s1 c b):qT X Ĩ i s c b:=by
 induction r with
 |nil=>show .cons h .nil|ñ a _ ih=>show .cons a (ih h)
theorem đg{Ws:Á Æ}{o:É Â}{x:Æ}(h:W8 Ws)(a:0<=x)(x1:x<4294967296):W8 ϛn:=by
 cases o with
 |Å=>show h|À d=>refine{by exact(Ϫc d x).length=8;rw[Éa];show h.l,λw b=>?_};rcases Óh b with z|rfl;show h.h w z;show{a,x1}
def z3o{r:D}{s:yo}{m:Â}(h:qu r)(g:Gd m s)(j:m<=800):∃s',tq r s s' Ä/\Gd Ϗd s':=by
 let{R,o,pc,y,t,E}:=GY h
 let +zeta V:Â->Æ:=λk=>ćp k 0
 let f:∀k,k<8->Ñc[k]?=À Àd:=λk d=>by exact _=À (ćp k 0);rw[ő,đ (by rw[g.w.l];show d)];rfl
 let{w,u,v,q,e,n,i}:=E.ef V Òc (λk d=>g.w.h _ (Ϸ (f k d))) g.p (ý g.l j);let x:=i s.a s.b s.c;show{{ĵc o (w s.a) Ñc,_,_,_,e},{x.dr Ñc g.w.l λk d=>f k ϓf,E.ld _},{đg g.w x.w0 x.w1,x.P,ý x.l (ϩl g.l 4)}}
def y2d{r c:D}(h:yk r)(h':yk c)(b:xJ r=xJ c)(a:xA r=xA c):kF r c:=by
 let n:=(z4d h h' b a).2.2;cases e:xJ r with
 |Ä=>rw[<-n e];show .refl r|Ã=>
  cases h with
  |ïa=>cases e|Ϫ q=>let{_,_,_,_,z,_}:=Zt q;rw[e]at z;cases z
  |w8 t=>
   cases h' with
   |ïa=>cases b|Ϫ q=>let{_,_,_,_,z,_}:=Zt q;rw[<-b,e]at z;cases z
   |w8 u=>show .w8 t u|š u hw hk=>rcases hw with rfl|rfl<;>cases a
  |@cond w k t hw hk=>
   cases h' with
   |ïa=>rcases hw with rfl|rfl<;>cases b
   |Ϫ q=>let{_,_,_,_,z,_}:=Zt q;rw[<-b,e]at z;cases z
   |w8 u=>rcases hw with rfl|rfl<;>cases a
   |@cond w' k' u hw' hk'=>
    let:w=w'/\k=k':=by rcases hw with rfl|rfl<;>rcases hw' with rfl|rfl<;>first|(cases a;done)|(injection (show ό _=ό _ from a)with z;injection z with _ z;injection z with z _;injection z with z;show⟨rfl,z⟩)
    let{rfl,rfl}:=this;show .cond t u hw hk
def kF.stop{r a:D}(L:kF r a):r=X5↔a=X5:=by
 cases L with
 |refl=>show Ġc|w8=>show{nofun,nofun}|š t u hw=>rcases hw with rfl|rfl<;>show{nofun,nofun}
section
variable{X:Á D}
def MD{p:Â}{r:D}(h:Ĉ[p]?=À r):zp X p=r:=by unfold zp;rw[ő,h];rfl
def Mw(P:PC X){p q:Â}(h:jp X p=À q)(s:yo):qA X p s q s:=by
 unfold jp at h;cases e:jn Ĉ p with
 |Å=>rw[e]at h;cases h|À r=>
  rw[e]at h;injection h with h
  let{a,b,c}:=Xy P e;let d:=MD a;refine .mk (ld:=Ã) c (by rw[d];show nofun) (by rw[d];show TN s r) đc nofun;rw[d,<-h];show Kq b
theorem qA.one{i i1 d:Â}{s s1 c:yo}(a:qA X i s i1 s1)(b:qA X i s d c):i1=d/\s1=c:=by
 cases a with
 |@mk l1 _ _ A a1 a2=>
  cases b with
  |@mk l2 _ _ B b1 b2=>
   let{rfl,rfl}:=ųg B;show{?_,rfl};cases l1 with
   |Ã=>show Ϣ ((a1 rfl).symm.trans (b1 rfl))|Ä=>rw[a2 rfl,b2 rfl]
theorem y0w{p q:Â}(h:jp X p=À q)(P:PC X)(d:qV X p):Ā:=by
 cases Mw P h {[],Ä,Ä,Ä,[]}with
 |mk hi ns=>show ns Ôk
def y2e{r:D}(h:yk r):kF r (xP X r):=by
 cases h with
 |ïa t=>show .refl _|Ϫ q=>let{_,_,_,_,z,_}:=Zt q;unfold xP;rw[z];show .refl r
 |w8 t=>show .w8 t _|š t hw hk=>rcases hw with rfl|rfl<;>show .cond t _ ô hk
#print a
theorem h_:∀{ls:Á Řa} {i:Â},i∈jr ls->∃l∈ls,i∈l
 | [],_,h=>nomatch h|l::ls,i,h=>by
  unfold jr at h
  rw[ìq];let{x,a,q}:=h_ h;show{x,ŏ _ a,q};show{l,ÿ,h}
nonrec def rk(a:Á Â):Â->Â
 |0=>0|i+1=>rk a i+if i∈a then 0 else 1
def P1{a:Á Â}{i:Â}(h:i∈a):rk a í=rk a i:=by exact rk a i+ĸl=_;rw[Ï h];rfl
def Oc{a:Á Â}{i:Â}(h:i ∉ a):rk a í=rk a i+1:=by exact rk a i+ĸl=_;rw[Ñ h]
theorem Bi{a:Á Â}{i:Â}:∀{j:Â},i<=j->rk a i<=rk a j
 |0,h=>by rw[Nat.le_zero.mp h];show Ĭ _|j+1,h=>by rcases Ĕd i ϫ with c|c;show ý (Bi (ŉb c)) Ϲf;rw[ύb h c];show Ĭ _
structure Kp(qs:Á Â)(L A:Á D):È where
 l:(zB A).length=rk qs (Ła).length
 r:∀i,i<(Ła).length->i ∉ qs->(zB A)[rk qs i]?=Ła[i]?
 p:∀t,xO t A=(rk qs Ϲa.1,Ϲa.2.map (rk qs))/\Ϲa.1=(Ła).length
def PB(L:Á D)(d:D):zB Ϲb=zB L++(if zl d=Ã then[]else[d]):=by unfold zB;rw[ıa];cases h:zl d<;>simp[ıo,h]
theorem y1n{f:Á Â}{L A:Á D}(K:Kp f L A)(d:D):Kp f Ϲb (vY f ((Ła).length,A) d).2:=by
 unfold vY;cases h:zl d with
 |Ã=>
  let e:∀B:Á D,zB (B++[d])=zB B:=λB=>by rw[PB,Ï h,Œ]
  refine{by rw[e,e];show K.l,λi g j=>?_,λt=>?_};rw[e]at g;rw[e,e];show K.r i g j;rw[V_,V_,e];let{a,b}:=K.p t;unfold uf;rw[h,a];show{?_,b};cases Tu t d<;>rfl
 |Ä=>
  let e:∀B:Á D,zB (B++[d])=zB B++[d]:=λB=>by rw[PB,Ñ (by rw[h];show nofun)]
  let k:(zB L++[d]).length=(Ła).length+1:=ì;exact Kp f Ϲb (if(Ła).length∈f then A else A++[d]);by_cases c:(Ła).length∈f;rw[Ï c];refine{by rw[e,k,P1 c];show K.l,λi g j=>?_,λt=>?_};rw[e,k]at g
  let m:i<(Ła).length:=by rcases Èh g with z|rfl;show z;show Þ c j
  rw[e,Ůa m];show K.r i m j;let{a,b}:=K.p t;rw[V_,e,k];rw[Ŷq];exact _=(rk f Ŕp,_);rw[P1 ύm];rw[Ñ c];refine{by rw[e,e,k,Oc c,ì,K.l];rfl,λi g j=>?_,λt=>?_};rw[e,k]at g;rw[e,e];rcases Èh g with z|rfl;rw[Ůa z,Ůa];show K.r i z j;rw[K.l];show ŭ (by rw[Oc j];show Čb _) (Bi z);rw[<-K.l,òl,òl];let{a,b}:=K.p t;rw[V_,V_,e,k];rw[Ŷq];exact(rk f Ϲa.1+1,_)=(rk f Ŕp,_);rw[Oc ύm]
theorem lM{a:Á Â}:∀(R L A:Á D),Kp a L A->Kp a (L++R) (R.foldl (vY a) ((Ła).length,A)).2
 | [],L,A,K=>by rw[Œ];show K|d::R,L,A,K=>by
  let h:=lM R Ϲb _ (y1n K d);rw[Ţ]at h
  let e:(vY a ((Ła).length,A) d).1=(zB Ϲb).length:=by
   unfold vY;rw[PB];cases zl d with
   |Ã=>rw[Ï rfl,Œ]|Ä=>rw[Ñ Ħ,ì];rfl
  rw[<-e]at h;show h
def y1m(a:Á Â)(X:Á D):Kp a X (uB a X).2:=lM X [] [] {rfl,λi b=>Þ b ëd,λt=>{rfl,rfl}}
structure qm(m:Â)(s1 s2:yo):È where
 w:∀k,k<8->ſc k=Ã->s1.ws[k]?=s2.ws[k]?
 a:ſc 8=Ã->s1.a=s2.a
 b:ſc 9=Ã->s1.b=s2.b
 c:ſc 10=Ã->s1.c=s2.c
 p:s1.ps=s2.ps
def qm.up{m n:Â}{s1 d:yo}(A:qm m s1 d)(h:∀k,ϣi k=Ã->ſc k=Ã):qm n s1 d:={λk e z=>A.w k e (h k z),λz=>A.a İg,λz=>A.b İg,λz=>A.c İg,A.p}
def qm.refl(m:Â)(s:yo):qm m s s:={λ_ _ _=>rfl,λ_=>rfl,λ_=>rfl,λ_=>rfl,rfl}
def qm.all{m:Â}{s1 d:yo}(A:qm m s1 d)(h:∀k,k<11->ſc k=Ã)(j:W8 s1.ws)(i:W8 d.ws):s1=d:=by
 let{g,x,t,y,v}:=s1;let{r,s,u,B,z}:=d
 let e:g=r:=ìc λk=>by by_cases hk:k<8;show A.w k hk (h k Ê);rw[Ùa (by rw[j.l];omega),Ùa (by rw[i.l];omega)]
 let o:=A.a (h 8 Ò);let n:=A.b (h 9 Ò);let f:=A.c (h 10 Ò);let q:=A.p;subst e;cases o;cases n;cases f;cases q;rfl
def oQ{Ws:Á Æ}{k:Â}{x:Æ}(h:k<ĉa):(ĵc (À k) x Ws)[k]?=À x:=by exact(Ϫc k x)[k]?=_;rw[òh h]
theorem Ni{Ws:Á Æ}{o:É Â}{k:Â}{x:Æ}(h:o≠À k):ϛn[k]?=Ws[k]?:=by
 cases o with
 |Å=>rfl|À d=>show ēh λe=>h (ķ À e)
section
variable{X:Á D}{T:Á Â}(P:PC X)(N:NI (Ĉ).length Ùk Ûk ϋe T [])
include N in
theorem MK{i k:Â}(hi:i<(Ĉ).length)(h:(Uf X i).testBit k=Ã):(ħb).testBit k=Ã:=by rw[N.fx i hi ô];show(œn).mpr Ác
include N in
theorem e7{i w k:Â}(hi:i<(Ĉ).length)(a:w∈Wf X i)(h:(ņd).testBit k=Ã)(p:(Ϛc).testBit k=Ä):(ħb).testBit k=Ã:=by rw[N.fx i hi ô];show(œn).mpr (.inr {{w,a,h},p})
def A6{i:Â}(hi:i<(Ĉ).length):Wf X i=Y5 Ϗ i ώf:=by unfold Wf;rw[qI hi]
theorem z1n{i:Â}(hi:i<(Ĉ).length)(h:qu Ϗ):Wf X i=[i+1]:=by let{a,b}:=z1l h;rw[A6 hi];unfold Y5 yY;rw[Ñ a,b]
variable{s1 s2:yo}{m i:Â}(g1:Gd m s1)(hm:m<=800)(w2:W8 s2.ws)(A:qm ħb s1 s2)
include P N g1 hm w2 A in
theorem x85(hi:i<(Ĉ).length)(h:qu Ϗ):∃t1 t2,tq Ϗ s1 t1 Ä/\tq Ϗ s2 t2 Ä/\qm ĭd t1 t2/\Gd Ϗd t1/\W8 t2.ws/\((∀k,(ĭd).testBit k=Ã->(Ϛc).testBit k=Ä)->Pf X i≠0->qm ĭd t1 s2):=by
 let{R,o,pc,pn,uc,E}:=GY h;let{U,Pt,f}:=E.up;obtain rfl:=Tx f.u ßj.1;obtain rfl:=Tx f.p ϰp.1;let Z:i+1∈Wf X i:=by rw[z1n hi h];show ÿ
 let J:∀k,(ĭd).testBit k=Ã->(Ϛc).testBit k=Ä->(ħb).testBit k=Ã:=λk h1 h2=>e7 N hi Z h1 h2
 let{t,g,b1,c1,ps}:=s1;let{B,j,b2,c2,W}:=s2;obtain rfl:ps=W:=A.p;let H:W8 t:=g1.w
 let +zeta V:Â->Æ:=λk=>t.getD k 0
 let K:∀k,k<8->t[k]?=À Àd:=λk d=>by exact _=À (t.getD k 0);rw[ő,đ ċm];rfl
 let v2:∀k,k<8->0<=V k/\V k<4294967296:=λk d=>H.h _ (Ϸ (K k d))
 have r2:∀k∈R,B[k]?=À Àd:=λk d=>by rw[<-show t[k]?=B[k]? from A.w k ϓf (MK N hi (f.r k d))];show K k ϓf
 let{w,A',B',C',G,Y,ef}:=E.ef V ps v2 g1.p (ý g1.l hm)
 let e:w g=w j/\A' g=A' j/\B' g=B' j/\C' g=C' j:=by
  cases z:uc with
  |Ä=>show Y z g j|Ã=>have:g=j:=A.a (MK N hi (E.cu z _ ßj.1));rw[this];show{rfl,rfl,rfl,rfl}
 let C:=ef g b1 c1;let Q:=ef j b2 c2
 let L:∀{q:Ð}{F:Ð->Ð}{k:Â}{x y:Ð},(Ϛc).testBit k=q->F g=F j->Ďl->(ĭd).testBit k=Ã->š q (F g) x=š q (F j) y:=λ{q F k x y} e1 e2 O S=>by
  cases q with
  |Ã=>show e2|Ä=>show O (J k S e1)
 have v:∀{q z:Ð}{k:Â}{x y:Ð},(Ϛc).testBit k=q->(Ϛc).testBit k=Ä->Ďl->(ĭd).testBit k=Ã->š q z x=y:=λ{q z k x y} e1 e2 O S=>by rw[<-e1,e2];show O (J k S e2)
 show{{ĵc o (w g) t,_,_,_,G},{ĵc o (w j) B,_,_,_,G},{C.dr t H.l λk d=>K k ϓf,E.ld _},{Q.dr B w2.l r2,E.ld _},{λk d z=>?_,λz=>?_,λz=>?_,λz=>?_,rfl},{đg H C.w0 C.w1,C.P,ý C.l (ϩl g1.l 4)},đg w2 Q.w0 Q.w1,λI nz=>{λk d z=>?_,λz=>?_,λz=>?_,λz=>?_,?_}};exact Án[k]?=(ĵc o (w j) B)[k]?;by_cases c:o=À k;subst c;rw[oQ ċm,oQ (by rw[w2.l];show d),e.1];rw[Ni c,Ni c];show A.w k d (J k z (by rw[f.o k d];show Ē c));show L f.c e.2.1 A.a z;show L f.n e.2.2.1 A.b z;show L f.s e.2.2.2 A.c z;let n:=I k z;exact Án[k]?=B[k]?;rw[Ni (λc=>by rw[f.o k d,ú c]at n;cases n)];show A.w k d (J k z n);show v f.c ϗj A.a z;show v f.n ϗj A.b z;show v f.s ϗj A.c z;rcases C.ks with z|z;show Þ (Tx f.p z) nz;show z
#print a
def z3p{d:Â}{s:yo}(g:d<8)(w:W8 Ñc):tq (.tup [.str Ïa,.int (d:Æ),.int (d:Æ)]) s s Ä:=by let e:Ñc[d]?=À (Ñc[d]' Ċm):=đ _;let f:=fM (a:=s.a) (b:=s.b) (c:=s.c) (hk:=kP Òc) (hv:=vP Òc) (d:=d) (s:=d) (Ws:=Ñc) Ċm e;rw[List.set_getElem_self]at f;show{kO (k := Ïa) rfl rfl pC rfl rfl f,rfl}
def z65{r:D}{s:yo}(h:qu r)(w:W8 Ñc)(z:q_ r=Ã):tq r s s Ä:=by
 cases h with
 |@copy d e hd hs=>
  let q:(d:Æ)=(e:Æ):=by let z:(((Ïa : Ç) == Ïa)&&((d:Æ)==(e:Æ)))=Ã:=z;rw[Đ]at z;show şc z.2
  rw[<-q];show z3p hd w
 |sum hq=>cases hq<;>show(Ģg).elim|bits hq=>cases hq<;>show(Ģg).elim|mem hq=>cases hq<;>show(Ģg).elim|_=>show(Ģg).elim
def x1z{r:D}(it:yk r)(a:zl r=Ä):qu r\/r=X5\/(∃t:Ç,r=.tup śh)\/∃(w k t:Ç),Ám/\Äl/\r=.tup Ëd:=by
 cases it with
 |ïa t=>cases a|Ϫ h=>show(Na h).imp id .inl|w8 t=>show .inr (.inr (.inl {t,rfl}))|š t hw hk=>show .inr (.inr (.inr {_,_,t,hw,hk,rfl}))
def z0v(x y:Â):x∈two x y/\y∈two x y:=by
 unfold two
 split;rename_i z;show{ÿ,z▸ÿ};split;show{ÿ,ŏ _ ÿ};show{ŏ _ ÿ,ÿ}
def z62{w k t:Ç}{s1 e:yo}{m:Â}(d:w = Ða \/ w = Ía)(hk:k = Âa \/ k = èa \/ k = ía)(A:qm m s1 e)(u:∀n,t7 Ϯo=À (Ä,.int ((n:Â):Æ))->∀k,ϣi k=Ã->ſc k=Ã):kE [Xt s1,.tup Ëd]=kE [Xt e,.tup Ëd]:=by let{o,j,p}:=w0i t d;let{s,f,i,q,v}:=s1;let{x,g,l,h,r}:=e;rcases hk with rfl|rfl|rfl;obtain rfl:f=g:=A.a (u 256 o 8 Ò);rcases d with rfl|rfl<;>rfl;obtain rfl:i=l:=A.b (u 512 j 9 Ò);rcases d with rfl|rfl<;>rfl;obtain rfl:q=h:=A.c (u 1024 p 10 Ò);rcases d with rfl|rfl<;>rfl
section
variable{X:Á D}{T:Á Â}(P:PC X)(N:NI (Ĉ).length Ùk Ûk ϋe T [])
variable{s1 s2 t1:yo}{m i i1:Â}(g1:Gd m s1)(hm:m<=800)(w2:W8 s2.ws)(A:qm ħb s1 s2)
inductive bo(X:Á D)(T:Á Â)(i i1 m:Â)(t1 s2:yo):È
 |mk {t2:yo} {ld:Ð} (a:tq Ϗ s2 t2 ld) (y1:ld=Ã->yY X Ϗ=À i1) (y2:ld=Ä->i1=i+1) (g:qm Üj t1 t2) (gd:Gd Ϗd t1) (w:W8 t2.ws) (hw:i1∈Wf X i)
   (sk:Zp X i=Ã\/q_ Ϗ=Ã\/gY X T i=Ã->i1=i+1/\qm Üj t1 s2)
include P N g1 hm w2 A in
theorem both(a:qA X i s1 i1 t1):bo X T i i1 m t1 s2:=by
 cases a with
 |@mk ld hi ns B y1 y2=>
  let{H,J}:=jz P hi;let g:Gd Ϗd s1:={g1.w,g1.p,ý g1.l Ϲf};let F:=ϰp.1;let u:Zp X i=Ã->yY X Ϗ=À í:=λh=>ţ h
  let C:gY X T i=Ã->Pf X i≠0/\čl=0:=λh=>by unfold gY at h;rw[Đ]at h;show{ţ h.1,ţ h.2}
  let E:Pf X i=0->q_ Ϗ=Ä->tq Ϗ s2 s2 ld->t1=s1->i1∈Wf X i->bo X T i i1 m t1 s2:=λo U d e1 b=>by
   subst e1;let y:qm Üj t1 s2:=A.up λk h=>e7 N hi b h (by rw[o,ùd])
   show .mk d y1 y2 y g w2 b λz=>{?_,y}
   rcases z with z|z|z;cases ld with
   |Ã=>show Ϣ ((y1 rfl).symm.trans (u z))|Ä=>show y2 rfl
   rw[U]at z;cases z;show Þ o (C z).1
  rcases x1z H J with h|h|⟨t,e⟩|⟨w,k,t,b,c,e⟩;let{R,t2,Y,d,r,gd,w,O}:=x85 P N g1 hm w2 A hi h;let{rfl,rfl}:=B.one Y;obtain rfl:=y2 rfl;let v:=z1n hi h;refine .mk (ld:=Ä) d nofun (λ_=>rfl) r gd w (by rw[v];show ÿ) λz=>{rfl,?_}
  rcases z with z|z|z;let:=u z;unfold yY at this;rw[(z1l h).2]at this;cases this;let{rfl,_}:=d.one (z65 h w2 z);show r;let{K,L}:=C z;show O (λk c=>?_) K;cases e:(Ϛc).testBit k with
  |Ä=>rfl|Ã=>
   let:(čl).testBit k=Ã:=by rw[ñc,e,v,(nI _ _ _).mpr {i+1,ÿ,c}];rfl
   rw[L,ùd]at this;cases this
  show Þ h ns;let x:∀s,tq Ϗ s s Ã:=λs=>by rw[e];show TN s t
  let{rfl,rfl}:=B.one (x s1);refine E (Tx F (by rw[e];show x0e t)) (by rw[e];rfl) (x s2) rfl ?_;let f:=y1 rfl;rw[A6 hi];unfold Y5;rw[f,e,Ñ (UM Ò)];show ÿ;let{Z,j}:=M6 s1 b c;let{l2,G}:=M6 s2 b c;let{e1,e2}:=B.one (by rw[e];show j t)
  let S:l2=Z:=by
   let q:=(G t).ld.symm.trans ((z62 b c A λn I k h=>MK N hi (by rw[Tx ßj.1 (by rw[e];show I)];show h)).symm.trans (j t).ld);injection q with q
   injection q with _ q
   injection q
  have d:tq Ϗ s2 s2 ld:=by rw[e,e2,<-S];show G t
  refine E (Tx F (by rw[e];show x0d t b c)) (by rw[e];rcases b with rfl|rfl<;>rfl) d e1 ?_;let Q:=(UI P ïm.1).1;let{p,f}:=Łb (show(ώf).isSome=Ã by rw[Q,e];rcases b with rfl|rfl<;>rfl)
  let W:Wf X i=two í p:=by rw[A6 hi,f,e];unfold Y5;rw[Ñ ţk];show Ñ ţk
  rw[W];cases ld with
  |Ã=>rw[Ϣ ((y1 rfl).symm.trans f)];show ŷp.2|Ä=>rw[y2 rfl];show ŷp.1
#print a
def L7(X:Á D):D:=.dic (qg (Ĉ).length) (Y0 Ĉ íl (Ĉ).length)
def mX(X:Á D)(fw fh:D)(s:yo)(i:Â)(j:Æ):M:=yz Þk ((Ĉ).length:Â) fw fh (UE s) (i:Â) j
def YW(X:Á D)(fw fh:D)(s:yo)(i:Â)(j:Æ):D:=wm Þk ((Ĉ).length:Â) fw fh (Xt s) (i:Â) j
section
variable{X:Á D}{fw fh:D}{s t:yo}{i e:Â}{j:Æ}
def Sh(hi:i<(Ĉ).length):zJ Þk Ŵa=À (.tup [zp X i,.int ŕi,xC ώf]):=by
 unfold L7;rw[x6i hi]
 let e2:(íl).getD i .zO=xC ώf:=by rw[ő,ė,qI hi];rfl
 rw[e2];rfl
def x20(P:PC X)(hi:i<(Ĉ).length)(ns:zp X i≠X5):zh Ϗ žb=À û/\uT Ϗ=Ã:=by
 let{a,b}:=jz P hi;generalize zp X i=r at *;cases a with
 |ïa t=>cases b|Ϫ h=>rcases Na h with h|rfl;let{R,o,pc,c,d,E}:=GY h;show{E.st,E.tp};show Þ rfl ns
 |w8 t=>show{rfl,rfl}|š t hw hk=>rcases hw with rfl|rfl<;>show{rfl,rfl}
def z0b(P:PC X){i':Â}{s':yo}(a:qA X i s i' s'):uN ðd=À (Ä,.bl Ä)/\jc Ķh=À ([mX X fw fh s' i' ϫ],.fz Ķ):=by
 cases a with
 |@mk ld hi ns A g1 g2=>
  let{st,d}:=x20 P hi ns;let b:(i:Æ)≠((Ĉ).length:Â):=by omega
  show{?_,?_}
  .rcases SY (fw:=fw) (fh:=fh) (sd:=Xt s) (e:=((Ĉ).length:Â)) (due:=(i:Æ)) (done:=j) (k:=Ä) (λ_=>{Sh hi,st})with z|⟨z,_⟩;unfold YW;rw[z,Ē b];rfl;show Þ z b
  let c:∀x:É Â,uT (xC x)=Ã:=λx=>by cases x<;>rfl
  show x5h b (Sh hi) st ?_ pC A.dr ld (by rw[UJ];show A.ld) ?_;exact(uT Ϗ&&(Ã&&(uT (xC _)&&Ã)))=Ã;rw[d,c];rfl;cases ld with
  |Ã=>rw[g1 rfl];rfl|Ä=>obtain rfl:=g2 rfl;show ķ Ě Ê
def D5(d:qV X i)(hi:i<=(Ĉ).length):uN ðd=À (Ä,.bl Ã)/\jc Ķh=À (Ķh,.fz û):=by
 let e:uN ðd=À (Ä,.bl Ã):=by
  unfold YW
  rcases SY (T:=L7 X) (fw:=fw) (fh:=fh) (sd:=Xt s) (row:=.tup ŀf) (nx:=.int ŕi) (tg:=.zO) (e:=((Ĉ).length:Â)) (due:=(i:Æ)) (done:=j) (k:=Ã) (λz=>⟨by
   let a:i<(Ĉ).length:=by omega
   rw[Sh a,d a];rfl,rfl⟩)with z|⟨_,z⟩
  rw[z,ėi];show z
 show{e,x5k (by rw[UJ];show e)}
def x29{T:D}{c d b m k:Æ}{a:M}(hk:k<m)(h:jc Ϯl=À (Ϯl,.fz û)):YT ğk=À (Ä,ğk):=by rw[Ďq]
theorem x2a{T:D}{a c b f e m k:Æ}{d s1:M}{n:Â}(i:n<=YL)(h:gB YT O2 n [À (yz T a fw fh d c b),À ûd,À (.fz ű)]=À (.nx [À (yz T a fw fh s1 f e),À ûd,À æj])):qp [yz T a fw fh d c b,.fz Ķj]=À ([yz T a fw fh s1 f e,.fz Ķj],.fz Ťf):=by let w:=y2m n h i;let g:∀{s:M}{c b:Æ},űb (yz T a fw fh s c b)=Å:=rfl;rw[z7y];unfold Ci;simp only[ŉ,g,w]
theorem rX(P:PC X){m n:Â}(l:m<=1000)(r:qT X n i s e t)(c:e<=(Ĉ).length)(h:n=m\/n<m/\qV X e):qp [mX X fw fh s i j,.fz Ģh]=À ([mX X fw fh t e (j+n),.fz Ģh],.fz Æi):=by
 let b:∀{n k i:Â}{s:yo}{j:Æ},qT X n i s e t->(k+n=m\/k+n<m/\qV X e)->gB YT O2 Ĝ [À (mX X fw fh s i j),À ϻp,À (.fz (.int (k:Â)))]=À (.nx [À (mX X fw fh t e (j+n)),À ϻp,À (.fz (.int ((k+n:Â):Æ)))]):=by
  intro n
  induction n with
  |ň=>intro k i s j r h;cases r;rw[show j+((0:Â):Æ)=j by omega];rcases h with h|⟨h,d⟩;show z1o (x2b Ê);show z1o (x29 Ê (D5 d c).2)
  |Ŝ n ih=>
   intro k i s j r h;cases r with
   |ñ a r=>
    let f:(k:Æ)<(m:Â):=by omega
    show(w17 (x25 f Ÿp.2) (x23 rfl)).trans ?_;let q:=ih (k:=k+1) (j:=j+1) r Ők;rw[show j+1+(n:Æ)=j+((n+1:Â):Æ) by omega,show k+1+n=k+Ĝ by omega]at q;show q
 let q:=b (k:=0) (j:=j) r Ők;rw[ĸ]at q;let g:n<=m:=Ϩc (λz=>Œb z) λz=>Ûa z.1
 show x2a (ý (show n+1<=1001 by omega) Ò) q
#print a
section
variable{X:Á D}
def z0c(P:PC X){i m:Â}{s:yo}(g:Gd m s)(o:m<=800)(d:¬ qV X i):∃i' s',qA X i s i' s'/\Gd Ϗd s'/\i'<=(Ĉ).length:=by
 let e:i<(Ĉ).length:=Ôh λh=>d λz=>Þ z h
 let n:zp X i≠X5:=λh=>d λ_=>h
 let f:∀{i' s'},qA X i s i' s'->∃i' s',qA X i s i' s'/\Gd Ϗd s'/\i'<=(Ĉ).length:=λ{i' s'} a=>by
  let{T,N,_}:=BI P;cases both P N g o g.w όo a with
  |mk _ _ _ _ gd _ hw=>show{i',s',a,gd,Jr e hw}
 let{u,x}:=jz P e;let q:=(UI P (Ŏa (Ϸ (qI e))).1).1;let b:=λ{i':Â} {s':yo} {j:Ð} (A:tq Ϗ s s' j) y v=>f (qA.mk (i':=i') e n A y v)
 generalize zp X i=r at *;cases u with
 |ïa t=>cases x|Ϫ h=>
  rcases Na h with h|rfl;let{s',A,_}:=z3o h g o;show b (i':=i+1) A nofun λ_=>rfl
  show Þ rfl n
 |w8 t=>let{p,l}:=Łb q;show b (TN s t) (λ_=>l) nofun
 |@cond w k t hw hk=>
  let{p,l}:=Łb (show(yY X Ġd).isSome=Ã by rw[q];rcases hw with rfl|rfl<;>rfl);let{j,c}:=M6 s hw hk;cases j with
  |Ã=>show b (c t) (λ_=>l) nofun|Ä=>show b (i':=i+1) (c t) nofun λ_=>rfl
theorem Sm(P:PC X):∀(n:Â){m i:Â}{s:yo},m+4*n<=800->Gd m s->i<=(Ĉ).length->∃k e t,qT X k i s e t/\e<=(Ĉ).length/\k<=n/\(k=n\/qV X e)/\Gd (m+4*n) t
 |0,m,i,s,_,g,hi=>{0,i,s,.nil,hi,Ĭ _,.inl rfl,g}|n+1,m,i,s,hm,g,hi=>by by_cases d:qV X i;show{0,i,s,.nil,hi,ŵ _,.inr d,{g.w,g.p,ý g.l Ϲf}};let{o,j,a,h,b}:=z0c P g Ê d;let{k,e,t,r,c,f,z,gt}:=Sm P n (m:=m+4) Ê h b;show{k+1,e,t,.cons a r,c,õa f,Źd (λz=>by rw[z]) id,by rw[show m+4*Ĝ=m+4+4*n by omega];show gt}
def x5f(P:PC X){fw fh:D}{i m:Â}{s:yo}{j:Æ}(g:Gd m s)(b:m<=800)(hi:i<=(Ĉ).length):(qV X i/\uN ðd=À (Ä,.bl Ã))\/(¬ qV X i/\uN ðd=À (Ä,.bl Ä)):=by by_cases d:qV X i;show .inl {d,(D5 d hi).1};let{_,_,a,_}:=z0c P g b d;show .inr {d,Ÿp.1}
#print a
def AF:FE:=(wP (Τ (Α ĩf)))
def AT:FT:=(tE (e2 wp ĩf ı))
def Eg:FS:=
 (vS (wO 1 (vm (eL Gq ĭa)) Âb AT AF))
def JW:Á D->É ä:=FR 1 1 Eg
def z9d(a:D):JW [a]=yJ 1 Eg [a]:=rfl
def Ch:FS:=
 (vS (eL VT (Α (e1 éo Ýf))))
def Wy:Á D->É ä:=FR 1 1 Ch
def z7x(a:D):Wy [a]=yJ 1 Ch [a]:=rfl
def DO:FE:=(e2 zJ (e1 (wK [Ŀ] âb) Ýf) ć)
def Cf:FS:=
 (χd (wO 1 êo Âb xc DO))
def Ww:Á D->É ä:=FR 1 1 Cf
def z7v(a:D):Ww [a]=yJ 1 Cf [a]:=rfl
def Cg:FS:=
 (vS (wA JW (Α (e1 (wK Īi úa) Ýf))))
def Wx:Á D->É ä:=FR 1 1 Cg
def z7w(a:D):Wx [a]=yJ 1 Cg [a]:=rfl
nonrec def g_:Á Ĳ->Æ->Æ
 | [],_=>0|p::ps,a=>if p.1=a then p.2 else g_ ps a
theorem iE{a:Æ}:∀{ps:Á Ĳ},a∈ϊ (·.1)->ĉ ĳ Ŧ Ĩb=À ån
 | [],h=>Þ h ô|p::ps,h=>by exact ĉ (.inl p.1::kP ps) (.int p.2::vP ps) Ĩb=_;unfold ĉ g_;by_cases c:p.1=a;rw[Ï (ķ Į c),Ï c];rw[Ñ (λz=>c (õc z)),Ñ c];rw[Ļ]at h;show iE Ϥk
def l6(h:a∈ϊ (·.1)):zJ Þd ĸj=À ån:=by exact(ua ĸj).bind _=_;show iE h
def Îb(ps:Á Ĳ):Á Æ:=Ğd (ϊ (·.1))
def Tn(ps:Á Ĳ):Á D:=((Îb ps).filter λa=>decide Ϣn).map λa=>.tup éh
theorem y2x(h:a∈Îb ps):a∈ϊ (·.1):=(ßi (ϊ (·.1))).mem_iff.mp h
theorem lF:∀(ps:Á Ĳ),Zj ĳ=À (ϊ (·.1))
 | []=>rfl|p::ps=>by exact(Zj ĳ).bind _=_;rw[lF ps];rfl
def y24(p:Æ->Ð)(v:Æ->D)(h:∀n∈ns,∃σ1,g ōd σ=À σ1/\c σ1=À (p n)/\(p n=Ã->e σ1=À (v n))):wB g c e σ śd=À ((ns.filter p).map v):=by
 induction ns with
 |nil=>rfl|ñ n ns ih=>
  let{σ1,e1,e2,d}:=h n ÿ;let a:=ih λm b=>h m ύc
  exact wB g c e σ (.int n::wI ns)=_;cases q:p n with
  |Ã=>rw[q]at e2;simp only[wB,e1,íc,e2,d q,a,Ęf,q,ϋ,Ļ]|Ä=>rw[q]at e2;simp only[wB,e1,íc,e2,a,Ęf,q,Ňb,ċa]
theorem y3l:wp Ϩ ű=À (ι (i≠0)):=by
 exact À (Ñb (!(i==0)))=_
 congr 2
 rw[ŭq];rfl;rw[ú c];let:(i==0)=Ä:=by simpa using c
 rw[this];rfl
def y8j{ps:Á Ĳ}:JW įn=À (Ã,.lst ϕj):=by
 let e1:Gq įn=À (Β ϔn):=by exact(Zj ĳ).bind _=_;rw[lF];rfl
 let e2:wB Âb AT AF [À (Ä,.dic ĳ Ŧ),Å] ϔn=À ϕj:=y24 (λa=>decide Ϣn) (λa=>.tup éh) λn c=>by let b:=l6 (y2x c);show{_,rfl,?_,λ_=>?_};unfold AT;simp only[Ø,b,y3l];unfold AF;simp only[Ø,b]
 rw[z9d];unfold Eg;simp only[Ø,e1,e2]
section
variable{T fw fh:D}{e due done:Æ}{Ws:Á Æ}{a b c:Ð}{ps:Á Ĳ}
def x1k:Wy ϑg=À (Ã,.lst Ŕ):=by let d:VT ϊf=À ěa:=rfl;rw[z7x];unfold Ch;simp only[Ø,IU,jo,d]
theorem y2t:Ww ϑg=À (Ä,.tup ņc):=by
 let e1:wB Âb xc DO [À (Ä,wm T e fw fh ťl due done),Å] Ic=À ņc:=by
  let h:∀m:Ç,DO [À (Ä,wm T e fw fh ťl due done),À (Ä,.str m)]=zJ żc (.str m):=λm=>by unfold DO;simp only[Ø,IU,Gw]
  unfold Ic;simp only[wB,yA,xc,íc,ĳh,Ĳh,h,Sn,x7s,x7t]
 let e2:IT [.lst ņc]=À (.tup ņc):=rfl;rw[z7v];unfold Cf Te;simp only[Ø,e1,e2]
theorem y2z:Wx ϑg=À (Ã,.lst ϕj):=by rw[z7w];unfold Cg;simp only[Ø,IU,Gv,y8j]
#print a
def Ny:FA:=(p6 ı (e2 xE Şo ņb))
def Kt:FS:=(zR (zm 4 (Τb (e2 xU ýf ĺ)))
    (j_ 2 (e2 zJ (xv (zC (e2 xE Éh (eC Ĩi)) (zC (e2 xE Éh (eC (.int 12))) (Α (e2 pW (eC ĉo) (e2 xE Éh ęb)))))) Ān) (e2 xE (e2 vC ř ęb) øn)))
def DQ:FE:=(Ρ õb (Α (e2 zJ ōg õb)))
def EL:FS:=
 (zR ži
  (zR (jS Ny Īc
   Kt)
  (zR (Yw 2) (vS (wO 1 (Tf 2) Ŏg xc DQ)))))
def Xc:Á D->É ä:=FR 2 5 EL
def z8v(a x1:D):Xc ď=yJ 5 EL ď:=rfl
theorem z16:∀{ps:Á Ĳ} {p:Æ×Æ},(ϊ (·.1)).Nodup->p∈ps->g_ ps p.1=p.2
 |q::ps,p,nd,h=>by rw[Ļ,List.nodup_cons]at nd;unfold g_;rcases Ğ h with rfl|h;rw[Ï rfl];rw[Ñ (λz:q.1=p.1=>nd.1 (by rw[z];show ĝh (f:=(·.1)) h))];show z16 nd.2 h
def y2y{ns:Á Æ}(A:ť<=63)(s:∀m∈ns,vW m<=1048576):∃ps:Á Ĳ,qS ps/\ħ<=4/\Xc [.lst Ϲ,.int 38]=À (Ã,.lst ϙc):=by
 let{m,N,O,w}:=Zn A s (k:=38) Ò Ò;let J:(ϵm).length=(m%4).toNat:=by rw[ã,Úa]
 let{σ',e1,ps,j,c,P,n,rfl}:=kX (g:=yA 3) (b:=Kt) (λi σ=>∃(ps:Á Ĳ) (j c:É Sl),qS ps/\ħ<=i/\σ=[À (Ä,.lst Ϲ),À (Ä,.int 38),À (Ã,.dic ĳ Ŧ),j,c])
  (ds:=wt (m%4).toNat) (σ:=ćk) 0 {[],Å,Å,{nofun,nofun,Ųa},Ĭ _,rfl} λi d σ o l=>by
   let{ps,j,c,P,n,rfl}:=l;rw[ĸ]at n ⊢;let{L,rfl}:=UK o;let I:i<4:=by omega
   let{μ,μ0,μ1,q}:=Zn A s (k:=39+(i:Æ)) Ê Ê
   obtain⟨v,B,F,E⟩:∃v:Æ,zJ (.lst [.int (μ/256%65536),.int (μ/256%12),.int (65535-μ/256%3)]) (Δ (μ%3))=À Ϯb/\0<=v/\v<65536:=by rcases(show μ%3=0\/μ%3=1\/μ%3=2 by omega)with h|h|h<;>rw[h]<;>show{_,rfl,by omega,by omega}
   let r:ua Ϯb=À (.inl v):=rfl;let y:(ĳ).length<yX:=by unfold kP;rw[ã];rw[Ëq]
   let{C,K}:=sN ps v ái;show{_,[À (Ä,.lst Ϲ),À (Ä,.int 38),À (Ã,.dic (kP ϗn) (vP ϗn)),À (Ä,.int (i:Æ)),À (Ä,.int μ)],rfl,.inl ?_,vp ps v ái,_,_,sR P F E ŧf Ũf,ý Yy (õa n),rfl};rw[<-C,<-K];unfold Kt;generalize ϣ Ě=NS at q B r y ⊢;simp only[Ø,ϴ,q,B,j_,r,y,ϋ]
 rw[ĸ,J]at n
 let t:Tf 2 [À (Ä,.lst Ϲ),À (Ä,.int 38),À (Ä,.dic ĳ Ŧ),j,c]=À êm:=by exact(if(ĳ).all Tz=Ã then À ((ĳ).map ϙa)else Å)=_;rw[Ï (çd λx G=>by let{p,_,rfl}:=Ϻ G;rfl)];unfold kP;rw[ϭ];rfl
 let z:wB Ŏg xc DQ ąk êm=À ϙc:=by
  let e:=Zl (g:=yA 5) (e:=DQ) (σ:=ąk) (ds:=ϊ λp=>Ě p.1) (λd=>match d with|.int a=>.tup éh|_=>.zO) λd o=>by let{p,l,rfl}:=Ϻ o;let H:=l6 (ps:=ps) (ĝh (f:=(·.1)) l);rw[Ýq];unfold DQ;simp only[Ø,H]
  rw[e,ϭ];show ķ À (ùf λp l=>?_);exact ό [.int p.1,.int (g_ ps p.1)]=pD p;rw[z16 Èd l];rfl
 refine{ps,P,by omega,?_}
 let u:Ny ćk=À ϵm:=by unfold Ny;show Z4 ?_ Ê;generalize ϣ Ě=NS at w ⊢;simp only[Ø,w]
 rw[z8v];unfold EL;generalize ϣ Ě=NS at u e1 t z ⊢;simp only[Ø,u,e1,t,z]
structure bp(X Z:Á D)(s0:yo)(I:Â->Á Â->Â->yo->È):È where
 Fc:I 0 [0] 0 s0
 go:∀{k l i s m i' s'},I k l i s->Gd m s->Gd m s'->m<=800->qA X i s i' s'->(i' ∉ l/\I k (i'::l) i' s')\/I Ĩ [i'] i' s'
 run:∀{k l i s},I k l i s->∃k' z t,k<=k'/\qT Z k' 0 s0 z t
 fin:∀{k l i s m},I k l i s->Gd m s->m<=800->qV X i->i<=(Ĉ).length->∃k' z,qT Z k' 0 s0 z s/\qV Z z
def Cl(X Z:Á D):È:=∀m s0,Gd m s0->m<=800->∃I,bp X Z s0 I
def z5t{X Y:Á D}(f:PC X)(n:PC Y)(S:TL X Y):Cl X Y:=λ_ o _ _=>by
 let g:∀{i},i<(Ĉ).length->kF Ϗ łe/\yY X Ϗ=yY Y łe:=λ{i} e=>by let{a,b,c}:=S.row f n e;show{y2d (jz f e).1 (jz n Ÿo).1 c a,b}
 show{λk _ i s=>qT Y k 0 o i s,.nil,λ{k l i s m p q} r _ _ _ a=>.inr (r.snoc ?_),λ{k l i s} r=>{k,i,s,Ĭ _,r},λ{k l i s m} r _ _ d _=>{k,i,r,λh=>?_}};cases a with
 |mk e ns A g1 g2=>let{l,b}:=g e;show .mk Ÿo (λz=>ns (l.stop.mpr z)) (l.act A) (λz=>b▸g1 z) g2
 let j:i<(Ĉ).length:=by rw[S.len];show h
 show(g j).1.stop.mp (d j)
def z5q{X Z:Á D}{T:Á Â}(P:PC X)(N:NI (Ĉ).length Ùk Ûk ϋe T []){b:Á Â}(U:∀q∈b,¬ jb (Ĉ).length ϋe q\/Zp X q=Ã\/q_ (zp X q)=Ã\/gY X T q=Ã)(W:Cl (uB b X).2 Z):Cl X Z:=λm0 s0 g0 h0=>by
 let K:=y1m b X;generalize (uB b X).2=Y at K W;let{I,C}:=W m0 s0 g0 h0;let E:∀{i},i<(Ĉ).length->i ∉ b->zp Y Ğj=zp X i:=λH c=>MD ((K.r _ H c).trans (qI H))
 let lt:∀{i},i<(Ĉ).length->i ∉ b->rk b i<(ŵe).length:=λ{i} H c=>by rw[K.l];show ŭ (by rw[Oc c];show Čb _) (Bi H)
 let tg:∀r,yY Y r=(yY X r).map (rk b):=λr=>by
  unfold yY;cases xJ r with
  |Ã=>show ķ (·.2) (K.p Úk).1|Ä=>rfl
 let tw:∀k,k<11->(2047:Â).testBit k=Ã:=by decide
 show{λk l i s=>∃F O G,k<=F/\I F O Ğj G/\(i∈l/\∀j∈l,rk b j∈O/\(rk b j=rk b i->j<=i))/\W8 G.ws/\qm ħb s G/\jb (Ĉ).length ϋe i,{0,[0],s0,Ĭ _,C.Fc,{ÿ,λj x=>?_},g0.w,.refl _ _,.zero},?_,?_,?_};cases Ľ x;show{ÿ,λ_=>Ĭ _};rintro k l i s m i' s' ⟨F,O,G,B,J,⟨hl,f⟩,L,A,v⟩ g g' R a;rw[Řq]
 let ns:zp X i≠X5:=by cases a;assumption
 cases both P N g R L A a with
 |mk a2 y1 y2 ag gd w hw sk=>have o:=jb.step v y hw;by_cases c:i∈b;let{rfl,S}:=sk ((U i c).resolve_left λh=>h v);let e:=P1 c;refine .inl {λh=>Þ ((f _ h).2 e) (Àh _),F,O,G,B,by rw[e];show J,{ÿ,λj x=>?_},L,S,o};rw[e];rcases Ğ x with rfl|x;show{by rw[e];show(f i hl).1,λ_=>Ĭ _};show{ıg.1,λz=>ϊb (ıg.2 z)};let st:qA Y Ğj G (rk b i') _:=.mk (lt y c) (by rw[E y c];show ns) (by rw[E y c];show a2) (λz=>by rw[E y c,tg,y1 z];rfl) (λz=>by rw[y2 z,Oc c]);rcases C.go J {L,A.p▸g.p,A.p▸g.l} {w,ag.p▸g'.p,ag.p▸g'.l} R st with⟨n,h⟩|h;show .inl {λz=>n (f _ z).1,F,_,_,B,h,{ÿ,λj x=>?_},w,ag,o};rcases Ğ x with rfl|x;show{ÿ,λ_=>Ĭ _};show{ŏ _ ıg.1,λz=>Þ (z▸ıg.1) n};show .inr {F+1,_,_,õa B,h,{ÿ,λj x=>?_},w,ag,o};cases Ľ x;show{ÿ,λ_=>Ĭ _}
 rintro k l i s ⟨F,O,G,B,J,_⟩;let{k2,z,t,h,r}:=C.run J;show{k2,z,t,ý B h,r};rintro k l e s m ⟨F,O,G,B,J,_,L,A,v⟩ g R d H;let yl:rk b e<=(ŵe).length:=by rw[K.l];show Bi H
 by_cases z:e<(Ĉ).length;let Q:=d z
 let u:Uf X e=2047:=by unfold Uf;rw[Q];show ķ Vv w0j
 obtain rfl:=A.all (λk B=>MK N z (by rw[u];show tw k B)) g.w L;show Ųg J g R đc yl
 let nq:e ∉ b:=λc=>by
  rcases U e c with h|h|h|h;show h v;let h:=ţ h;rw[Q]at h;cases h;rw[Q]at h;show Ħ h;unfold gY at h;rw[Đ]at h;show ţ h.1 ?_;unfold Pf;rw[Q]
  rw[ãq]
 rw[E z nq];show Q;let ee:e=(Ĉ).length:=ύb H (łl z);obtain rfl:=A.all (λk B=>by rw[ee,ϲj];show tw k B) g.w L;show Ųg J g R (λh=>Þ h (by rw[ee,K.l];show Ùc _)) yl
def Ed(X:Á D):Â->Â->Â->È
 |0,i,y=>y=i/\jp X i=Å|n+1,i,y=>∃p,jp X i=À p/\Ed X n p y
def tt(X:Á D)(i y n:Â):È:=Ed X n i y\/(n=0/\y=i/\¬ ∃k,Wu ŗg k i)
section
variable{X:Á D}
theorem fT:∀{n n' i y y':Â},Ed X n i y->Ed X n' i y'->y=y'/\n=n'
 |0,0,_,_,_,⟨a,_⟩,⟨b,_⟩=>{a.trans Ϯj,rfl}|0,_+1,_,_,_,⟨_,a⟩,⟨_,b,_⟩=>by rw[a]at b;cases b|_+1,0,_,_,_,⟨_,b,_⟩,⟨_,a⟩=>by rw[a]at b;cases b|_+1,_+1,_,_,_,⟨_,a,h⟩,⟨_,b,g⟩=>by rw[a]at b;cases b;let{e,f}:=fT h g;show{e,ķ _ f}
theorem GX:∀{n i y:Â},Ed X n i y->Wu ŗg n i
 |0,_,_,h=>h.2|_+1,_,_,⟨p,a,h⟩=>{p,a,GX h}
theorem fV:∀{n i:Â},Wu ŗg n i->∃y,Ed X n i y
 |0,i,h=>{i,rfl,h}|_+1,_,⟨p,a,h⟩=>by let{y,h}:=fV h;show{y,p,a,h}
def ME{n c i y d:Â}(a:tt X i y n)(b:tt X i d c):y=d/\n=c:=by rcases a with a|⟨rfl,rfl,a⟩;rcases b with b|⟨rfl,rfl,b⟩;show fT a b;show Þ {_,GX a} b;rcases b with b|⟨rfl,rfl,b⟩;show Þ {_,GX b} a;show{rfl,rfl}
def ĵb(i:Â):∃y n,tt X i y n:=by by_cases h:∃k,Wu ŗg k i;let{k,h}:=h;let{y,h}:=fV h;show{y,k,.inl h};show{i,0,.inr {rfl,rfl,h}}
def Cc{i y:Â}(a:tt X i y 0):y=i:=by rcases a with a|⟨_,a,_⟩;show a.1;show a
theorem rY:∀{k:Â}{a:Ç}{ϛ:Á Â}{b:Ç},qw (jn Ĉ) (xr X) k a ϛ ħg->Ed X k (xr X a) (xr X b)
 |_,_,_,_,.stop h=>{rfl,by unfold jp;rw[h];rfl}|_,_,_,_,.go (r:=r) h _ R=>{xr X r,by unfold jp;rw[h];rfl,rY R}
def y1x(P:PC X)(t:Ç):∃n,tt X (xr X t) (xr X Ěj) n:=by
 let{k,o,_,R}:=U3 (J:=jn Ĉ) (pl:=xr X) (n:=(Ĉ).length) Üf (Ĉ).length t [] Ųa Ĭm Ĵa;rw[show vZ X t=ūd t from Vl R];cases o with
 |Å=>show{0,.inr {rfl,rfl,λ⟨j,a⟩=>PD R Ĭm {j,GZ.mpr a}}}|À b=>show{k,.inl (rY R)}
def x6s(P:PC X){r:D}(h:yk r){p:Â}(a:yY X r=À p):∃q n,tt X p q n/\yY áa (xP X r)=À q:=by
 let b:∀t:Ç,(xO t X).2=À p->∃q n,tt X p q n/\(xO Ěj áa).2=À q:=λt e=>by let{n,h}:=y1x P t;rw[show xr X t=p by unfold xr;rw[e];rfl]at h;show{_,n,h,?_};rw[show xO Ěj áa=_ from Ÿd.2.1 _];show Kq (lL P {p,e})
 cases h with
 |ïa t=>cases a|Ϫ q=>let{_,_,_,_,z,_}:=Zt q;unfold yY at a;rw[z]at a;cases a
 |w8 t=>show b t a|š t hw hk=>rcases hw with rfl|rfl<;>show b t a
def lZ(P:PC X){i:Â}(hi:i<(Ĉ).length):zp áa i=xP X Ϗ/\kF Ϗ (zp áa i):=by
 let e:zp áa i=xP X Ϗ:=MD (by rw[show zB áa=_ from Ÿd.2.2,ė,qI hi];rfl)
 rw[e];show{rfl,y2e Ϙp.1}
def lh(P:PC X){i i':Â}{s s':yo}(a:qA X i s i' s'):∃q,qA áa i s q s'/\((∃n,tt X i' q n)\/(q=i'/\jp X i=Å)):=by
 let m:=λp (h:jp X i=À p)=>Mw P h s
 cases a with
 |@mk ld hi ns A g1 g2=>
  let{k,g}:=lZ P hi;let d:i<(ég).length:=by rw[Vn P];show hi
  let b:zp áa i≠X5:=λz=>ns (g.stop.mpr z)
  let j:=g.act A;cases ld with
  |Ä=>
   show{i',.mk d b j nofun g2,.inr {rfl,?_}};cases e:jp X i with
   |Å=>rfl|À p=>
    let f:=e;unfold jp at f;cases z:jn Ĉ i with
    |Å=>rw[z]at f;cases f|À r=>have l:=MD (Xy P z).1;rw[l]at A;cases(ųg (TN s r)).2
  |Ã=>let{q,n,c,e}:=x6s P Ϙp.1 (g1 rfl);show{q,.mk d b j (λ_=>by rw[k];show e) nofun,.inl {n,c}}
def y2b(P:PC X){n i y:Â}(h:Ed X Ĝ i y)(s:yo):qA áa i s y s:=by let{p,a,h}:=h;obtain⟨q,st,⟨_,c⟩|⟨_,c⟩⟩:=lh P (Mw P a s);rw[(ME Ác c).1];show st;rw[a]at c;cases c
def z5r{Z:Á D}(P:PC X)(cl:Cl áa Z):Cl X Z:=λm0 s0 g0 h0=>by
 let{I,C}:=cl m0 s0 g0 h0
 let +zeta J:Â->Á Â->Â->yo->È:=λk l i s=>∃v F y n,k<=v/\I v F y s/\tt X i y n/\(i∈l/\∀j∈l,∃u w,tt X j u w/\u∈F/\(u=y->n<=w))
 let H:∀{k v L i y n s},k<=v->I v L y s->y∈L->tt X i y n->J k [i] i s:=λ{k v L i y n s} B E S f=>
  {v,L,y,n,B,E,f,ÿ,λj G=>by cases Ľ G;show{y,n,f,S,λ_=>Ĭ _}}
 let Y:∀{k v F q i m s},k<=v->I v F q s->q∈F->Gd m s->m<=800->((∃n,tt X i q n)\/q=i)->J k [i] i s/\∀{l:Á Â}{A:Á Â},F=q::A->q ∉ A->(∀j∈l,∃u w,tt X j u w/\u∈A)->Ğl\/J Ĩ [i] i s:=by
  intro k v F q i m s B E hq g K h
  let O:∀{L y n}{l A:Á Â},I v L y s->y∈L->tt X i y n->y ∉ A->(∀x∈A,x∈L)->(∀j∈l,∃u w,tt X j u w/\u∈A)->i ∉ l/\J k (i::l) i s:=λ{L y n l A} E S f N hs o=>by show{λz=>?_,v,L,y,n,B,E,f,ÿ,λj G=>?_};let{u,w,a,b}:=o i z;rw[(ME a f).1]at b;show N b;rcases Ğ G with rfl|G;show{y,n,f,S,λ_=>Ĭ _};let{u,w,a,b}:=o j G;show{u,w,a,hs _ b,λz=>Þ (z▸b) N}
  let Q:∀{n},tt X i q n->J k [i] i s/\∀{l:Á Â}{A:Á Â},F=q::A->q ∉ A->(∀j∈l,∃u w,tt X j u w/\u∈A)->Ğl\/J Ĩ [i] i s:=λ{n} f=>{H B E hq f,λ{l A} e N o=>.inl (O E hq f N (λx W=>by rw[e];show ŏ _ W) o)}
  rcases h with⟨n,f⟩|rfl;show Q f;let{y,n,f}:=ĵb (X:=X) q;cases n with
  |ň=>obtain rfl:=Cc f;show Q f
  |Ŝ n=>
   let R:Ed X Ĝ q y:=ύh λz=>nomatch z.1
   rcases C.go E g g K (y2b P R s)with⟨c,h⟩|h;refine{H B h ÿ f,λ{l A} e N o=>.inl (O h ÿ f (λz=>c (by rw[e];show ŏ _ z)) (λx W=>ŏ _ (by rw[e];show ŏ _ W)) o)};show{H (ϊb B) h ÿ f,λ{l A} e N o=>.inr (H (õa B) h ÿ f)}
 show{J,(Y Ď C.Fc ÿ g0 h0 Ϡb).1,?_,?_,?_};rintro k l i s m U s' ⟨v,F,y,n,B,E,f,hl,o⟩ g g' K a;cases n with
 |ň=>
  obtain rfl:=Cc f;let{q,st,h}:=lh P a;let h:(∃n,tt X U q n)\/q=U:=h.imp id (·.1);rcases C.go E g g' K st with⟨c,z⟩|z;show(Y B z ÿ g' K h).2 rfl c λj G=>by let{u,w,a,b,_}:=o j G;show{u,w,a,b}
  show .inr (Y (õa B) z ÿ g' K h).1
 |Ŝ n=>
  obtain⟨p,T,R⟩:Ed X Ĝ i y:=ύh λz=>nomatch z.1
  let{rfl,rfl}:=a.one (Mw P T s);let{y0,n0,a0,b0,_}:=o i hl;rw[(ME a0 f).1]at b0;show .inl {λz=>?_,v,F,y,n,B,E,.inl R,ÿ,λj G=>?_};let{u,w,a,_,c}:=o U z;let{e1,e2}:=ME a (.inl R);let:=c e1;rw[e2]at this;show Àh _ this;rcases Ğ G with rfl|G;show{y,n,.inl R,b0,λ_=>Ĭ _};let{u,w,a,b,c}:=o j G;show{u,w,a,b,λz=>řm (c z)}
 rintro k l i s ⟨v,F,y,n,B,E,_⟩;let{k2,z,t,h,r}:=C.run E;show{k2,z,t,ý B h,r};rintro k l i s m ⟨v,F,y,n,B,E,f,_⟩ g K d hi;cases n with
 |ň=>obtain rfl:=Cc f;show Ųg E g K (λh=>?_) (by rw[Vn P];show hi);rw[Vn P]at h;show(lZ P h).2.stop.mp (d h)
 |Ŝ n=>
  obtain⟨p,T,_⟩:Ed X Ĝ i y:=ύh λz=>nomatch z.1
  show(y0w T P d).elim
#print a
def x5i{X:Á D}(g:PC X)(k:(Ĉ).length<=60):∃T qs,NI (ég).length (Uf áa) (Pf áa) (Wf áa) T []/\tK X=(uB qs áa).2/\∀q∈qs,¬ jb (ég).length (Wf áa) q\/Zp áa q=Ã\/q_ (zp áa q)=Ã\/gY áa T q=Ã:=by
 let P:PC áa:=(Yj g).1;let e:(ég).length<=60:=by rw[Vn g];show k
 unfold tK;generalize xB X=L at *;let{R,_,j,i}:=rP P e;let{T,N,h}:=BI P;show{T,_,N,rfl,λq d=>?_};unfold Z3 at d;rw[i,h,DJ,DJ]at d;let{l,f,d}:=h_ d;unfold Ti at f;simp only[ęa,ϝ,Ļa]at f;rcases f with rfl|rfl|rfl|rfl;let{a,b}:=ţg d;show .inl λc=>?_
 rw[ú ((j q).mpr {a,c})]at b;cases b;show .inr ŋm;show .inr (.inr ŋm);show .inr (.inr (.inr (ţg d).2))
def z5v{X Z:Á D}(a:PC X)(c:(Ĉ).length<=60)(b:Cl (tK X) Z):Cl X Z:=by show z5r a ?_;let{T,d,N,e,h}:=x5i a c;show z5q (Yj a).1 N h (e▸b)
def z5u{Z:Á D}{k:Â}{a b:Á D}(S:Xo k a b)(c:Cl b Z):PC a->(Ϭc).length<=60->Cl a Z:=by
 induction S with
 |fin _=>show λ_ _=>c|go _ _ ih=>intro P d;let{f,e}:=D6 P;show z5v P d (ih c f (ý e d))
def z5s{X:Á D}(P:PC X)(a:(Ĉ).length<=45):∃Y,PC Y/\Xg [.lst X]=À (Ã,.lst Y)/\Cl X Y:=by let{k,b,f,S}:=z06 (Ĉ).length P Ď;let{d,e}:=z05 S P;let{c,s}:=y9x d (ý e a);show{_,c,x4c S P řo Ê,z5u S (z5t d c s) P řo}
theorem GM{X Z:Á D}{x:yo}{I:Â->Á Â->Â->yo->È}(P:PC X)(C:bp X Z x I):∀{n m i e k:Â}{l:Á Â}{s t:yo},qT X n i s e t->m+4*n<=800->Gd m s->I k l i s->ŏj->(∀j∈l,j<(Ĉ).length+1)->∃k' l',I k' l' e t/\Ďp<=(Ĉ).length+1/\k*ðc+īb+n<=k'*ðc+Ďp
 |_,_,_,_,k,l,_,_,.nil,_,_,h,nd,b=>{k,l,h,IB _ nd b,Ĭ _}|n+1,m,i,e,k,l,s,t,.cons (i1:=i1) (s1:=s1) a r,hm,g,h,nd,b=>by
  let{T,N,_}:=BI P;rw[Řq]
  cases both P N g Ê g.w όo a with
  |mk _ _ _ _ gd _ hw=>
   let v:=Êe (Jr y hw);let z:=IB _ nd b;rcases C.go h (m:=m+4) {g.w,g.p,ý g.l Ϲf} gd Ê a with⟨c,q⟩|q;let{k',l',o,f,u}:=GM P C r (m:=m+4) Ê gd q (łc {c,nd}) λj d=>by rcases Ğ d with rfl|d;show v;show b j d
   show{k',l',o,f,?_};rw[Ć]at u;omega;let{k',l',o,f,u}:=GM P C r (m:=m+4) Ê gd q ūm λj d=>by cases Ľ d;show v
   show{k',l',o,f,?_};rw[ńi,İo]at u;let:[i1].length=1:=rfl;omega
theorem PF{Y:Á D}:∀{k k' i f z:Â}{s t u:yo},qT Y k i s f t->qV Y f->qT Y k' i s z u->k'<=k/\(qV Y z->u=t)
 |_,_,_,_,_,_,_,_,.nil,_,.nil=>{Ĭ _,λ_=>rfl}|_,_,_,_,_,_,_,_,.nil,d,.cons a _=>by
  cases a with
  |mk hi ns=>show Þ Ôk ns
 |_,_,_,_,_,_,_,_,.cons a _,_,.nil=>⟨ŵ _,λd=>by
  cases a with
  |mk hi ns=>show Þ Ôk ns⟩
 |_,_,_,_,_,_,_,_,.cons a r,d,.cons b q=>by let{rfl,rfl}:=a.one b;let{e,c}:=PF r d q;show{õa e,c}
def y2h{X Y:Á D}(b:PC X)(y:Cl X Y){k f m:Â}{s t:yo}(g:Gd m s)(J:m+36*ðc<=800)(hk:k<=8)(r:qT Y k 0 s f t)(d:qV Y f):∃n e,n<=9*ðc/\qT X n 0 s e t/\qV X e/\e<=(Ĉ).length:=by
 let{n,e,u,i,l,A,z,p}:=Sm b (9*ðc) Ê g ũb;let{I,C}:=y m s g Ê
 let{E,H,o,K,G}:=GM b C i (m:=m) Ê g C.Fc ūm λj B=>by cases Ľ B;show Đi _
 let h:qV X e:=z.resolve_left λc=>by let{w,q,v,F,a}:=C.run o;let:=àp.1;let:E*ðc<=8*ðc:=Nat.mul_le_mul_right _ Ê;let:[0].length=1:=rfl;omega
 let{w,q,a,x}:=Ųg o p Ê h l;obtain rfl:=àp.2 x;show{n,e,A,i,h,l}
def Yh:FS:=(ya (tE (e2 zh ĺ ı))
     (g6 2 ı (zf Wy (qB à Ûb ą zE)))
     (ya (tE (e2 zh ĺ ń))
       (g6 2 ń (zf Ww (qB à Œd ą zE)))
       (ya (tE (e2 zh ĺ Ϡa))
         (g6 2 Ϡa (zf Wx (qB à ģb ą zE)))
         (g6 2 ęb øl))))
def ER:FS:=
 (zR (qK 2 (xv (zC Ϸa (zC Ϸa (zC Ϸa (Α Ϸa))))))
  (zR (jS (vm (e2 zJ (xv (zC (γa (ϳb Ě ĸp)) (zC (γa (ϳb Ě ĵp)) (zC (γa (ϳb Ě Ķp)) (Α (γa (ϳb Ě ķp))))))) (e2 xE ć ņb))) Īc
   Yh)
  Ìk))
def kD:Á D->É ä:=FR 2 4 ER
def z90(a x1:D):kD ď=yJ 4 ER ď:=rfl
def EJ:yd:=
 (xK (uv 1 (we (wA T5 (οa (zC ń Ĥe)))))
  (xK (Ym (νa (e2 zh (e2 xE (ψa (Η (.int 28))) ęb) ń))
   (uv 1 (we (zf JS (Τ (οa (Η (.int 46)))))))
   Yn)
  (xK ňk
  (xK Ňk
  (xK Ŭk
  (xK ŭk
  (xK (Ym Řk
   Ňh
   Yn)
  (xK Ál
  (xK ïk
  (xK ϣk
  äk))))))))))
def bu:FM:=uM 1 7 EJ
def z8t(a:M):bu [a]=vF 1 7 EJ [a]:=rfl
def DH(s:yo)(b:Ð):Á D:=[.lst ŵf,.tup [.bl s.a,.bl s.b,.bl s.c],.lst (Tn Òc),.bl b]
theorem x7i{Z t v1 u s:D}{v H E I:Ð}{μ:Æ}(l:∀m∈[Ûb,Œd,ģb,ĥb],∀τ:zx,qB à (Űa m) ą zE (À (Ä,Z)::τ)=À [Z])(A:Wy [Z]=À (v,t))(C:Ww [Z]=À (H,v1))(F:Wx [Z]=À (E,u))(G:uN [Z]=À (I,s)):kD [Z,.int μ]=À (Ã,.lst [t,v1,u,s]):=by
 let B:=l Ûb Ò;let y:=l Œd Ò;let w:=l ģb Ò;let x:=l ĥb Ò
 let q:∀a b:Â,zh çe řn=À (ι (a=b)):=λa b=>by
  exact À (Ñb ŏm)=_;by_cases c:a=b;subst c;rw[ú rfl,ėb];rw[Ē c];let:ŏm=Ä:=by rw[õf];omega
  rw[this]
 let n:∀g f j h:D,Yh [À (Ä,Z),À (Ä,.int μ),À (Ã,.lst ϴf),À (Ä,.int 0)]=À (.nx [À (Ä,Z),À (Ä,.int μ),À (Ã,.lst [t,f,j,h]),À (Ä,.int 0)]):=λg f j h=>by let e:zh ű ű=À Ķ:=rfl;let i:Éc 4 0=À 0:=rfl;unfold Yh;simp only[Ø,e,B,A,g6,i]
 let p:∀g f j h:D,Yh [À (Ä,Z),À (Ä,.int μ),À (Ã,.lst ϴf),À (Ä,.int 1)]=À (.nx [À (Ä,Z),À (Ä,.int μ),À (Ã,.lst [g,v1,j,h]),À (Ä,.int 1)]):=λg f j h=>by let k:zh ýa ű=À û:=rfl;let e:zh ýa ýa=À Ķ:=rfl;let i:Éc 4 1=À 1:=rfl;unfold Yh;simp only[Ø,k,e,y,C,g6,i]
 let r:∀g f j h:D,Yh [À (Ä,Z),À (Ä,.int μ),À (Ã,.lst ϴf),À (Ä,.int 2)]=À (.nx [À (Ä,Z),À (Ä,.int μ),À (Ã,.lst [g,f,u,h]),À (Ä,.int 2)]):=λg f j h=>by let k:zh ôb ű=À û:=rfl;let e1:zh ôb ýa=À û:=rfl;let e:zh ôb ôb=À Ķ:=rfl;let i:Éc 4 2=À 2:=rfl;unfold Yh;simp only[Ø,k,e1,e,w,F,g6,i]
 let o:∀g f j h:D,Yh [À (Ä,Z),À (Ä,.int μ),À (Ã,.lst ϴf),À (Ä,.int 3)]=À (.nx [À (Ä,Z),À (Ä,.int μ),À (Ã,.lst [g,f,j,s]),À (Ä,.int 3)]):=λg f j h=>by let k:zh ōe ű=À û:=rfl;let e1:zh ōe ýa=À û:=rfl;let e2:zh ōe ôb=À û:=rfl;let i:Éc 4 3=À 3:=rfl;unfold Yh;simp only[Ø,k,e1,e2,x,G,g6,i]
 rw[z90];unfold ER;rcases(show μ%4=0\/μ%4=1\/μ%4=2\/μ%4=3 by omega)with z|z|z|z;let i:∀a b c d:D,zJ ğf ű=À a:=λ_ _ _ _=>rfl
 simp only[Ø,z,i,n,p,r,o];let i:∀a b c d:D,zJ ğf ýa=À b:=λ_ _ _ _=>rfl
 simp only[Ø,z,i,n,p,r,o];let i:∀a b c d:D,zJ ğf ôb=À c:=λ_ _ _ _=>rfl
 simp only[Ø,z,i,n,p,r,o];let i:∀a b c d:D,zJ ğf ōe=À d:=λ_ _ _ _=>rfl
 simp only[Ø,z,i,n,p,r,o]
theorem z0s{X:Á D}{fw fh:D}{s:yo}{i:Â}{j μ:Æ}{b:Ð}(h:uN ðd=À (Ä,.bl b)):kD [YW X fw fh s i j,.int μ]=À (Ã,.lst (DH s b)):=by
 show x7i (λm a τ=>Jw rfl ?_ rfl) x1k y2t y2z h
 revert m
 rw[Îq]
def x7j(s:yo)(b:Ð):zh ĵn ĵn=À Ķ:=z78 (by
 let e1:p9 5 Śp=Ã:=çd λx a=>by let{n,_,rfl}:=Ϻ a;rfl
 let e2:p9 5 ên=Ã:=çd λx a=>by let{n,_,rfl}:=Ϻ a;rfl
 exact(p9 5 Śp&&(Ã&&(p9 5 ên&&(Ã&&Ã))))=Ã;rw[e1,e2];rfl)
def iY{X:Á D}(P:PC X){Ws:Á Æ}{ps:Á Ĳ}(w:W8 Ws)(p:qS ps)(a:ħ<=1000):gI [.obj à [] [],.fz ĳj,.fz ěa,.fz Ŭm]=À ([mX X ěa Þd {Ws,Ä,Ä,Ä,ps} 0 0,.fz ĳj,.fz ěa,.fz Ŭm],.fz .zO):=
 x1t (Yv Ų) (DG P) (ã ..) (ý όc (ý Öc Ò)) w.l w.h (z4x p a)
def Ob:yd:=xK ňk (xK Ňk
  (xK Ŭk
  (xK ŭk
  (xK (Ym Řk
   Ňh
   Yn)
  (xK Ál
  (xK ïk
  (xK ϣk
  äk)))))))
def x1o{k w S L Q:D}{RR:Á D}{l g fw fh:D}{e1 e2 o m μ:Æ}{t r:M}{b:Ð}(A:Xd ńo=À (Ã,L))(B:Xc ło=À (Ã,Q))(W:vh Ńo=À (Ä,.int μ))(es:Xg [k]=À (Ã,w))(H:V2 [k]=À (Ã,.lst RR))(i1:gI [.obj à [] [],.fz k,.fz L,.fz Q]=À ([yz l e1 fw fh t 0 0,.fz k,.fz L,.fz Q],.fz .zO))(y:gI [.obj à [] [],.fz w,.fz L,.fz Q]=À ([yz g e2 fw fh t 0 0,.fz w,.fz L,.fz Q],.fz .zO))(G:qp [yz g e2 fw fh t 0 0,.fz Ëa]=À ([yz g e2 fw fh r o m,.fz Ëa],.fz Ķj))(F:uN [wm g e2 fw fh (vU r) o m]=À (Ä,.bl b))(h:b=Ã->∃(s1:M) (q n:Æ) (v:D) (c a:Ð),qp [yz l e1 fw fh t 0 0,.fz Øl]=À ([yz l e1 fw fh s1 q n,.fz Øl],.fz ōd)/\uN [wm l e1 fw fh (vU s1) q n]=À (Ä,.bl Ã)/\kD [wm l e1 fw fh (vU s1) q n,.int μ]=À (c,v)/\kD [wm g e2 fw fh (vU r) o m,.int (μ/4)]=À (a,v)/\zh v v=À Ķ) :∃v1 v2 v3 v4 v5 v6,Ob [À (.fz S),À ϙj,Å,Å,Å,Å,Å]=À ĵk:=by
 let C:∀{T fw fh:D}{e d j:Æ}{s:M},űb ϫe=Å:=rfl;let x:∀{T fw fh:D}{e d j:Æ}{s:M}{o0 c a o3 o5 o6:É M},ji à ϑe 4 [] qp (wf ìb vN) Øh=(wf ìb vN Øh).bind λu=>YU qp (.p 4 []::u) Øh:=rfl
 let J:∀{f:FE}{T fw fh:D}{e d j:Æ}{s:M}{o0 c a o3 o4 o6:É M},ji à ϑe 5 [] qp (wf f vN) Ùh=(wf f vN Ùh).bind λu=>YU qp (.p 5 []::u) Ùh:=rfl
 let E:∀{T fw fh sd:D}{e d j:Æ}{o0 c a o3 o5 o6:É Sl},qB à ĥb ř zE [o0,c,a,o3,À (Ä,wm T e fw fh sd d j),o5,o6]=À Žl:=Jw rfl ϸ rfl;let I:∀{T fw fh sd:D}{e d j:Æ}{o0 c a o3 o4 o6:É Sl},qB à ĥb õb zE [o0,c,a,o3,o4,À (Ä,wm T e fw fh sd d j),o6]=À Žl:=Jw rfl ϸ rfl;let z:∀{T fw fh:D}{e d j:Æ}{s:M}{i:Â},kL ϫe i []=.p i []:=rfl;cases b with
 |Ä=>show{À ϙj,À (.fz L),À (.fz Q),À Ϗl,Å,Å,?_};unfold Ob;simp only[ŉ,A,B,es,y,G,C,x,E,WN,F,z]|Ã=>let{s1,q,n,v,c,a,U,N,O,P,K}:=h rfl;show{À ϙj,À (.fz L),À (.fz Q),À Ϗl,À (yz l e1 fw fh s1 q n),À (.fz (.int μ)),?_};unfold Ob;let R:Yl 9=Ã:=rfl;simp only[ŉ,A,B,es,H,ϴ,R,i1,y,U,G,C,x,J,E,I,WN,F,N,z,W,O,P,K]
theorem x1n{X:Á D}(a:PC X)(C:(Ĉ).length<=20){S:D}{Ws:Á Æ}{ps:Á Ĳ}{μ:Æ}(w:W8 Ws)(p:qS ps)(l:ħ<=8)(J:Xd ńo=À (Ã,.lst Ŕ))(K:Xc ło=À (Ã,.lst ϙc))(H:vh Ńo=À (Ä,.int μ)):∃v1 v2 v3 v4 v5 v6,Ob [À (.fz S),À (.fz ĳj),Å,Å,Å,Å,Å]=À ĵk:=by
 let{Y,c,A,B}:=z5s a Śo;let g:Gd 8 {Ws,Ä,Ä,Ä,ps}:={w,p,l};let F:=iY a w p Řo;let E:=iY c w p Řo;let{k,f,t,r,v,x,z,gt}:=Sm c 8 Ò g ũb
 let u:=rX (fw:=.lst Ŕ) (fh:=.dic ĳ Ŧ) (j:=0) c (m:=8) Ò r v (by rcases z with z|z;show .inl z;show(ıh x).elim (λq=>.inr {q,z}) .inl)
 rw[show(0:Æ)+(k:Æ)=(k:Æ) by omega]at u;let y:=λb=>x1o (b:=b) J K H A (y21 a.it) F E u
 rcases x5f (fw:=.lst Ŕ) (fh:=.dic ĳ Ŧ) (j:=(k:Æ)) c gt Ò v with⟨d,h⟩|⟨_,h⟩;let{n,e,I,G,i,o}:=y2h a B g Ê x r d;let s:=rX (fw:=.lst Ŕ) (fh:=.dic ĳ Ŧ) (j:=0) a (m:=9*ðc) Ê G o ((ıh I).elim (λq=>.inr {q,i}) .inl);rw[show(0:Æ)+(n:Æ)=(n:Æ) by omega]at s;refine y Ã ńm λ_=>{UE t,(e:Æ),(n:Æ),.lst (DH t Ã),Ã,Ã,s,?_,?_,?_,x7j t Ã};rw[UJ];show(D5 i o).1;rw[UJ];show z0s (D5 i o).1;rw[UJ];show z0s h;show y Ä ńm nofun
def x26:∀ns:Á Æ,ť<=63->(∀m∈ns,vW m<=1048576)->∃r,bu ųh=À (r,.fz Ķ):=λns c b=>by
 let{_,_,n,l,_,_,_,P,_,_,e}:=x03 c b (first:=1) (Īa:=8) Ò Ò Ò Ò;let{a,H,U,j}:=Zn c b (k:=28) Ò Ò;let{μ,_,_,B}:=Zn c b (k:=37) Ò Ò
 let w:∀i:Â,i<41->∃m:Æ,0<=m/\vh [.lst Ϲ,.int Ąo]=À (Ä,.int m):=λi I=>by let{m,u,_,e}:=Zn c b (k:=46+(i:Æ)) Ê Ê;show{m,u,e}
 let{W,v,F,s}:=x1l c b (f:=30) Ò Ò;let{T,A,C,h}:=y2y c b;let{g,o,l2,E}:=w0l P Ê w;let d:=λ(X:Á D) (y:PC X) (p:ϥ<=20)=>x1n y (ý όc p) {F,s} A Śo v h B
 let{J,Y,G,S,L,Z,x}:=d n P Ê;let{Q,K,R,u4,O,N,t}:=d g o Ê;generalize ϣ Ě=NS at *;show{[.fz (.lst NS)],?_};rw[z8t,show EJ=xK _ (xK _ Ob)from rfl];by_cases z:a%3=1;let q:zh ŋo ýa=À Ķ:=by rw[z];rfl
 simp only[ŉ,e,j,q,E,t];let q:zh ŋo ýa=À û:=by exact À (Ñb (a%3==1))=_;rw[show(a%3==1)=Ä by rw[õf];show z]
 simp only[ŉ,e,j,q,x]
#print L3
local macro_rules
 | `(tactic| ac_rfl)=>`(tactic| show⟨rfl,rfl,rfl,by decide +kernel,rfl,by decide +kernel,by decide +kernel⟩)
namespace My
open Ł L2 L3
set_option maxHeartbeats 4000000
nonrec def top(i:Â):Ü:=PySem.Challenge.pw_markrun_k59_whole_stands_as_the_long.main.body.getD i ϓm
section
variable{P:ï}{w:æ}{K:Ô}{mg:Ç->É Value}{Ì:Heap}{Um:Ë}{Wr:Ë}{Up:Ë}{Uq:Ë}{Uo:Ë}{Us:Ë}{Ut:Ë}{Ur:Ë}{Uk:Ë}{Wq:Ë}{Ul:Ë}
abbrev HT:=ï->æ->Ô->ŵh->Heap->È
section
variable{h:Heap}(X:Ž h)(G:īa ġ mg)
abbrev P_:Ü:=top 9
def x33:zn ϸi ϸi (za P_):=by ac_rfl
variable(Y7:mg řc=Å)(AZ:mg ĭc=Å)(AY:mg Ũe=Å)
def Fz:=HD İi ϸi 1 ZV
def y67(a:zT K İi P_):Fz P w K mg Ì:=(ź).oS P w Ì 0 ZV x33 yQ λb=>(Μb (Z_ (UG (tJ (Oq .bool rfl rfl Y7 AY z4o Ża)) (QM (Νa (Oq .int rfl rfl Y7 AZ z4p Ża))))) Þo (QC (tV y84 kz ύa Ża Ħa) (WF (tV W5 kz Ża (zM (zW Z1 k_ zI Ġ)) Ħa))))
abbrev Pa:Ü:=top 10
def rj:zn [Ťd,ãe,Âa,"total"] Ŷn (za Pa):=by ac_rfl
variable(Tc:v7 mg "BEYOND" Úd)(Q2:∀H,zZ K H Úd Úd)
def Fp:=HD ņj Ŷn 1 Ux
def y5i(a:zT K ņj Pa):Fp P w K mg Ì:=(Ģb).oS P w Ì 0 Ux rj yQ λb=>(zc (yT (i:=3) rj.nd rfl á (zW wS wR İm Čm)) (Υb (zD (zW xZ xX Ŭ Ài) (Γ (tV y7z kz ϡb (zM Ài) Ħa)))))
abbrev Rk:Ü:=top 11
def sE:zn [Ťd,ãe,"borrow",Ģa] ϰl (za Rk):=by ac_rfl
def CD:=HD Ŀj ϰl 1 T9
def y7j(a:zT K Ŀj Rk):CD P w K mg Ì:=(Ģb).oS P w Ì 0 T9 sE yQ λb=>(zc (yT (i:=3) sE.nd rfl á (zW Zs Zr (zW Zs Zr ğ Ġ) Čm)) (Μb (yK W5 kz ϡb ύa Áa) (Υb (zD (zW wS wR Ŭ Ài) ĭf)) Ĥm))
abbrev RZ:Ü:=top 14
def x3e:zn ϖh ϖh (za RZ):=by ac_rfl
def CC:=HD ϛj ϖh 1 vL
def y78(a:zT K ϛj RZ):CC P w K mg Ì:=(Ģb).oS P w Ì 0 vL x3e yQ λb=>(Ζ (zW OI qc ım ϻk))
abbrev Rq:Ü:=top 15
def sH:zn [Ŗa,Ŝg,İf,ėa,"there"] ãm (za Rq):=by ac_rfl
def CG:=HD Ĭi ãm 1 VB
def y7p(a:zT K Ĭi Rq):CG P w K mg Ì:=(Þp).oS P w Ì 0 VB sH yQ λb=>(zc (yT (i:=4) sH.nd rfl á (zW Z1 k_ ϻk Ġ)) (Ζ (zW Z0 qc (zW OI qc ğ (WG z10 z0y Îa)) (zW Z1 k_ Ŭ Ġ))))
abbrev Rt:Ü:=top 17
def x3l:zn ćj ćj (za Rt):=by ac_rfl
variable(Aa:mg "sum"=Å)(LC:mg ńa=Å)(IY:v7 mg Ėo Ðg)(OT:∀H,zZ K H Td Ðg)
def CH:=HD ϑi ćj 1 Jc
def y7s(a:zT K ϑi Rt):CH P w K mg Ì:=(ū).oS P w Ì 0 Jc x3l yQ λd=>(ψ (uP (z5g rfl) y7g rfl Aa z4u (vy (Μa (uD rfl (vB (own:=["byte",Ŝg]) rfl) (sn rfl LC ğ łn) (ωb (Ξa èl) (δ (ζ èl))) Òd (Κ (zW Z1 k_ Ġ Ĺ)))) uC)))
abbrev Pz:Ü:=top 22
def x32:zn ϭb ϭb (za Pz):=by ac_rfl
def Fy:=HD Şi ϭb 1 Xb
def y66(a:zT K Şi Pz):Fy P w K mg Ì:=(ū).oS P w Ì 0 Xb x32 yQ λb=>(Ζ Æj)
abbrev Py:Ü:=top 23
def x31:zn ϭb ϭb (za Py):=by ac_rfl
variable(HA:v7 mg "JUMPS" Ïg)(Nk:∀H,zZ K H Mm Ïg)
def Fx:=HD Ϛi ϭb 1 Xa
def y65(a:zT K Ϛi Py):Fx P w K mg Ì:=(ū).oS P w Ì 0 Xa x31 yQ λb=>(Ζ (tV ġj pY ţf (zM (vG HA Nk rfl)) Ŀc))
abbrev RN:Ü:=top 38
def x3b:zn ĸd ĸd (za RN):=by ac_rfl
variable(HF:v7 mg ϑo Ëa)(No:∀H,zZ K H Ëa Ëa)(VX:v7 mg "MARKS" Èg)(U0:∀H,zZ K H Te Èg)(Kg:CW K Wr)
def C7:=HD śi ĸd 1 V4
def y6v(a:zT K śi RN):C7 P w K mg Ì:=(ū).oS P w Ì 0 V4 x3b yQ λb=>(Ζ (zW Z1 k_ zI (zW wS wR (vG HF No rfl) (x3q VX U0 Kg rfl ğ))))
abbrev RQ:Ü:=top 39
def x3c:zn [āa] [āa] (za RQ):=by ac_rfl
def C8:=HD ōh [āa] 1 Fo
def y6y(a:zT K ōh RQ):C8 P w K mg Ì:=(ū).oS P w Ì 0 Fo x3c yQ λb=>(Ζ (QC (sK Æj (WF Æj)) (WF (tV ċb xW ţf ύa Ħa))))
abbrev Ro:Ü:=top 41
def x3j:zn äi äi (za Ro):=by ac_rfl
variable(XA:mg Ÿa=Å)(LB:mg ś=Å)
def CF:=HD ĭi äi 1 Ja
def y7n(a:zT K ĭi Ro):CF P w K mg Ì:=(Ģb).oS P w Ì 0 Ja x3j yQ λb=>(zc (xH āf ϑn xm) (zc (xH āf (Ε (wT ϰa äc)) xm) (zc (xH (yK BN BL ϴb Ĩg Áa) (Ε (wT (Γ ŋc) äc)) xm) (Ε (χc (wT (zD ŋc ϰa) ϓd))))))
abbrev RU:Ü:=top 45
def Bo:zn [šd,Ŕb,ľj,Ϭb] ħp (za RU):=by ac_rfl
def CA:=HD Įi ħp 1 V7
def y73(a:zT K Įi RU):CA P w K mg Ì:=(ź).oS P w Ì 0 V7 Bo yQ λb=>(zc (yT (i:=2) Bo.nd rfl á zI) (Χ (uQ Ġ) (γ (yq (i:=3) Bo.nd rfl á)) (zb (yT (i:=2) Bo.nd rfl á (zW Z0 qc Ĺ (zX ŝ zV ğ Ŭ)))) (yr Ĺ)))
abbrev Ph:Ü:=top 46
def Of:zn [Ŧd,íj,Ϭb,ėa,Ŕb] [Ŧd] (za Ph):=by ac_rfl
variable(uV:mg Ţa=Å)(wH:mg "len"=Å)(j5:mg ϕb=Å)
def Fu:=HD Ĳi [Ŧd] 1 T3
def y5p(a:zT K Ĳi Ph):Fu P w K mg Ì:=(ū).oS P w Ì 0 T3 Of yQ λb=>(x5c (i:=1) rfl (x4u (i:=1) rfl ūg rfl rfl (vB (own:=[Ϭb]) rfl) rfl (Φb (zW wS wR êe zI)) (γc (wD [Ŧd,íj,Ϭb,ϖb,Òg] [Ϭb])) Ŕf) (y4q (my ϟa rfl ćn (x4a (Ρa (yq (i:=3) ūg rfl á) (δ (yq (i:=4) ūg rfl á))) rfl rfl) (NJ (my ϟa rfl (uQ Îa) (x4b (yq (i:=2) ūg rfl á) rfl) (NJ (y4o Ďa Œg Ĺ Ŭ))))) (NJ y4p)))
abbrev RK:Ü:=top 58
def x39:zn Ϲi Ϲi (za RK):=by ac_rfl
def C6:=HD Ŝi Ϲi 1 JU
def y6r(a:zT K Ŝi RK):C6 P w K mg Ì:=(ź).oS P w Ì 0 JU x39 yQ λb=>(Ζ (QC (tV W5 kz þc đj Ħa) (WF (ζb (zM (zX ŝ zV úf zI))))))
abbrev RS:Ü:=top 60
def Oj:zn [ėa,"name",Ģa] [ėa] (za RS):=by ac_rfl
variable(IZ:v7 mg ûp ϝb)(OU:∀H,zZ K H ϝb ϝb)
def C9:=HD ϗi [ėa] 1 T7
def y70(a:zT K ϗi RS):C9 P w K mg Ì:=(ū).oS P w Ì 0 T7 Oj yQ λb=>(zc (yT (i:=1) ŧg rfl á z_) (zc (yT (i:=2) ŧg rfl á (zW wS wR ğ zI)) (zc (L5 ϟa (yK y80 kz ϴb ύa Áa) (zc (yT (i:=1) ŧg rfl á (zW wS wR (Ο (vG IZ OU rfl) (zW xZ xX ųm Ėl)) Ġ)) (zb (yT (i:=2) ŧg rfl á (zW ue ud ųm Ėl))))) (zb Ĕj))))
abbrev RY:Ü:=top 72
def x3d:zn [úa] [úa] (za RY):=by ac_rfl
def CB:=HD Śi [úa] 1 JW
def y77(a:zT K Śi RY):CB P w K mg Ì:=(ū).oS P w Ì 0 JW x3d yQ λb=>(Ε (uD rfl (vB (own:=[ϋb]) rfl) (uQ (yO (x48 rfl rfl XA ěb))) (ς (Ξa (wD [úa] [ϋb]))) (ηa (νd (zM úf))) (Λ (Φ (Βa (Γ úf))))))
abbrev Pd:Ü:=top 73
def x2o:zn ϋc ϋc (za Pd):=by ac_rfl
def Fq:=HD ϛi ϋc 1 Uz
def y5m(a:zT K ϛi Pd):Fq P w K mg Ì:=(ź).oS P w Ì 0 Uz x2o yQ λb=>(Ζ (x3p Ďa ğ Ġ zI {rfl,rfl,rfl,rfl}))
abbrev PZ:Ü:=Zh (top 80) 0
def x2l:zn íe íe (za PZ):=by ac_rfl
variable(k7:mg Ī=Å)(Y6:mg Ña=Å)(wc:vi K [Ŀ] ĸa)(qz:vi K [Ŀ] âb)(jg:vi K [Ŀ] úa)
def y5h{f:Ë}{a:Ň}(d:vw K éb ϗm PZ f a):xg P w K mg Ì xT 1 f a íe žp:=d.oM P w mg Ì 0 Uw x2l uk λe=>(wQ (kZ ϩ wc (N9 (SC rfl k7 Ŋb))) (wQ (kZ ϩ qz (N9 (Ζb (Ζa ùm üm (Υa (yq (i:=3) (show(wD ["self",ĸa,úa] ĸd).Nodup by rw[Îq]) rfl á)) (Κ Ĥm))))) (vR (kZ ϩ jg (N9 (x43 rfl Y6 IE ϰa))))))
abbrev Pq:Ü:=top 81
def x2w:zn œ œ (za Pq):=by ac_rfl
def Fw:HT:=λP w K mg Ì=>v8 P w K mg Ì Óg œ 1 (xy K JH)
def y5y(a:zT K Óg Pq):Fw P w K mg Ì:=(ź).oM P w Ì 0 JH x2w uk λb=>(ξ (vo Ŵb))
abbrev Pk:Ü:=top 83
def x2r:zn œ œ (za Pk):=by ac_rfl
def Fv:HT:=λP w K mg Ì=>v8 P w K mg Ì ϡf œ 1 (xy K JD)
def y5s(a:zT K ϡf Pk):Fv P w K mg Ì:=(ź).oM P w Ì 0 JD x2r uk λb=>(ξ (Zo Ûc))
abbrev R1:Ü:=top 88
def x35:zn ķh ķh (za R1):=by ac_rfl
def F_:=HD ëj ķh 1 T4
def y6a(a:zT K ëj R1):F_ P w K mg Ì:=(Ģb).oS P w Ì 0 T4 x35 yQ λb=>(zc (ο Ża Ġa (zW OI qc Ġ Ĺ)) (zc (ο Ża Ġa (zW Z0 qc Ġ Ĺ)) (Ζ (zW y8c qc Ġ Ĺ))))
abbrev RJ:Ü:=top 97
def x38:zn œ œ (za RJ):=by ac_rfl
def C5:=HD Ńj œ 1 kE
def y6q(a:zT K Ńj RJ):C5 P w K mg Ì:=(ź).oS P w Ì 0 kE x38 yQ λb=>(zc (ο Ńe Ġa ùl) (zc (ο Ńe Ġa (x3t ùl)) (Ζ (ζb Ńe))))
abbrev PQ:Ü:=Zh Ēc 2
def x2k:zn [ş] [ş] (za PQ):=by ac_rfl
variable(YR:vi K [à] þb)(VJ:vi K [à] śa)(Jt:vi K [à] Ĳb)
def y5e{f:Ë}{b:Ň}(d:vw K ĥb ϙm PQ f b):xg P w K mg Ì xT 1 f b [ş] Ϗp:=d.oF P w mg Ì 0 uN x2k yQ λa=>(Ζ (sK (δd (vd ğ YR) (vd ğ Jt)) (WF (δd (zX (zU (zQ a)) zV Ŏk zI) (wx (zD z_ zP) äc)))))
abbrev PM:Ü:=Zh Ēc 5
def x2j:zn [ş] [ş] (za PM):=by ac_rfl
variable(gO:vi K [à] ža)
def y5c{f:Ë}{a:Ň}(d:vw K Ûb Øm PM f a):xg P w K mg Ì xT 1 f a [ş] ϐp:=d.oF P w mg Ì 0 Wy x2j yQ λb=>(Ε (SC rfl k7 (Γ (vd Ůf wc))))
abbrev PK:Ü:=Zh Ēc 6
def x2h:zn [ş] [ş] (za PK):=by ac_rfl
variable(UO:mg ώ=Å)
def y5a{f:Ë}{a:Ň}(d:vw K Œd Ín PK f a):xg P w K mg Ì xT 1 f a [ş] ϒp:=d.oF P w mg Ì 0 Ww x2h yQ λe=>(Νd (Ζa ùm üm (Λa (wD ["self"] ĸd)) (Κ (zX (zU (zQ e)) zV (vd Ůf qz) Ġ))))
abbrev R6:Ü:=top 106
def x36:zn ğe ğe (za R6):=by ac_rfl
def C0:=HD ϭh ğe 1 JP
def y6f(a:zT K ϭh R6):C0 P w K mg Ì:=(ź).oS P w Ì 0 JP x36 x27 λb=>(Ηa (yK W5 kz (zM Ġ) đj Áa) (Ζ úf) (yr zI))
abbrev RH:Ü:=top 108
def S4:zn [áe] [] (za RH):=by ac_rfl
def C4:=HD üi [] 1 JT
def y6p(a:zT K üi RH):C4 P w K mg Ì:=(a.d0 X G).oS P w Ì 0 JT S4 yQ λb=>(zc (yT (i:=0) S4.nd rfl á (yO (wT (zD z_ (zD z_ (zD z_ (zD z_ (zD z_ ťo))))) (Εb (zd (zd (zd (zd (zd Įm))))))))) (zc (yT (i:=0) S4.nd rfl á (ιd (wT ťo (Εb Įm)))) (Ζ (ιd (wT ék (Εb (zd (zd (zd Ýo)))))))))
abbrev R9:Ü:=top 110
def Q7:zn [ŀb,Đf,"_law_letters","_law_size",đo,"_law_spot"] įp (za R9):=by ac_rfl
def C1:=HD ýi įp 1 JQ
def y6i(a:zT K ýi R9):C1 P w K mg Ì:=(ź).oS P w Ì 0 JQ Q7 yQ λd=>(zc (yT (i:=2) ϛe rfl ća z_) (zc (yT (i:=3) ϛe rfl á Ųm) (zc (yT (i:=4) ϛe rfl ća (x3s z_ (zM (yO (uD rfl Ĉh Ćn ák Òd (Κ (Δd (zW ue ud Őc (zX ϩh zV (yO (wT (Oe (is:=âf) rfl) (yP (Jx (n:=7) Ò) Ò))) ϑa))))))))) (zc (yT (i:=5) ϛe rfl ća (zW xZ xX Őc čf)) (zc (yT (i:=4) ϛe rfl ća (Os Îa Ov (Ow zI))) (Ε (uD rfl Ĉh (Z5 rfl uV Ġ) ák Òd (Κ (zW wS wR (zW wS wR (Os Îa Ov (Ow ťa)) (Δd (zW wS wR Őc ϑa))) (Os Îa (Ow ťa) Ov))))))))))
abbrev RD:Ü:=top 112
def x37:zn [öc] [öc] (za RD):=by ac_rfl
def C2:=HD Ĵi [öc] 1 V2
def y6m(a:zT K Ĵi RD):C2 P w K mg Ì:=(ū).oS P w Ì 0 V2 x37 yQ λd=>(Ε (uD rfl úm Ϸb (Λa (wD [öc] Ŋh)) (ζa (yK űo gZ (zM (zX ϩh zV Ġ zI)) Ġa Ħa)) ļh))
abbrev RO:Ü:=top 12
def S6:zn [Ŗa,Ņj,"moved","fallen"] ľf (za RO):=by ac_rfl
variable(Xw:v7 mg Ēo ϙb)(WA:∀H,zZ K H ϙb ϙb)(jK:CC P w K mg Ì)
def cX:=HD öi ľf 2 V5
def y6w(a:zT K öi RO):cX P w K mg Ì:=(ź).oS P w Ì 1 V5 S6 yQ λb=>(zc (yT (i:=2) S6.nd rfl á (zW Z1 k_ ğ Ġ)) (zc (yT (i:=3) S6.nd rfl á (Κd (zD Ĺ (zD ğh Ŏc)))) (Υb (zD (Βd Şp) Ĩd))))
abbrev RP:Ü:=top 13
def sA:zn [Ŗa,Ņj,"fallen"] ľf (za RP):=by ac_rfl
def cY:=HD Îi ľf 2 V6
def y6x(a:zT K Îi RP):cY P w K mg Ì:=(ź).oS P w Ì 1 V6 sA yQ λb=>(zc (yT (i:=2) sA.nd rfl á (Κd (zD ğ (zD (zW Zs Zr Ġ zI) Ŏc)))) (Υb (zD ım ϰa)))
abbrev Pg:Ü:=top 16
def x2p:zn [Ŗa] [Ŗa] (za Pg):=by ac_rfl
def c7:=HD şi [Ŗa] 2 U_
def y5o(a:zT K şi Pg):c7 P w K mg Ì:=(ū).oS P w Ì 1 U_ x2p yQ λd=>(Νd (Ζa (vB (own:=[Ŝg]) rfl) (uQ łn) (Λa (wD ["word"] [Ŝg])) (Κ (yG jK d rfl (zD ğ (zD Ġ Ŏc))))))
abbrev Rg:Ü:=top 24
def x3g:zn [ĥ] [ĥ] (za Rg):=by ac_rfl
variable(Vd:Fy P w K mg Ì)
def cx:=HD ϕi [ĥ] 2 uO
def y7e(a:zT K ϕi Rg):cx P w K mg Ì:=(ū).oS P w Ì 1 uO x3g yQ λd=>(Ε (uD rfl ûm Ϸb (Λa (wD [õe] ϭb)) (ζa (Νa (yG Vd d rfl Ŋb))) ļh))
abbrev R3:Ü:=top 25
def Og:zn [ĥ,Ŕb,Ϭb,Ϝj] [ĥ] (za R3):=by ac_rfl
def cM:=HD Ϭh [ĥ] 2 V1
def y6b(a:zT K Ϭh R3):cM P w K mg Ì:=(ū).oS P w Ì 1 V1 Og yQ λb=>(zc (j3 (i:=1) Ūg rfl á QD) (zc (yT (i:=2) Ūg rfl á zI) (Χ Ϸb (γ (yq (i:=3) Ūg rfl á)) (zb (xH (tJ (yG Vd b rfl Ĩd)) (zb (QK Ďa Œg Æe Ĺ)) (zb (z02 (i:=2) Kd NM Ūg rfl á zI)))) Øk)))
abbrev Rn:Ü:=top 36
def Oo:zn Īp [āa] (za Rn):=by ac_rfl
variable(IW:v7 mg ϲn űc)(OR:∀H,zZ K H űc űc)(HC:v7 mg ĕo Íg)(Nm:∀H,zZ K H HM Íg)(HE:v7 mg Ĕo Ìg)(Nn:∀H,zZ K H HN Ìg)(HB:v7 mg Ïn Îg)(Nl:∀H,zZ K H HL Îg)(Xx:C7 P w K mg Ì)
def d9:=HD Ϛj [āa] 2 t7
def y7m(a:zT K Ϛj Rn):d9 P w K mg Ì:=(ū).oS P w Ì 1 t7 Oo yQ λb=>(zc (ο ţf Ġa Ńn) (Ιa (Z_ (UG āf (QM āf))) (Ζ (yG Xx b rfl ţo)) (yT (i:=1) Oo.nd rfl á zI) (zc (Φd (vG HC Nm rfl)) (zc (Φd (vG HE Nn rfl)) (Ηa (Ωa (vG HB Nl rfl)) (Ρc ϫg) Ĕj)))))
abbrev Rb:Ü:=top 37
def Ol:zn Īp [āa] (za Rb):=by ac_rfl
variable(HH:v7 mg "PUT_D" Êg)(Nq:∀H,zZ K H HQ Êg)(HI:v7 mg Űl Ég)(Nr:∀H,zZ K H HR Ég)(HG:v7 mg ēo Ëg)(Np:∀H,zZ K H HP Ëg)(K6:C8 P w K mg Ì)
def cp:=HD "put" [āa] 2 qq
def y7a(a:zT K "put" Rb):cp P w K mg Ì:=(ū).oS P w Ì 1 qq Ol yQ λb=>(zc (yT (i:=1) Ŧg rfl á zI) (Ιa (Ωa (vG HH Nq rfl)) (zb (yT (i:=1) Ŧg rfl á (zW Z0 qc Ġ Ël))) (xH (Ωa (vG HI Nr rfl)) (zb (yT (i:=1) Ŧg rfl á (zW Z0 qc Ĳm ϫg))) xm) (Ηa (Z_ (D7 (Ωa (vG HG Np rfl)) (D8 (Νa (yG K6 b rfl ěb))))) (zb (yT (i:=1) Ŧg rfl á Ĳm)) Ĕj)))
abbrev Rr:Ü:=top 54
def QB:zn [ĥ,Ŝf,ùp,ėa,"kept",Ϝj] İp (za Rr):=by ac_rfl
def dB:=HD ϓi İp 2 TB
def y7q(a:zT K ϓi Rr):dB P w K mg Ì:=(ź).oS P w Ì 1 TB QB yQ λd=>(zc (yT (i:=2) Ϙe rfl á (yO (Ζb (Ζa ϰd (uQ Ġ) (Υa (yq (i:=6) (show(wD [ĥ,Ŝf,ùp,ϖb,"kept",Ϝj] [ϖb]).Nodup by rw[Îq]) rfl á)) (Κ (Φ (zD ϑa ĭf))))))) (zc (j3 (i:=4) Ϙe rfl á ĺc) (zc (yT (i:=3) Ϙe rfl á zI) (Χ Ϸb (γ (yq (i:=5) Ϙe rfl á)) (zb (xH (tJ (yG Vd d rfl (Γ ťa))) Ϻl (Ηa (yK Źo NQ ϡb ϴb Ŀc) Ϻl (z02 (i:=3) Kd NM Ϙe rfl á zI)))) Õk))))
abbrev R5:Ü:=top 57
def Bl:zn ["name",ĩb,Ŕb,"met","last"] ϭm (za R5):=by ac_rfl
variable(Hx:C6 P w K mg Ì)
def cO:=HD įi ϭm 2 JO
def y6d(a:zT K įi R5):cO P w K mg Ì:=(Ģb).oS P w Ì 1 JO Bl yQ λb=>(zc (j3 (i:=3) Bl.nd rfl á QD) (zc (yT (i:=4) Bl.nd rfl á ğ) (zc (L5 ϟa (tJ (yG Hx b rfl ân)) (Ιa (yK ġj pY (zM ϩd) (Q6 3) Ŀc) (zb (yr ğ)) (QK Ďa ŵd ϩd g7) (zb (yT (i:=4) Bl.nd rfl á (zX ŝ zV (zX ŝ zV Ġ ϩd) đd))))) (L6 3 (Ζ Îa)))))
abbrev RT:Ü:=top 63
def sB:zn [ŭc,Ŕb] [ŭc] (za RT):=by ac_rfl
variable(K7:C9 P w K mg Ì)
def cZ:=HD Ōh [ŭc] 2 JV
def y71(a:zT K Ōh RT):cZ P w K mg Ì:=(ū).oS P w Ì 1 JV sB yQ λd=>(zc (yT (i:=1) sB.nd rfl á (yO (χc (uD rfl (vB (own:=[Ćd]) rfl) Ϸb (Υa (ζ (wD [ŭc,Òg] [Ćd]))) (ζa (yK nE n8 ϴb Ĩg Ħa)) ĭm)))) (Ε (Ζb (Ζa (vB (own:=[ėa,Ϭb]) rfl) (UB rfl j5 Ġ) (ωb (ζ Ĵl) (δ (γb Ĵl))) (Κ (Φ (zD Ŭ (zD (yG K7 d rfl ϰa) zP))))))))
abbrev Px:Ü:=top 71
def x30:zn [Źc] [Źc] (za Px):=by ac_rfl
variable(IV:v7 mg Ęn ϳa)(OQ:∀H,zZ K H ϳa ϳa)(Ve:Fz P w K mg Ì)
def cK:=HD øi [Źc] 2 JL
def y64(a:zT K øi Px):cK P w K mg Ì:=(ū).oS P w Ì 1 JL x30 yQ λb=>(Ζ (yG Ve b rfl (zD ğ ϵl)))
abbrev Pc:Ü:=top 74
def x2n:zn ϻi ϻi (za Pc):=by ac_rfl
def bz:=HD úi ϻi 2 Uy
def y5k(a:zT K úi Pc):bz P w K mg Ì:=(ź).oS P w Ì 1 Uy x2n yQ λb=>(Ζ (yG jK b rfl (zD İm (zD zI ϵl))))
abbrev Rc:Ü:=top 77
def x3f:zn ìe ìe (za Rc):=by ac_rfl
variable(IX:v7 mg ėo Ëa)(OS:∀H,zZ K H Ëa Ëa)
def cq:HT:=λP w K mg Ì=>v8 P w K mg Ì ři ìe 2 (xy K T8)
def y7b(a:zT K ři Rc):cq P w K mg Ì:=(Ģb).oM P w Ì 1 T8 x3f uk λb=>(vR (OA Ďa ϩ Ġ (vo (Βd ϴl))))
abbrev Pl:Ü:=top 82
def x2s:zn œ œ (za Pl):=by ac_rfl
variable(KP:CG P w K mg Ì)
def cA:HT:=λP w K mg Ì=>v8 P w K mg Ì Ϡf œ 2 (xy K JE)
def y5t(a:zT K Ϡf Pl):cA P w K mg Ì:=(ź).oM P w Ì 1 JE x2s uk λb=>(ξ (Zo (yG KP b rfl (zD Ûc (zD zI (zD zI Ϫh))))))
abbrev Ri:Ü:=top 85
def x3h:zn Íh Íh (za Ri):=by ac_rfl
variable(Mn:Fp P w K mg Ì)(KL:CD P w K mg Ì)
def cz:=HD éj Íh 2 ZW
def y7h(a:zT K éj Ri):cz P w K mg Ì:=(Þp).oS P w Ì 1 ZW x3h yQ λb=>(zc (ςc ào) (zc (ςc áo) (Ζ (yG KL b rfl (Βa (zD Ĺ (Γ (QC Ŭ (WF (tV ċb xW Ża Ġa Ħa))))))))))
abbrev RM:Ü:=top 86
def x3a:zn Àj Àj (za RM):=by ac_rfl
def cW:HT:=λP w K mg Ì=>v8 P w K mg Ì Ϙi Àj 2 (xy K V3)
def y6u(a:zT K Ϙi RM):cW P w K mg Ì:=(ź).oM P w Ì 1 V3 x3a uk λb=>(wQ (Νb (vo (tV ċb xW þc ύa Áa))) (vR (Νb (vo (Φc (Βa (zD (zW Zs Zr ğh zI) Ŏc)))))))
abbrev Ru:Ü:=top 100
def x3m:zn [Ûb] [Ûb] (za Ru):=by ac_rfl
variable(AX:mg "all"=Å)(Mj:v7 mg Ϙm Ëa)(Bb:∀H,zZ K H Ëa Ëa)
def dD:=HD ói [Ûb] 2 Jd
def y7t(a:zT K ói Ru):dD P w K mg Ì:=(ū).oS P w Ì 1 Jd x3m yQ λd=>(Ιa ĉl (Ε (sT Ġi Łn)) (Ωb (Z_ (UG ŝk (QM (yK űo gZ (zM (ε Ża)) (zM Łn) Áa))))) (zc (Ωb (X4 (tJ (uP (z50 rfl) y5l rfl AX z4r (vy (Μa (uD rfl (vB (own:=ĺp) rfl) Ϸb (Λa (wD [Ûb] ĺp)) Òd (Κ (yG Ve d rfl (Βa Şp))))) uC))))) (Ε (SC rfl k7 ěb))))
abbrev PJ:Ü:=Zh Ēc 1
def x2g:zn [ş] [ş] (za PJ):=by ac_rfl
variable(Ju:vi K [à] ïc)(Jv:vi K [à] Źb)(Js:vi K [à] ϣc)(Ki:Lw P w K mg Ì Ŀ íe 1 žp)
def y59{f:Ë}{a:Ň}(d:vw K ŏe În PJ f a):xg P w K mg Ì xT 3 f a [ş] Žp:=d.oM P w mg Ì 2 XW x2g uk λb=>(wQ (kZ ϩ gO (N8 Ki b rfl (kY (qd ϩ Jv) (kY (qd ϩ Ju) jM)))) (wQ (kZ ϩ YR źj) (vR (kZ ϩ Js źj))))
abbrev PL:Ü:=Zh Ēc 7
def x2i:zn [ş] [ş] (za PL):=by ac_rfl
variable(KC:CB P w K mg Ì)
def y5b{f:Ë}{a:Ň}(d:vw K ģb Ϛm PL f a):xg P w K mg Ì xT 2 f a [ş] ϑp:=d.oF P w mg Ì 1 Wx x2i yQ λb=>(Ε (vH KC b rfl (Γ (vd Ůf jg))))
abbrev R7:Ü:=top 107
def rq:zn [ąa,ϔb,ŀb] ğe (za R7):=by ac_rfl
variable(Hm:C0 P w K mg Ì)
def cP:=HD ĵi ğe 2 vh
def y6g(a:zT K ĵi R7):cP P w K mg Ì:=(ź).oS P w Ì 1 vh rq yQ λb=>(zc (yT (i:=2) rq.nd rfl á (zW wS wR (zW wS wR (zW wS wR (zW OJ n5 (yG Hm b rfl Ųh) zI) (zW OJ NP zI Ġ)) (zW OJ NP zI êe)) zI)) (ψ (Ι (zW OJ n5 (zW xZ xX (zW y85 y6z Ĺ Ĺ) zI) zI))))
abbrev RC:Ü:=top 109
def Q8:zn [ŀb,áf,Đf,đo,"_law_one","_law_two","_law_rest"] Źn (za RC):=by ac_rfl
variable(Hv:C4 P w K mg Ì)
def cT:=HD Ði Źn 2 JR
def y6l(a:zT K Ði RC):cT P w K mg Ì:=(Ģb).oS P w Ì 1 JR Q8 yQ λb=>(zc (yT (i:=3) Ϛe rfl á (Ο (x3n Hv b rfl) Ųm)) (zc (yT (i:=0) Ϛe rfl á Őc) (zc (yT (i:=4) Ϛe rfl á (zW xZ xX ğ Ĺ)) (zc (yT (i:=5) Ϛe rfl á (zW xZ xX Őc Ĺ)) (zc (yT (i:=6) Ϛe rfl á Őc) (zc ßk (zc ßk (Ιa (Γa Ďa Ŭ (wx (zD z_ Ťo) Ìe)) (ψ (wx (zD Ŭ (zD Îa (zD ťa (Γ (Ο (yO (wT (zD Ϻf (zD Ϻf zP)) ϓd)) (Ι Őc)))))) Ìe)) (ο ϡb Ġa (Φ (zD Ŭ ķk))) (zc (xH (Γa Ďa Ŭ (wx Ϧk (yP Ýo Ò))) (ψ (wx (zD Ŭ (zD (Ο (yO (wT Ťo ÿe)) (Ι ťa)) ķk)) ÿe)) xm) (Μb (Υ ϡb Ġa) (Ζ (wx Ĩd äc)) (wx (zD Ŭ ĳm) (Εb (zd yV)))))))))))))
abbrev Rl:Ü:=top 26
def sF:zn [ĥ,Ŕb] [ĥ] (za Rl):=by ac_rfl
variable(Il:cM P w K mg Ì)(tT:cx P w K mg Ì)(Vc:Fx P w K mg Ì)
def d7:=HD ôi [ĥ] 3 gJ
def y7k(a:zT K ôi Rl):d7 P w K mg Ì:=(ū).oS P w Ì 2 gJ sF yQ λb=>(zc (yT (i:=1) sF.nd rfl ća ŝl) (Ε (uD rfl ćh ĝj (Λc (wD [õe,Òg] [āa])) îc (Λ (Zx Ţl (zX ŝ zV Ġ (zX ŝ zV Ĺ đd)) jT)))))
abbrev Pi:Ü:=top 50
def x2q:zn [ĥ] [ĥ] (za Pi):=by ac_rfl
def c8:=HD įh [ĥ] 3 XY
def y5q(a:zT K įh Pi):c8 P w K mg Ì:=(ū).oS P w Ì 2 XY x2q yQ λb=>(Ε (uD rfl (vB (own:=[ėa,āa]) rfl) (UB rfl j5 Ìd) (θd (Ξa ϻl) (δ (ζ ϻl))) (ηa (Z_ (D7 (yK ċb xW Ēj Ġa Ħa) (D8 (yK ċb xW Ēj Ēj Ħa))))) (λC s H d c=>Ġ)))
abbrev RL:Ü:=top 56
def S5:zn [ĥ,ĩb,Ŕb] [ĥ] (za RL):=by ac_rfl
variable(Hl:cO P w K mg Ì)
def cV:=HD êj [ĥ] 3 T6
def y6s(a:zT K êj RL):cV P w K mg Ì:=(ū).oS P w Ì 2 T6 S5 yQ λb=>(zc (yT (i:=1) S5.nd rfl ća Ìd) (zc (yT (i:=2) S5.nd rfl ća ŝl) (Ε (uD rfl ûm Ϸb (ς (γb (wD [ĥ,ĩb,Òg] ϭb))) îc (Λ (Zx (tJ (yG Vc b rfl Ĩd)) (zW wS wR (Os Ŭ Ov (Ow đd)) (wx (Γ (yG Hl b rfl (zD (zX ŝ zV Ŭ đd) (zD Ġ ϰa)))) äc)) Ŭ))))))
abbrev R4:Ü:=top 62
def Oh:zn [ĩb,ŭc,"names",ĥ,ėa,āa] īp (za R4):=by ac_rfl
variable(K8:cZ P w K mg Ì)
def cN:=HD ŝi īp 3 JN
def y6c(a:zT K ŝi R4):cN P w K mg Ì:=(ź).oS P w Ì 2 JN Oh yQ λb=>(zc (yT (i:=2) ũg rfl á (yG K8 b rfl Ŋb)) (zc (j3 (i:=3) ũg rfl á ĺc) (zc (Z7 ϟa rfl ćn (sV (Ρa (yq (i:=4) ũg rfl á) (δ (yq (i:=5) ũg rfl á))) rfl rfl) (Ηa (Γa Ďa Îa (zA 2)) (Αa ŵd (Φ (zD z_ (Γ ϩd)))) (Z6 ŵd (Zx (yK BN BL (zM Ĥh) Ĩg Áa) ťa (zW wS wR ťa (wx (Γ (zX ŝ zV Ĺ Ĥh)) äc)))))) (Ηa (Γa Ďa (uP t8 tD rfl wH uo (vy Ża uC)) (zA 2)) (Αa ŵd (Αc (zX ŝ zV Ĺ êe))) (Z8 3)))))
abbrev R0:Ü:=top 70
def x34:zn [Źc] [Źc] (za R0):=by ac_rfl
variable(Hh:cK P w K mg Ì)
def cL:=HD ϙi [Źc] 3 JM
def y68(a:zT K ϙi R0):cL P w K mg Ì:=(ū).oS P w Ì 2 JM x34 yQ λb=>(Μb (Z_ (UG (Νa (Oq .tuple rfl rfl Y7 UO GF Ża)) (QM (yK Ād gZ đj ύa Áa)))) Þo (QC (yG Hh b rfl ţo) (WF (yG Ve b rfl (zD ϔd ϴl)))))
abbrev Pv:Ü:=top 75
def x2z:zn [ϋb] [ϋb] (za Pv):=by ac_rfl
variable(Ih:bz P w K mg Ì)
def cI:=HD ıi [ϋb] 3 V0
def y62(a:zT K ıi Pv):cI P w K mg Ì:=(ū).oS P w Ì 2 V0 x2z yQ λd=>(Ε (uD rfl ϰd Œn (Λa (wD [ϋb] [ϖb])) Òd (Κ (yG Ih d rfl Ųh))))
abbrev Pu:Ü:=top 84
def rp:zn [ža,āa,šd] œ (za Pu):=by ac_rfl
variable(Vf:cW P w K mg Ì)(KH:cz P w K mg Ì)
def cH:HT:=λP w K mg Ì=>v8 P w K mg Ì Ėc œ 3 (xy K kC)
def y61(a:zT K Ėc Pu):cH P w K mg Ì:=(ź).oM P w Ì 2 kC rp uk λb=>(wQ (jN (i:=2) rp.nd rfl á Ò (Zo (yG KH b rfl (Αe (zD Ûc (Γ (zX ŝ zV (vd ğ qz) z_))))))) (wQ (Νb (vo Ϫe)) (wQ (ιb (tU Ϫe jM)) (vR (Tp (Vs (yK Ād gZ Ńe Ġa Áa)) (ξ (vo Ϫe)) Tr)))))
abbrev Pj:Ü:=top 87
def rn:zn [ža,āa,Ŗa] œ (za Pj):=by ac_rfl
variable(Hj:F_ P w K mg Ì)
def c9:HT:=λP w K mg Ì=>v8 P w K mg Ì įd œ 3 (xy K XZ)
def y5r(a:zT K įd Pj):c9 P w K mg Ì:=(ź).oM P w Ì 2 XZ rn uk λb=>(wQ (jN (i:=2) rn.nd rfl á Ò (Zo (yG Hj b rfl (Αe (zD Ûc zP))))) (wQ (ιb (tU Ĺ jM)) (ξ Ęj)))
abbrev Po:Ü:=top 89
def Rz:zn [ža,āa,Ŗa,šd] œ (za Po):=by ac_rfl
variable(Hz:cX P w K mg Ì)(H_:cY P w K mg Ì)
def cD:HT:=λP w K mg Ì=>v8 P w K mg Ì Ėe œ 3 (xy K W_)
def y5w(a:zT K Ėe Po):cD P w K mg Ì:=(ź).oM P w Ì 2 W_ Rz uk λb=>(wQ (jN (i:=2) Rz.nd rfl á Ò (Zo Ûc)) (wQ (jN (i:=3) Rz.nd rfl á Ò (vo (Zx (Υ Ńe Ġa) (yG Hz b rfl ßo) (yG H_ b rfl ßo)))) (wQ (Ψa (yK nE n8 (zM Æe) Ĩg Áa) (Νb (vo Æe))) (wQ (ιb (tU Æe jM)) (ξ (vo Æe))))))
abbrev Pb:Ü:=top 90
def x2m:zn œ œ (za Pb):=by ac_rfl
def bw:=HD ûi œ 3 XX
def y5j(a:zT K ûi Pb):bw P w K mg Ì:=(ź).oS P w Ì 2 XX x2m yQ λb=>(ψ (yG Ih b rfl (zD Ûc Ϫh)))
abbrev RA:Ü:=top 111
def U9:zn ŵg żl (za RA):=by ac_rfl
variable(qZ:cP P w K mg Ì)(Ho:C1 P w K mg Ì)(Hs:cT P w K mg Ì)
def cR:=HD Ŏh żl 3 T5
def y6j(a:zT K Ŏh RA):cR P w K mg Ì:=(Ģb).oS P w Ì 2 T5 U9 yQ λb=>(zc (yT (i:=3) žd rfl á (zW xZ xX Ŵm (zW wS wR Ĺ zI))) (zc (yT (i:=4) žd rfl ća (yG Ho b rfl (zD Řp (Γ čf)))) (zc (yT (i:=5) žd rfl ća (Ο (yO (wT Ŧo ϓd)) (Ι Řp))) (zc (SX (i:=6) rfl žd rfl rfl Ĉh rfl Ćn (Ωc (wD ŵg [ϔb])) îc (Λ (yG Hs b rfl (zD (υa (zW wS wR ŋc Ák)) ĳm)))) (zc (j3 (i:=8) žd rfl á ĺc) (Χ (Z5 rfl uV čf) (γ (yq (i:=7) žd rfl ća)) (zc (xH (Z_ (UG (Γc (Μa (uD rfl (vB (own:=Ío) rfl) (uQ ϑa) (Ωc (wD ŵg Ío)) (ηa (yK ċb xW (zM (Ο Ák đd)) (zM ém) Ħa)) (Λ Ák)))) (QM (Υ (zM (Ι (zW ue ud (yG qZ b rfl (zD ğ (zD ŋc zP))) zI))) Đj)))) (Αa (qv 8) (Αc ém)) xm) (Χb (yK W5 kz Đj ϡb Áa) (Αa (qv 8) (Ο ϑa Ŷf)))) (Z8 8)))))))
abbrev RB:Ü:=top 114
def Bn:zn Żl ϲf (za RB):=by ac_rfl
def cS:=HD ŧh ϲf 3 Xd
def y6k(a:zT K ŧh RB):cS P w K mg Ì:=(ź).oS P w Ì 2 Xd Bn yQ λb=>(zc (j3 (i:=2) Bn.nd rfl á ĺc) (Χ Œn (γ (yq (i:=3) Bn.nd rfl á)) (zc (yT (i:=4) Bn.nd rfl á (υa (zW wS wR Ġ Ŭ))) (zb (Z6 ŀe (Ο (yO (wT (zD ěi (zD ěi (zD (zW Zs Zr zI Ćl) (Γ Ćl)))) Ìe)) ěi)))) Ök))
abbrev R8:Ü:=top 115
def Bm:zn Żl ϲf (za R8):=by ac_rfl
def cQ:=HD Ñi ϲf 3 Xc
def y6h(a:zT K Ñi R8):cQ P w K mg Ì:=(ź).oS P w Ì 2 Xc Bm yQ λb=>(zc (j3 (i:=2) Bm.nd rfl ća QD) (zc (Z7 ϟa rfl (Φb (Ι Ŵm)) (γ (yq (i:=3) Bm.nd rfl á)) (zc (yT (i:=4) Bm.nd rfl á (υa (zW wS wR ŋc Ŭ))) (zb (QK Ďa ŀe (Ο (yO (wT (zD Ûf (zD Ûf (Γ (zW Zs Zr zI Ûf)))) ÿe)) (Ι Îa)) Ûf)))) (L6 2 (Ε (x46 (x44 rfl (vB (own:=Ϯm) rfl) (x4g (i:=2) rfl (by first|show Or.inl rfl|show Ňg á|show Ňg ća)) (γc (wD [ąa,Ńc,áe,ϔb,ϖm] Ϯm)) îc (Λ (Φ (zD ťa (Γ (zX ŝ zV Ĺ ťa)))))) (z6j (z6i 2)))))))
abbrev RE:Ü:=top 116
def S0:zn [ďl,ŀb,"_law_some",ϔb] Ĩp (za RE):=by ac_rfl
variable(Sz:gL P w K mg Ì à Ûb [ş] 1 ϐp)(Sx:gL P w K mg Ì à Œd [ş] 1 ϒp)(Sy:gL P w K mg Ì à ģb [ş] 2 ϑp)(WO:gL P w K mg Ì à ĥb [ş] 1 Ϗp)
def C3:=HD ĳi Ĩp 3 kD
def y6n(a:zT K ĳi RE):C3 P w K mg Ì:=(ź).oS P w Ì 2 kD S0 yQ λb=>(zc (j3 (i:=2) S0.nd rfl á (wT (zD jT (zD jT (zD jT (zD jT zP)))) Ìe)) (Χ (uQ (Ο (yO (wT (zD (Ξb (Oe (is:=ĸp) rfl)) (zD (Ξb (Oe (is:=ĵp) rfl)) (zD (Ξb (Oe (is:=Ķp) rfl)) (Γ (Ξb (Oe (is:=ķp) rfl)))))) Ìe)) (zW xZ xX Ġ zI))) (γ (yq (i:=3) S0.nd rfl á)) (zb (xH æi (Οb (UA Sz b ğ)) (zb (xH æi (Οb (UA Sx b ğ)) (zb (xH æi (Οb (UA Sy b ğ)) (Οb (UA WO b ğ)))))))) Ök))
abbrev RG:Ü:=top 117
def Oi:zn [öc,ąa,Ńc,áf,áe,ϔb,ŀb] ŷn (za RG):=by ac_rfl
def cU:=HD Ïi ŷn 3 JS
def y6o(a:zT K Ïi RG):cU P w K mg Ì:=(Ģb).oS P w Ì 2 JS Oi yQ λb=>(zc (SX (i:=3) rfl Ũg rfl rfl úm rfl Ϸb (ς (yq (i:=7) (show(wD [öc,ąa,Ńc,áf,áe,ϔb,ϖm] Ŋh).Nodup by rw[Îq]) rfl á)) (ηa (yK ċb xW (zM įm) Ġa Ħa)) (Λ įm)) (zc (j3 (i:=4) Ũg rfl á ĺc) (Χ (Z5 rfl uV êe) (γ (yq (i:=5) Ũg rfl á)) (zc (yT (i:=6) Ũg rfl á (yG qZ b rfl (Βa (Γ (zW wS wR Ĺ ťa))))) (zb (xH (Z_ (UG (Υ (zM (zX ŝ zV õm zI)) Ġa) (UG (yK W5 kz (zM Ϻf) ύa Áa) (QM (Υ ϡb (Μa (wT zP (yP yV Ò)))))))) (Αa ώe õm) (zb (xH (Υ (zM Ϻf) ύa) (Αa ώe (Αc (zX ŝ zV Ŭ (zW xZ xX äh Ūp)))) (Αa ώe (wx (zD z_ (zD ŧp (Γ ŧp))) ÿe))))))) Õk)))
abbrev Rp:Ü:=top 40
def sG:zn Áj [ĥ] (za Rp):=by ac_rfl
variable(Yc:d7 P w K mg Ì)(KO:CF P w K mg Ì)
def dA:=HD ϔi [ĥ] 4 VA
def y7o(a:zT K ϔi Rp):dA P w K mg Ì:=(ū).oS P w Ì 3 VA sG yQ λb=>(zc (yT (i:=1) sG.nd rfl ća Ìd) (Ε (uD rfl ęl (UB rfl j5 Ŝl) (θd (ζ (wD ĩp ĩi)) (δ (γb (wD Áj ĩi)))) îc (Λ (yG KO b rfl (zD (zX ŝ zV Ġ Ĺ) áo))))))
abbrev Rm:Ü:=top 49
def x3i:zn [ĥ] [ĥ] (za Rm):=by ac_rfl
def d8:=HD ŋh [ĥ] 4 Xh
def y7l(a:zT K ŋh Rm):d8 P w K mg Ì:=(ū).oS P w Ì 3 Xh x3i yQ λd=>(Ε (uD rfl ęl (UB rfl j5 (yO (vH Yc d rfl ěb))) (ωb (Ξa ŀn) (δ (ζ ŀn))) (ζa (yK (xY (yh d)) xW ϴb (zM ŋc) Ħa)) ļh))
abbrev Ra:Ü:=top 61
def sD:zn Áj [ĥ] (za Ra):=by ac_rfl
variable(Hk:cN P w K mg Ì)
def ci:=HD Łj [ĥ] 4 JX
def y79(a:zT K Łj Ra):ci P w K mg Ì:=(ū).oS P w Ì 3 JX sD yQ λb=>(zc (SX (i:=1) rfl sD.nd rfl rfl ćh rfl ĝj (Λc (wD ĩp [āa])) îc (Λ (Zx Ţl (Os Ĺ Ov (Ow đd)) Ĺ))) (Ε (vH Hk b rfl (Βa (Γ Ŝl)))))
abbrev Pe:Ü:=top 69
def Ry:zn [ģb,úa,"pair"] [ģb] (za Pe):=by ac_rfl
variable(Hi:cL P w K mg Ì)
def b_:=HD ùi [ģb] 4 Wz
def y5n(a:zT K ùi Pe):b_ P w K mg Ì:=(ū).oS P w Ì 3 Wz Ry yQ λb=>(zc (j3 (i:=1) Ry.nd rfl á QD) (Ιa ĉl (zb Øk) (xH ŝk L0 xm) (Χ Ϸb (γ (yq (i:=2) Ry.nd rfl á)) (zc (Ωb (Νa (yG Hi b rfl ϰa))) (zc (Ωb (yK ġj pY (zM Ľh) (Q6 1) Ŀc)) (zb (QK Ďa Œg Ľh Ľh)))) Øk)))
abbrev Rs:Ü:=top 76
def x3k:zn ϋc ϋc (za Rs):=by ac_rfl
variable(KS:CH P w K mg Ì)(Ik:cI P w K mg Ì)(Ii:Fq P w K mg Ì)
def dC:=HD ϒi ϋc 4 Jb
def y7r(a:zT K ϒi Rs):dC P w K mg Ì:=(ź).oS P w Ì 3 Jb x3k yQ λb=>(ψ (yG KS b rfl (Γ (yO (uD rfl (vB (own:=[Ťd]) rfl) (uQ Şl) (Λc (wD ϋc [Ťd])) îc (Λ (yG Ii b rfl (zD ğ ϰa))))))))
abbrev Re:Ü:=top 78
def S7:zn [úa,ϋb,Ŗa,Ťd,"byte"] ìe (za Re):=by ac_rfl
variable(Ip:cq P w K mg Ì)(HU:c7 P w K mg Ì)
def cr:HT:=λP w K mg Ì=>v8 P w K mg Ì Ři ìe 4 (xy K JY)
def y7c(a:zT K Ři Re):cr P w K mg Ì:=(Ģb).oM P w Ì 3 JY S7 uk λb=>(vR (y36 ϟa rfl (sn rfl LC Şl (yG HU b rfl ϰa)) (y30 (Ρa (yq (i:=3) S7.nd rfl á) (δ (yq (i:=4) S7.nd rfl á))) rfl rfl Ò Ò) (ιa (Vq Ip b rfl (kY ϩ (tU Ŭ (tU Îa jM)))))))
abbrev Pm:Ü:=top 91
def x2t:zn œ œ (za Pm):=by ac_rfl
variable(Yb:bw P w K mg Ì)
def cB:HT:=λP w K mg Ì=>v8 P w K mg Ì ϟf œ 4 (xy K JF)
def y5u(a:zT K ϟf Pm):cB P w K mg Ì:=(ź).oM P w Ì 3 JF x2t uk λb=>(ξ (Zo (yG Ii b rfl Ĉl)))
abbrev Pr:Ü:=top 93
def x2x:zn œ œ (za Pr):=by ac_rfl
def cF:HT:=λP w K mg Ì=>v8 P w K mg Ì ŷf œ 4 (xy K JI)
def y5z(a:zT K ŷf Pr):cF P w K mg Ì:=(ź).oM P w Ì 3 JI x2x uk λb=>(ιa (Vq Ip b rfl żk))
abbrev Rj:Ü:=top 104
def On:zn [ĥ,ĩb,śa,ėa,Ćd] [ĥ] (za Rj):=by ac_rfl
def c_:=HD ϋh [ĥ] 4 JZ
def y7i(a:zT K ϋh Rj):c_ P w K mg Ì:=(ū).oS P w Ì 3 JZ On yQ λb=>(zc (yT (i:=1) Ťg rfl á Ìd) (zc (j3 (i:=2) Ťg rfl á QD) (Χ (UB rfl j5 (yO (vH Yc b rfl (zD ğ zP)))) (sV (Yt (n:=2) rfl (qH (yq (i:=3) Ťg rfl á) (δ (yq (i:=4) Ťg rfl á)))) rfl rfl) (zb (QK Ďa ŀe Ŭ (wx (zD (zX ŝ zV Ġ Ŭ) (zD čf (Γ (zA 4)))) ÿe))) Ök)))
abbrev Rf:Ü:=top 42
def Om:zn [ĥ,Ŧd,"found",þb,ėa] [ĥ] (za Rf):=by ac_rfl
variable(Vg:dA P w K mg Ì)
def cv:=HD ϖi [ĥ] 5 V9
def y7d(a:zT K ϖi Rf):cv P w K mg Ì:=(ū).oS P w Ì 4 V9 Om yQ λb=>(zc (yT (i:=1) ťg rfl á šh) (zc (j3 (i:=2) ťg rfl á QD) (zc (j3 (i:=3) ťg rfl á Ġi) (zc (L5 ϟa (Γc (Q6 3)) (zc (z04 (i:=3) (j:=4) ŵd ťg rfl á) (Χb (Z_ (D7 (yK W5 kz ēj (zM Èj) Áa) (D8 (yK (NU Ďa) NQ ēj (Q6 2) Ŀc)))) (zc (QK Ďa ŀe Îa g7) (zb (z03 ŵd Ĥh)))))) (L6 3 (L6 2 (Ε (x47 rfl rfl XA ϰa))))))))
abbrev RV:Ü:=top 44
def WE:zn [ĥ,ĩb,Ŧd,íj,šd,þb,ėa,ľj] [ĥ] (za RV):=by ac_rfl
variable(HV:Fu P w K mg Ì)(KN:d9 P w K mg Ì)(Im:CA P w K mg Ì)(Io:cp P w K mg Ì)
def ce:=HD łj [ĥ] 5 V8
def y74(a:zT K łj RV):ce P w K mg Ì:=(ū).oS P w Ì 4 V8 WE yQ λb=>(zc (yT (i:=1) ϸc rfl á Ìd) (zc (yT (i:=2) ϸc rfl á šh) (zc (yT (i:=3) ϸc rfl á (yG HV b rfl ϰa)) (zc (j3 (i:=4) ϸc rfl á (x42 (yO (sT Ġi Èj)) (yO (wT (Γ Ńn) äc)))) (zc (j3 (i:=5) ϸc rfl á (x45 rfl rfl k7 rfl uV (Γ Èj))) (zc (L5 ϟa (Γc (Q6 5)) (zc (z04 (i:=5) (j:=6) (qv 5) ϸc rfl á) (zc (yT (i:=7) ϸc rfl á (zW Z0 qc (yG KN b rfl ĕl) (zW OI qc (x3o Im b rfl (vy (Q6 4) (vy (zM (zX ŝ zV Ĺ ϑa)) uC))) (WG z10 z0y (yG Io b rfl ĕl))))) (Χb (yK Ād gZ Đj (zM (x3r Ďa ώe ϑa)) Áa) (zc (L4 ώe ϑa Ŷf) (zb (z03 (qv 5) (zX ŝ zV Ŭ ϑa)))))))) (L6 5 (zb Õk))))))))
abbrev Pn:Ü:=top 92
def x2u:zn œ œ (za Pn):=by ac_rfl
variable(KR:dC P w K mg Ì)
def cC:HT:=λP w K mg Ì=>v8 P w K mg Ì Ÿf œ 5 (xy K JG)
def y5v(a:zT K Ÿf Pn):cC P w K mg Ì:=(ź).oM P w Ì 4 JG x2u uk λb=>(ξ (Zo (yG KR b rfl Ĉl)))
abbrev Ps:Ü:=top 94
def x2y:zn œ œ (za Ps):=by ac_rfl
variable(KE:cr P w K mg Ì)
def cG:HT:=λP w K mg Ì=>v8 P w K mg Ì ŝf œ 5 (xy K JJ)
def y60(a:zT K ŝf Ps):cG P w K mg Ì:=(ź).oM P w Ì 4 JJ x2y uk λb=>(ιa (Vq KE b rfl żk))
abbrev PH:Ü:=Zh Ēc 0
def x2f:zn ϖd ϖd (za PH):=by ac_rfl
variable(Sw:gL P w K mg Ì à ŏe [ş] 3 Žp)(KU:dD P w K mg Ì)(HS:b_ P w K mg Ì)
def y58{f:Ë}{b:Ň}(d:vw K éb Ėm PH f b):xg P w K mg Ì xT 5 f b ϖd ſp:=d.oM P w mg Ì 4 Uv x2f uk λa=>(wQ (kZ ϩ VJ (vo Ġ)) (wQ (kZ ϩ Jt Ęj) (wQ (kZ ϩ Jv (θa (vH KU a rfl Ĩd))) (wQ (kZ ϩ Ju (θa (vH HS a rfl şp))) (ιa (mE Sw a ϩ))))))
abbrev RX:Ü:=top 48
def sC:zn [ĥ,"there"] [ĥ] (za RX):=by ac_rfl
variable(KF:cv P w K mg Ì)
def cg:=HD Íi [ĥ] 6 Xf
def y76(a:zT K Íi RX):cg P w K mg Ì:=(ū).oS P w Ì 5 Xf sC yQ λd=>(zc (yT (i:=1) sC.nd rfl ća (yO (Ζb (Ζa ϰd (uQ (yG KF d rfl ěb)) šk (Κ (Φ ào)))))) (Ε (uD rfl ϰd (Φb (ε (Μa (vH tT d rfl ěb)))) šk (ζa (yK Źo NQ ϴb þc Ŀc)) ĭm)))
abbrev RW:Ü:=top 51
def Bp:zn Ìh [ĥ] (za RW):=by ac_rfl
variable(K9:ce P w K mg Ì)
def cf:=HD õi [ĥ] 6 Xe
def y75(a:zT K õi RW):cf P w K mg Ì:=(ū).oS P w Ì 5 Xe Bp yQ λb=>(zc (yT (i:=1) Bp.nd rfl ća (yO (vH K9 b rfl ěb))) (zc (yT (i:=2) Bp.nd rfl ća šh) (zc (x5b (i:=3) Bp.nd rfl ća (yO (uD rfl ćh ĝj (δc (wD Ìh [āa])) îc (Λ (yG Io b rfl şp))))) (Ε (uD rfl ϰd (Φb Ūp) (δc (wD Ìh [ϖb])) (ηa (Z_ (D7 (νd (zM ôm)) (D8 (yK ċb xW (zM (zW OI qc ôm (yG Im b rfl ân))) ύa Ħa))))) (Λ Îa))))))
abbrev Pp:Ü:=top 96
def x2v:zn œ œ (za Pp):=by ac_rfl
variable(Mi:v7 mg "DEEDS" ϳp)(MV:Xi K w mg Ul jl fK)(Hd:Fw P w K mg Ì)(HY:cA P w K mg Ì)(HX:Fv P w K mg Ì)(Vb:cH P w K mg Ì)(Ij:c9 P w K mg Ì)(Mo:cD P w K mg Ì)(HZ:cB P w K mg Ì)(Hb:cC P w K mg Ì)(He:cF P w K mg Ì)(Hf:cG P w K mg Ì)
def cE:HT:=λP w K mg Ì=>v8 P w K mg Ì ìj œ 6 (xy K pO)
def y5x(a:zT K ìj Pp):cE P w K mg Ì:=(ź).oM P w Ì 5 pO x2v uk λb=>(vR (Ψa (x5d Mi MV rfl Ŵb) (gX (y2v Mi MV rfl (ĥa Hd Ò (ĥa HY Ò (ĥa HX Ò (ĥa Vb Ò (ĥa Vb Ò (ĥa Vb Ò (ĥa Vb Ò (ĥa Vb Ò (ĥa Ij Ò (ĥa Ij Ò (ĥa Ij Ò (ĥa Mo Ò (ĥa Mo Ò (ĥa HZ Ò (ĥa Hb Ò (ĥa He Ò (ĥa Hf Ò uG.nil))))))))))))))))) b Ŵb (kY ϩ (tU Ġ jM))))))
abbrev PV:Ü:=Zh (top 103) 0
def rh:zn [ş,ĥ,Ûb,ģb,śa] Ċf (za PV):=by ac_rfl
variable(A3:Lv P w K mg Ì úp éb ϖd 5 ſp)(KJ:c_ P w K mg Ì)
def y5g{f:Ë}{b:Ň}(d:vw K éb ůl PV f b):xg P w K mg Ì xT 6 f b Ċf żp:=d.oM P w mg Ì 5 gI rh uk λa=>(wQ (jN (i:=4) rh.nd rfl á Ò (θa (vH KJ a rfl Ŋb))) (ιa (y2u (pl:=_) A3 a rfl (kY ϩ (tU Îa (tU (uP z55 y6t rfl wH uo (vy ēj uC)) ėh))))))
abbrev Pw:Ü:=top 53
def R_:zn [ĥ,"told_by",Ŝf] [ĥ] (za Pw):=by ac_rfl
variable(G_:v7 mg þi áj)(Sg:CV K mg Wq ċk)(KB:cg P w K mg Ì)(KM:d8 P w K mg Ì)(HW:c8 P w K mg Ì)(KA:cf P w K mg Ì)
def cJ:=HD Įh [ĥ] 7 JK
def y63(a:zT K Įh Pw):cJ P w K mg Ì:=(ū).oS P w Ì 6 JK R_ yQ λb=>(zc (x59 ϟa rfl G_ rfl Sg (Đg KB (Đg KM (Đg HW (Đg KA ZX.nil)))) b (yq (i:=1) R_.nd rfl á) rfl Œg R_.nd rfl á ěb (Χb (yK Ād gZ ϴb ϩk Áa) (zb (yr Ĺ))) rfl) ϑn)
abbrev PU:Ü:=Zh Ēc 3
def rg:zn [ş,šd] [ş] (za PU):=by ac_rfl
variable(Hc:cE P w K mg Ì)(Hw:C5 P w K mg Ì)
def y5f{f:Ë}{b:Ň}(d:vw K ŧe ėn PU f b):xg P w K mg Ì xT 7 f b [ş] Żp:=d.oM P w mg Ì 6 jc rg uk λa=>(wQ (Ψa (tJ (UA WO a ğ)) Ħi) (wQ (jN (i:=1) rg.nd rfl á Ò (Zo Ŏk)) (wQ (gX (Vq Hc a rfl (kY (qd ϩ gO) (tU Ëf jM)))) (wQ (kZ ϩ YR (Zo (Zx (tJ (yG Hw a rfl (zD Ůf (Γ Ëf)))) Ëf Ëf))) (wQ (y35 ϩ Js zI) (vR Ħi))))))
abbrev Rh:Ü:=top 65
def Q9:zn [ĥ,"before","now","led"] [ĥ] (za Rh):=by ac_rfl
variable(Hy:cV P w K mg Ì)(KQ:dB P w K mg Ì)(Hg:cJ P w K mg Ì)(KD:ci P w K mg Ì)
def cy:=HD ŀj [ĥ] 8 Xg
def y7f(a:zT K ŀj Rh):cy P w K mg Ì:=(ū).oS P w Ì 7 Xg Q9 yQ λb=>(zc (yT (i:=1) ϙe rfl á jT) (zc (yT (i:=2) ϙe rfl á ğ) (zc (L5 ϟa (yK (y87 (yh b)) y72 ϴb þc Áa) (zc (yT (i:=1) ϙe rfl á Ĺ) (zc (yT (i:=3) ϙe rfl á (yO (vH Hy b rfl Ŋb))) (zb (yT (i:=2) ϙe rfl á (yG KQ b rfl (zD Ŭ (Γ (yG Hg b rfl (zD Ŭ zP)))))))))) (Ε (vH KD b rfl ϰa)))))
abbrev PN:Ü:=Zh Ēc 4
def Rx:zn [ş,"most",Ņj] őf (za PN):=by ac_rfl
variable(S_:gL P w K mg Ì à ŧe [ş] 7 Żp)
def y5d{f:Ë}{a:Ň}(d:vw K ϑe šn PN f a):xg P w K mg Ì xT 8 f a őf źp:=d.oM P w mg Ì 7 qp Rx uk λb=>(wQ (jN (i:=2) Rx.nd rfl á Ò źj) (wQ (y37 ϟa (y3f (y3d (Vs (yK W5 kz ϴb þc Áa)) (y3e (y3c (mE S_ b ϩ))))) (vR (y34 (i:=2) Kd NM Rx.nd rfl á Ò zI))) (vR (OB Ęj))))
abbrev U8:Ü:=top 118
def WC:zn [ąa,öc,"_law_registers_here","_law_memory_here","_law_brief","_law_long",ŀb] [ąa] (za U8):=by ac_rfl
variable(Mx:Lw P w K mg Ì à Ċf 6 żp)(DK:gL P w K mg Ì à ϑe őf 8 źp)(Hq:cR P w K mg Ì)(Hu:cU P w K mg Ì)(Hr:cS P w K mg Ì)(Hn:cQ P w K mg Ì)(KG:cy P w K mg Ì)(Ht:C2 P w K mg Ì)(Mp:C3 P w K mg Ì)
def y6e{f:Ë}{c:Ň}(d:Fun K Āb Āb U8 f c):xg P w K mg Ì xT 9 f c [ąa] Ük:=y20 d WC Ò uk x26 λe A b s H E a=>(wQ (υc (yO (vH Hq a rfl (zD ğ Ŧo)))) (wQ (Ψa (yK ϫh xW (zM (Ι ŵm)) ύa Áa) (υc (yG Hu a rfl (zD Ġ Ĭf)))) (wQ (jN (i:=2) ϖe rfl á Ò (θa (vH Hr a rfl Ĭf))) (wQ (jN (i:=3) ϖe rfl á Ò (θa (vH Hn a rfl Ĭf))) (wQ (jN (i:=4) ϖe rfl á Ò (N8 Mx a rfl (tU (yO (vH KG a rfl Ŋb)) ėh))) (wQ (gX (mD DK a (xz 4) (tU zI jM))) (wQ (Ψa (Νa (UA WO a Îa)) Ħi) (wQ (jN (i:=5) ϖe rfl á Ò (N8 Mx a rfl (tU Ġ ėh))) (wQ (gX (mD DK a (xz 5) (tU (zW OJ NP zI (zW wS wR (ε (Μa (vH Ht a rfl Ŋb))) zI)) jM))) (wQ (jN (i:=6) ϖe rfl á Ò (vo ŵm)) (vR (OB (Zo (QC (UA WO a ťa) (WF (tV ϫh xW (υd (zD ťa (Γ ϑa))) (υd (zD Îa (Γ äh))) Áa))))))))))))))))
#print a
#print a
def all_mk{l:ϲi}{w:æ}{K:Ô}{h:Heap}{a:Ç->É Value}(X:Ž h)(G:īa ġ a)(hfa:a Āb=À (.ref fa))(a0:zT K İi P_)(a1:zT K ņj Pa)(a2:zT K Ŀj Rk)(a3:zT K ϛj RZ)(a4:zT K Ĭi Rq)(a5:zT K ϑi Rt)(a6:zT K Şi Pz)(a7:zT K Ϛi Py)(a8:zT K śi RN)(a9:zT K ōh RQ)(a10:zT K ĭi Ro)(a11:zT K Įi RU)(a12:zT K Ĳi Ph)(a13:zT K Ŝi RK)(a14:zT K ϗi RS)(a15:zT K Śi RY)(a16:zT K ϛi Pd)(a17:Jg K Ŀ ϗm PZ íe)(a18:qQ K Óg Pq I)(a19:qQ K ϡf Pk L)(a20:zT K ëj R1)(a21:zT K Ńj RJ)(a22:ZY K à à ĥb ϙm PQ [ş])(a23:ZY K à à Ûb Øm PM [ş])(a24:ZY K à à Œd Ín PK [ş])(a25:zT K ϭh R6)(a26:zT K üi RH)(a27:zT K ýi R9)(a28:zT K Ĵi RD)(a29:zT K öi RO)(a30:zT K Îi RP)(a31:zT K şi Pg)(a32:zT K ϕi Rg)(a33:zT K Ϭh R3)(a34:zT K Ϛj Rn)(a35:zT K "put" Rb)(a36:zT K ϓi Rr)(a37:zT K įi R5)(a38:zT K Ōh RT)(a39:zT K øi Px)(a40:zT K úi Pc)(a41:zT K ři Rc)(a42:qQ K Ϡf Pl B)(a43:zT K éj Ri)(a44:zT K Ϙi RM)(a45:zT K ói Ru)(a46:ZY K à à ŏe În PJ [ş])(a47:ZY K à à ģb Ϛm PL [ş])(a48:zT K ĵi R7)(a49:zT K Ði RC)(a50:zT K ôi Rl)(U:qQ K įh Pi m)(a52:zT K êj RL)(a53:zT K ŝi R4)(a54:zT K ϙi R0)(a55:zT K ıi Pv)(g:qQ K Ėc Pu b)(o:qQ K įd Pj d)(C:qQ K Ėe Po i)(a59:zT K ûi Pb)(a60:zT K Ŏh RA)(a61:zT K ŧh RB)(a62:zT K Ñi R8)(a63:zT K ĳi RE)(a64:zT K Ïi RG)(a65:zT K ϔi Rp)(a66:qQ K ŋh Rm q)(a67:zT K Łj Ra)(a68:zT K ùi Pe)(a69:zT K ϒi Rs)(a70:zT K Ři Re)(a71:qQ K ϟf Pm N)(a72:qQ K ŷf Pr E)(a73:zT K ϋh Rj)(a74:zT K ϖi Rf)(a75:zT K łj RV)(T:qQ K Ÿf Pn P)(a77:qQ K ŝf Ps F)(a78:Lq K úp éb Ėm PH ϖd)(a79:qQ K Íi RX r)(a80:qQ K õi RW p)(a81:zT K ìj Pp)(a82:Jg K à ůl PV Ċf)(a83:zT K Įh Pw)(a84:ZY K à à ŧe ėn PU [ş])(a85:zT K ŀj Rh)(a86:ZY K à à ϑe šn PN őf)(a87:Ϙ K ġ Āb=À (À (.ref O)))(l87:Ãa O=Mh Āb U8 Y od87 sl87 y z u A j x)(c87:Ţb K j Āb=Ã)(k87:Þa K (.ref O)=Ã)(y4x:Gn K řc)(y4w:Gn K ĭc)(y4t:Gn K Ũe)(y53:Gn K "sum")(y55:Gn K ńa)(y52:Gn K Ÿa)(y51:Gn K ś)(y50:Gn K Ţa)(y4y:Gn K "len")(y4v:Gn K ϕb)(y4z:Gn K Ī)(y4u:Gn K Ña)(y54:Gn K ώ)(y4s:Gn K "all")(Js:vi K [à] ϣc)(YR:vi K [à] þb)(Jt:vi K [à] Ĳb)(Ju:vi K [à] ïc)(Jv:vi K [à] Źb)(Q:vi K [Ŀ] úa)(gO:vi K [à] ža)(VJ:vi K [à] śa)(S:vi K [Ŀ] âb)(f:vi K [Ŀ] ĸa)(y40:Gs K "DEEDS" ϳp)(y4m:Dc K w Ul [(ś,x70,.ref I),(öb,x78,.ref B),(Ïa,x79,.ref L),(Ňa,x7a,.ref b),(Ēa,x7b,.ref b),(ņa,x7c,.ref b),(đa,x7d,.ref b),(ÿa,x7e,.ref b),(Ϛa,x7f,.ref d),(ϝa,x7g,.ref d),(Èb,x71,.ref d),(Ģa,x72,.ref i),(Ĺa,x73,.ref i),(ţa,x74,.ref N),(ŝa,x75,.ref P),(Ŝa,x76,.ref E),(Ŕa,x77,.ref F)])(y3x:Gs K "BEYOND" (.int 4294967296 x6m))(y3z:Gs K Ėo Ðg)(mh:Tq K Å Uk [.int 0 x88,.int 8 x8r,.int 16 x90,.int 24 x98])(y42:Gs K "JUMPS" Ïg)(mi:Tq K Å Um [.str ļa x89,.str Ða x8s,.str Ía x91])(y48:Gs K ϑo (.int 8 x6p))(y47:Gs K "MARKS" Èg)(mq:Tq K Å Wr [.str Âa x8d,.str èa x8w,.str ía x94])(y43:Gs K ûp (.str Ľb x6o))(y4d:Gs K Ēo (.int 32 x6r))(y3w:Gs K ϲn (.int 2047 x6l))(y45:Gs K ĕo Íg)(ml:Tq K Å Up [.str öb x8b,.str Ģa x8u,.str Ĺa x92,.str Ňa x99,.str Ēa x9e,.str ņa x9j,.str đa x9o,.str Ϛa x9t,.str ϝa x9x,.str Èb w01,.str ÿa x8h,.str Ŝa x8k,.str Ŕa x8n])(y46:Gs K Ĕo Ìg)(mo:Tq K Å Uq [.str Ïa x8c,.str ţa x8v,.str ŝa x93,.str Ňa x9a,.str Ēa x9f,.str ņa x9k,.str đa x9p,.str Ϛa x9u,.str ϝa x9y,.str Èb w02,.str ÿa x8i,.str Ŝa x8l,.str Ŕa x8o])(y44:Gs K Ïn Îg)(mj:Tq K Å Uo [.str Ēa x8a,.str đa x8t])(y4a:Gs K "PUT_D" Êg)(mw:Tq K Å Us [.str ś x8f,.str öb x8y,.str Ïa x96,.str ţa x9c,.str ŝa x9h,.str Ňa x9m,.str Ēa x9r,.str ņa x9v,.str đa x9z,.str Ϛa w03,.str ϝa x8j,.str Èb x8m,.str Ģa x8p,.str Ĺa x8q])(y4b:Gs K Űl Ég)(mx:Tq K Å Ut [.str Ňa x8g,.str Ēa x8z,.str ņa x97,.str đa x9d,.str ÿa x9i,.str Ϛa x9n,.str ϝa x9s,.str Èb x9w,.str Ģa w00,.str Ĺa w04])(y49:Gs K ēo Ëg)(mv:Tq K Å Ur [.str Ňa x8e,.str Ēa x8x,.str ņa x95,.str đa x9b,.str ÿa x9g,.str Ģa x9l,.str Ĺa x9q])(y3v:Gs K Ęn (.int 16 x6k))(y3y:Gs K ėo (.int 8 x6n))(y4c:Gs K Ϙm (.int 8 x6q))(y41:Ϙ K ġ þi=À (À áj))(y4n:Ãa Wq=À {.type ώ,Å,.seq #[.ref r,.ref q,.ref m,.ref p] y3g,x4j}): ∃fd:Ň,(∀(s:Í)(v:Value),Įb s fd {[v],[]} [(ąa,v)])/\∀Ì:Heap,Ž Ì->Ŕd ġ a->xg ł w K a Ì xT 9 fa fd [ąa] Ük:=by
 let e:=hfa.symm.trans (Åc X G a87);cases e;let Y7:=jJ X G y4x;let AZ:=jJ X G y4w;let AY:=jJ X G y4t;let Aa:=jJ X G y53;let LC:=jJ X G y55;let XA:=jJ X G y52;let LB:=jJ X G y51;let k:=jJ X G y50;let c:=jJ X G y4y;let J:=jJ X G y4v;let k7:=jJ X G y4z;let Y6:=jJ X G y4u;let UO:=jJ X G y54;let AX:=jJ X G y4s;let Mi:=Zg X G y40;let MV:Xi K w a Ul jl fK:=z6h (fs:=[I,B,L,b,b,b,b,b,d,d,d,i,i,N,P,E,F]) y4m rfl ϸ rfl (.cons (a18.n X G) (.cons (a42.n X G) (.cons (a19.n X G) (.cons Ĩe (.cons Ĩe (.cons Ĩe (.cons Ĩe (.cons Ĩe (.cons Ùj (.cons Ùj (.cons Ùj (.cons ϭp (.cons ϭp (.cons (a71.n X G) (.cons (T.n X G) (.cons (a72.n X G) (.cons (a77.n X G) .nil)))))))))))))))));let Tc:=VY X G y3x;let Q2:∀H,zZ K H Úd Úd:=λ_=>rfl
 let IY:=Zg X G y3z;let w1m:=X8 mh;let OT:∀H,zZ K H Td Ðg:=X9 mh rfl;let HA:=Zg X G y42;let w1n:=X8 mi;let Nk:∀H,zZ K H Mm Ïg:=X9 mi rfl;let HF:=VY X G y48;let No:∀H,zZ K H Ëa Ëa:=λ_=>rfl
 let VX:=Zg X G y47;let Kg:=X8 mq;let U0:∀H,zZ K H Te Èg:=X9 mq rfl;let IZ:=z7f X G y43;let OU:∀H,zZ K H ϝb ϝb:=λ_=>{rfl,Ăb Ò}
 let Xw:=VY X G y4d;let WA:∀H,zZ K H ϙb ϙb:=λ_=>rfl
 let IW:=VY X G y3w;let OR:∀H,zZ K H űc űc:=λ_=>rfl
 let HC:=Zg X G y45;let w1p:=X8 ml;let Nm:∀H,zZ K H HM Íg:=X9 ml rfl;let HE:=Zg X G y46;let w1q:=X8 mo;let Nn:∀H,zZ K H HN Ìg:=X9 mo rfl;let HB:=Zg X G y44;let w1o:=X8 mj;let Nl:∀H,zZ K H HL Îg:=X9 mj rfl;let HH:=Zg X G y4a;let w1s:=X8 mw;let Nq:∀H,zZ K H HQ Êg:=X9 mw rfl;let HI:=Zg X G y4b;let w1t:=X8 mx;let Nr:∀H,zZ K H HR Ég:=X9 mx rfl;let HG:=Zg X G y49;let w1r:=X8 mv;let Np:∀H,zZ K H HP Ëg:=X9 mv rfl;let IV:=VY X G y3v;let OQ:∀H,zZ K H ϳa ϳa:=λ_=>rfl
 let IX:=VY X G y3y;let OS:∀H,zZ K H Ëa Ëa:=λ_=>rfl
 let Mj:=VY X G y4c;let Bb:∀H,zZ K H Ëa Ëa:=λ_=>rfl
 let G_:v7 a þi áj:={_,Åc X G y41,rfl};let Sg:CV K a Wq ċk:={[r,q,m,p],λH=>f6 (xs:=[.ref r,.ref q,.ref m,.ref p]) y4n (by exact(4:Â)<=å;decide) (.cons rfl (.cons rfl (.cons rfl ϊh))) H,by simp only[Ļ,øe,a79.n X G,a66.n X G,U.n X G,a80.n X G]};let F87:=iA (st:=U8) l87 c87 k87;show{ϫc Āb Āb (jj U8) (u9 U8) (za U8) .none y z u A j x,λs v=>.of_eq rfl,λbase _ _=>?_};let Ve:Fz ł w K a Ì:=y67 X G Y7 AZ AY a0;let Mn:Fp ł w K a Ì:=y5i X G Tc Q2 a1;let KL:CD ł w K a Ì:=y7j X G Tc Q2 a2;let R:CC ł w K a Ì:=y78 X G a3;let KP:CG ł w K a Ì:=y7p X G a4;let KS:CH ł w K a Ì:=y7s X G Aa LC IY OT a5;let Vd:Fy ł w K a Ì:=y66 X G a6;let Vc:Fx ł w K a Ì:=y65 X G HA Nk a7;let Xx:C7 ł w K a Ì:=y6v X G HF No VX U0 Kg a8;let K6:C8 ł w K a Ì:=y6y X G a9;let KO:CF ł w K a Ì:=y7n X G XA LB a10;let Im:CA ł w K a Ì:=y73 X G a11;let HV:Fu ł w K a Ì:=y5p X G k c J a12;let Hx:C6 ł w K a Ì:=y6r X G c a13;let K7:C9 ł w K a Ì:=y70 X G c IZ OU a14;let KC:CB ł w K a Ì:=y77 X G XA a15;let Ii:Fq ł w K a Ì:=y5m X G a16;let Ki:=a17.hh X G ł w Ì (y5h VX U0 k7 Y6 f S Q);let Hd:Fw ł w K a Ì:=y5y X G f a18.2;let HX:Fv ł w K a Ì:=y5s X G f a19.2;let Hj:F_ ł w K a Ì:=y6a X G a20;let Hw:C5 ł w K a Ì:=y6q X G S a21;let WO:=(a22.hh ł w a Ì (y5e YR VJ Jt)).1;let Sz:=(a23.hh ł w a Ì (y5c k7 f gO)).1;let Sx:=(a24.hh ł w a Ì (y5a VX U0 S gO UO)).1;let Hm:C0 ł w K a Ì:=y6f X G c a25;let Hv:C4 ł w K a Ì:=y6p X G a26;let Ho:C1 ł w K a Ì:=y6i X G k a27;let Ht:C2 ł w K a Ì:=y6m X G a28;let Hz:=y6w X G Xw WA R a29;let H_:=y6x X G R a30;let HU:=y5o X G IY OT UO R a31;let t:=y7e X G Vd a32;let Il:=y6b X G Vd a33;let KN:=y7m X G IW OR HC Nm HE Nn HB Nl Xx a34;let Io:=y7a X G Xx HH Nq HI Nr HG Np K6 a35;let KQ:=y7q X G Y6 Vd a36;let Hl:=y6d X G Hx a37;let K8:=y71 X G XA LB J Y6 K7 a38;let Hh:=y64 X G IV OQ Ve a39;let Ih:=y5k X G R IV OQ a40;let Ip:=y7b X G R IX OS a41;let HY:=y5t X G f KP a42.2;let KH:=y7h X G Mn KL a43;let Vf:=y6u X G S Xw WA R a44;let KU:=y7t X G Y7 c k7 Xw WA Ve AX Mj Bb a45;let Sw:=(a46.hh ł w a Ì (y59 YR gO Ju Jv Js Ki)).1;let Sy:=(a47.hh ł w a Ì (y5b Q gO KC)).1;let Z:=y6g X G c Hm a48;let Hs:=y6l X G c Hv a49;let Yc:=y7k X G Il t Vc a50;let HW:=y5q X G J t U.2;let Hy:=y6s X G Il t Vc Hl a52;let Hk:=y6c X G c J K8 a53;let Hi:=y68 X G Y7 c UO Ve IX OS Hh a54;let Ik:=y62 X G k Ih a55;let Vb:=y61 X G f S Vf KH g.2;let Ij:=y5r X G f Vf Hj o.2;let Mo:=y5w X G f S Vf Hz H_ C.2;let Yb:=y5j X G f Ih a59;let Hq:=y6j X G k Z Ho Hs a60;let Hr:=y6k X G k Z a61;let Hn:=y6h X G k Z a62;let Mp:C3 ł w K a Ì:=y6n X G Sz Sx Sy WO a63;let Hu:=y6o X G k c Z a64;let Vg:=y7o X G J t Yc KO a65;let KM:=y7l X G J Yc a66.2;let KD:=y79 X G t Vc Yc Hk a67;let HS:=y5n X G Y7 k7 Hi a68;let KR:=y7r X G KS Ik Ii a69;let KE:=y7c X G LC Ik Ip HU a70;let HZ:=y5u X G f Q Ii Yb a71.2;let He:=y5z X G f Q Ip Yb a72.2;let KJ:=y7i X G J t Yc a73;let KF:=y7d X G XA c Vg a74;let K9:=y74 X G k c k7 IW OR t Vg HV KN Im Io a75;let Hb:=y5v X G f Q Yb KR T.2;let Hf:=y60 X G f Q Yb KE a77.2;let A3:=a78.hh X G ł w Ì (y58 VJ Jt Ju Jv Sw KU HS);let KB:=y76 X G k c Y6 t KF a79.2;let KA:=y75 X G k c t Vg Im Io K9 a80.2;let Hc:=y5x X G Mi MV Hd HY HX Vb Ij Mo HZ Hb He Hf a81;let Mx:=a82.hh X G ł w Ì (y5g c A3 KJ);let Hg:=y63 X G G_ Sg KB KM HW KA a83;let S_:=(a84.hh ł w a Ì (y5f YR VJ gO Js WO Hc Hw)).1;let KG:=y7f X G Hy KQ Hg KD a85;let DK:=(a86.hh ł w a Ì (y5d S_)).1;show y6e c Z WO Mx DK Hq Hu Hr Hn KG Ht Mp F87
def walk{l:ϲi}{q:ï}{b:Á Ç}{m:ŵh->Heap->È}{i:æ->Heap->È}{d:DefRec}{K:ņg->Ô}(t:ϣj=À 63)(e:Ŗm=[])(j:∀(w:æ)(h:Heap),i w h->(ŕb).In h)(F:∀(w:æ)(c:Ç->É Value)(g:Ë)(h:Heap),(ŕb).In h->īa ġ c->c d.name=À (.ref g)->
   ∃fd:Ň,(∀(s:Í)(u:Value),Įb s fd {[u],[]} [(ąa,u)])/\∀Ì:Heap,(ŕb).In Ì->Ŕd ġ c->xg ł w ŕb c Ì xT 9 g fd [ąa] (Ox ŕb)) :
  W.WalkO q b m i ąi d [] Ęl:=
 L3.walkB (n:=63) (k:=9) (x := ąa) (sp:=Ox) t Ò e {rfl,by decide,by decide,rfl} j F λ_ _ a p v r o=>{a,p,rfl,o,v,r,λ_=>rfl}
#print My
end
open Lean in
local macro_rules|`(universe $x)=>return rb0 (fb0 .missing) (mkNullNode (<-(("o_53 sts_470 o_58 tree_335 tree_264 tree_541 o_49 o_63 tree_469 sts_336 o_56 sts_658 tree_657 sts_86 o_54 o_55 tree_413 sts_566 sts_542 o_61 tree_770 o_51 view_39 tree_708 heap_39 o_59 tree_563 tree_70 o_60 sts_265 tree_196 sts_197 sts_130 tree_129 tree_85 heap_771 o_57 sts_709 sts_414".splitOn).toArray++(Array.range' 64 707).map (s!"o_{·}")).mapM λi=>`(def $(mkIdent (.mkSimple s!"tw{(Name.str x.getId i).hash}")):ident:=Nat)))
namespace PySem.W.Fast
universe PySem.Challenge.cw_markrun_k59_whole_stands_as_the_long_holds
def tw953246500331075186:=Nat
end PySem.W.Fast
open PySem PySem.W PyProof.Rows
set_option maxRecDepth 100000 in
set_option maxHeartbeats 0 in
theorem PySem.Challenge.cw_markrun_k59_whole_stands_as_the_long_holds : PySem.Challenge.rw_markrun_k59_whole_stands_as_the_long.Holds := by
 w_on;o_law;k_head;(case hw=>w_witness2)
 k_fill
 refine My.walk (l:=PySem.Challenge.rw_markrun_k59_whole_stands_as_the_long) rfl rfl (λw h Y=>PySem.W.kIn_of Y) ?F
 case F=>
  intro w e d h c G b;refine' My.all_mk c G b ?a0 ?a1 ?a2 ?a3 ?a4 ?a5 ?a6 ?a7 ?a8 ?a9 ?a10 ?a11 ?a12 ?a13 ?a14 ?a15 ?a16 ?a17 ?a18 ?a19 ?a20 ?a21 ?a22 ?a23 ?a24 ?a25 ?a26 ?a27 ?a28 ?a29 ?a30 ?a31 ?a32 ?a33 ?a34 ?a35 ?a36 ?a37 ?a38 ?a39 ?a40 ?a41 ?a42 ?a43 ?a44 ?a45 ?a46 ?a47 ?a48 ?a49 ?a50 ?a51 ?a52 ?a53 ?a54 ?a55 ?a56 ?a57 ?a58 ?a59 ?a60 ?a61 ?a62 ?a63 ?a64 ?a65 ?a66 ?a67 ?a68 ?a69 ?a70 ?a71 ?a72 ?a73 ?a74 ?a75 ?a76 ?a77 ?a78 ?a79 ?a80 ?a81 ?a82 ?a83 ?a84 ?a85 ?a86 ?a87 ?l87 ?c87 ?k87 ?a200 ?a201 ?a202 ?a203 ?a204 ?a205 ?a206 ?a207 ?a208 ?a209 ?a210 ?a211 ?a212 ?a213 ?a214 ?a215 ?a216 ?a217 ?a218 ?a219 ?a220 ?a221 ?a222 ?a223 ?a224 ?a225 ?a226 ?a227 ?a228 ?a229 ?a230 ?a231 ?a232 ?a233 ?a234 ?a235 ?a236 ?a237 ?a238 ?a239 ?a240 ?a241 ?a242 ?a243 ?a244 ?a245 ?a246 ?a247 ?a248 ?a249 ?a250 ?a251 ?a252 ?a253
  all_goals try first|exact L3.fnp_mk (by k_is) (by k_is) (by k_is) (by k_is)|exact L3.gn_mk (by k_is)|exact L3.gs_mk (by k_is)|exact L3.dc_mk (by simp only[List.map_cons,List.map_nil];k_is) (by decide)|exact L3.tp_mk (by k_is)|exact L3.tq_mk (by k_is)|exact L3.fnq_mk (by k_is) (by k_is) (by k_is) (by k_is)|exact L3.mtp_mk (L3.mtc_mk (by k_is) (L3.cls_mk (by k_is) (by k_is) (by k_is) (by k_is)) (by k_is)) (L3.mtc_mk (by k_is) (L3.cls_mk (by k_is) (by k_is) (by k_is) (by k_is)) (by k_is)) (L3.mdp_mk (by k_is) (by k_is) (by k_is) (by k_is) (by first|exact .all (L3.us1 λ_=>rfl)|exact .all (L3.us2 λ_ _=>rfl)|exact .all (L3.us3 λ_ _ _=>rfl)|exact .all (L3.us4 λ_ _ _ _=>rfl)|exact .all (L3.us5 λ_ _ _ _ _=>rfl)|(refine L3.bd2 λ_ _ _ a=>?_;apply PySem.W.binds_K a rfl;k_is;all_goals rfl)|(refine L3.bd4 λ_ _ _ _ _ a=>?_;apply PySem.W.binds_K a rfl;k_is;all_goals rfl)))|exact L3.mkp_mk (by k_is) (by k_is) (by k_is) (by k_is) (L3.mdp_mk (by k_is) (by k_is) (by k_is) (by k_is) (by first|exact .all (L3.us1 λ_=>rfl)|exact .all (L3.us2 λ_ _=>rfl)|exact .all (L3.us3 λ_ _ _=>rfl)|exact .all (L3.us4 λ_ _ _ _=>rfl)|exact .all (L3.us5 λ_ _ _ _ _=>rfl)|(refine L3.bd2 λ_ _ _ a=>?_;apply PySem.W.binds_K a rfl;k_is;all_goals rfl)|(refine L3.bd4 λ_ _ _ _ _ a=>?_;apply PySem.W.binds_K a rfl;k_is;all_goals rfl)))|exact L3.cmp_mk (by k_is) (by k_is) (by k_is) (by k_is) (L3.mdp_mk (by k_is) (by k_is) (by k_is) (by k_is) (by first|exact .all (L3.us1 λ_=>rfl)|exact .all (L3.us2 λ_ _=>rfl)|exact .all (L3.us3 λ_ _ _=>rfl)|exact .all (L3.us4 λ_ _ _ _=>rfl)|exact .all (L3.us5 λ_ _ _ _ _=>rfl)|(refine L3.bd2 λ_ _ _ a=>?_;apply PySem.W.binds_K a rfl;k_is;all_goals rfl)|(refine L3.bd4 λ_ _ _ _ _ a=>?_;apply PySem.W.binds_K a rfl;k_is;all_goals rfl)))|exact L3.fldk_cons (by k_is) (L3.cls_mk (by k_is) (by k_is) (by k_is) (by k_is)) (by k_is) L3.fldk_nil|exact L3.mkd_mk (by k_is) (by k_is) (by k_is) (by k_is) (by k_is) (by k_is) (by k_is) (by k_is) (by(refine L3.bd3 λ_ _ _ _ a=>?_;apply PySem.W.binds_K a rfl;k_is;all_goals rfl))
  all_goals try (first|k_is|k_exc|kit_is|kts_exm)
  all_goals decide
