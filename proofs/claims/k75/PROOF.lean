import PyProof.Rows.All
import Wide.All
import OpenK.AllK
import Wide.FinOn
import Lean
import PyProof.EqAt
import PyProof.EqKinds
import PyProof.TupleCall
import KE.KRevIter
import KE.KRevSl
import PyProof.AttrMiss
import KE.KDictOf
import PyProof.FactsAll.enumerate
import PyProof.FactsAll.zip
import PyProof.ListRange
import PyProof.FactsAll.list_1
import KE.KDictList
import PyProof.StrOps2
import PyProof.Rows.SetFrom
import PyProof.CollectStr
import PyProof.Rows.SortWalk
import KE.KSortTup
import KE.KDictList
import PyProof.FactsAll.range_2
import PyProof.P3Eq
import KE.KEqDict
import PyProof.Rows.Range3
import PySem.Challenge.RW_turnguard_k75_whole_no_wrong_answer
set_option Elab.async false
set_option linter.all false
set_option maxRecDepth 100000
def au:=@PySem.wpAny_bind
def aW:=@PySem.wpAny_pure
def eS:=@PySem.Heap.get?_push_of_some
def jB:=@PySem.Heap.get?_push_size
def gq{α:Type}{l:List α}{i:Nat}{a:α}(h:l[i]?=some a):∃h:i<l.length,l[i]=a:=List.getElem?_eq_some_iff.mp h
def iR{α:Type}{l:List α}{i:Nat}(h:i<l.length):l[i]?=some l[i]:=List.getElem?_eq_getElem h
def jd{α:Type}{l:List α}{i:Nat}{a:α}(h:l[i]?=some a):a∈l:=List.mem_of_getElem? h
def xm{α:Type}{l:List α}{i:Nat}{a:α}:l.getD i a=l[i]?.getD a:=List.getD_eq_getElem?_getD
def lI:¬(false=true):=Bool.false_ne_true
noncomputable section
namespace Internal
def WL.u{α}:Lean.MacroM α:=Lean.Macro.throwUnsupported
set_option tactic.hygienic false
local macro_rules (kind:=Lean.Parser.Command.declaration) | x=>match x[1][0] with|.atom (.original ..) v=>(do let n ← Lean.Macro.getCurrNamespace;let y:=x.modifyArg 1 (·.modifyArg 0 λ_=>.atom .none v);let y:=if v=="def"&&x[0].getArgs.all (·.getNumArgs==0)&&(n++x[1][1][0].getId).components.all (λc=>not ([`WL,`WK].contains c)) then y.modifyArg 0 (·.setArg 4 (Lean.mkNullNode (.singleton (Lean.mkNode `Lean.Parser.Command.noncomputable (.singleton (Lean.mkAtom "noncomputable")))))) else y;if (x.find? λz=>[`Lean.Elab.Tactic.Ext.ext,`Lean.Parser.Tactic.renameI,`Lean.Parser.Tactic.case].contains z.getKind).isSome then return (← `(set_option tactic.hygienic true in $(⟨y⟩):command)).raw else return y)|_=>WL.u
def WL.o(s:Lean.Syntax):Bool:=match s.getHeadInfo with|.original ..=>true|_=>false
theorem WL.a(h:True:=by intros;rfl):True:=h
theorem WL.b(h:True:=by decide):True:=h
theorem WL.c(h:True:=by decide+kernel):True:=h
theorem WL.d(h:True:=by walk_at "or"):True:=h
theorem WL.l{a:Sort u}{b:a}{p:Prop}:b=b∨p:=.inl rfl
theorem WL.r{a:Sort u}{b:a}{p:Prop}:p∨b=b:=.inr rfl
open Lean in
def WL.f(c d:Name)(x:Syntax):MacroM Syntax:=if WL.o x then let y:Term:=⟨x[if x[0].isAtom then 1 else 0]⟩;return Syntax.mkApp (if c==`ref then ⟨mkNode `Lean.Parser.Term.dotIdent #[mkAtom ".",mkIdent c]⟩ else mkIdent c) (if d==c then .singleton y else ((Array.empty.push y).push (mkIdent d))) else WL.u
local macro_rules (kind:=coeFunNotation) | x=>WL.f `autoParam `WL.a._auto_1 x
local macro_rules (kind:=coeSortNotation) | x=>WL.f `autoParam `WL.b._auto_1 x
local macro_rules (kind:=«term_⁻¹») | x=>WL.f `autoParam `WL.c._auto_1 x
local macro_rules (kind:=«term‹_›») | x=>WL.f `autoParam `WL.d._auto_1 x
local macro_rules (kind:=Lean.Parser.Tactic.show) | x=>if WL.o x then return (x.setKind `Lean.Parser.Tactic.refine).setArg 0 (Lean.mkAtom "refine") else WL.u
local macro_rules | `(tactic| case' $i:ident=>$s)=>if i.getId==`z then `(tactic| ($s)) else WL.u
namespace WK
open Lean in
def ids(c:String):Array Ident:=((c.drop 1).toString.splitOn ",").toArray.map λx=>mkIdent (.mkSimple x)
open Lean in
def one(c:String):MacroM (TSyntax `tactic):=do
 if c == "a" then `(tactic| assumption) else if c == "o" then `(tactic| omega) else if c == "r" then `(tactic| rfl) else if c == "d" then `(tactic| decide)
 else if c.startsWith "~" then `(tactic| try clear $(ids c)*) else if c.startsWith "^" then `(tactic| intro $(ids c)*) else if c.startsWith "?" then `(tactic| fail_if_success clear $(ids c)*)
 else if c.startsWith "@" then `(tactic| walk_at $(Syntax.mkStrLit (c.drop 1).toString)) else if c.startsWith "=" then `(tactic| with_reducible apply $(mkIdent (.mkSimple (c.drop 1).toString)))
 else if c.startsWith "*/" then `(tactic| apply $(mkIdent (c.drop 2).toString.toName)) else if c.startsWith "*" then `(tactic| apply $(mkIdent (`L2++(c.drop 1).toString.toName)))
 else if c.startsWith "!" then `(tactic| exact $(mkIdent (`L2++(c.drop 1).toString.toName)))
 else `(tactic| with_reducible apply $(mkIdent (.str `L2 c)))
open Lean in
def alt(w : String): MacroM (TSyntax `tactic):=do
  let ws:=(w.splitOn " ").toArray;let mut t ← one ws[0]!
  for c in ws[1:] do
    if c=="%" then t ← `(tactic| ($t:tactic;rotate_left;intro _ _;rotate_left))
    else if c=="&" then t ← `(tactic| ($t:tactic<;>intro _))
    else if c.startsWith "!" then
      for _ in[0:(c.drop 1).toString.toNat!] do t ← `(tactic| ($t:tactic;intro _))
    else if c.startsWith "~" || c.startsWith "^" then
      let u ← one c
      t ← `(tactic| ($t:tactic;$u:tactic))
    else
      let u ← if c == "a" || c == "o" || c == "r" || c == "d" then one c else `(tactic| walk_at $(Syntax.mkStrLit c))
      t ← `(tactic| ($t:tactic;(focus $u:tactic)))
  return t
open Lean in
def tab:String:="look:a;*gX.self a;*gX.keep a look;*mT.self a;*mT.keep a neq look;*az.at a look\nneq:a;*/Ne.symm a;*gX.ne a look;*/Ne.symm ne1;*cJ look look ic\nne1:*gX.ne a look\nsq:a;*fj.sq a;*bI.of look;*dD.of look;*az.seq a sq;*az.seq ns sq\nns:*gX.same a\nsame:*az.refl;a;*az.trF ns same;*az.trF a same;*mT.same a sf sf\nsf:@same;@free\nfree:a;*gX.none a free;*az.free a free;*gX.fst a;*gX.fr2 a same\ncond:o;d;*/And.intro o o;*/Or.inl an;*/Or.inr an;*/And.intro o od\nan:*/And.intro o o\nod:*/And.intro o d\nnxd:=abi ~abi,Qy,kt0,kf0;=Qy ~abi,Qy,kt0,kf0;=abA ~abA,nx0;=hnx1 ~hnx1,nx1;=hnx2 ~hnx2,nx2;=hnx3 ~hnx3,nx3;=hnx4 ~hnx4,nx4;=abI;=hct0;=hbk0;=hno1;=hct1;=hbk1;=hno2;=hct2;=hbk2\nnx:?abA ^nx0,abA;?hnx1 ^nx1,hnx1;?hnx2 ^nx2,hnx2;?hnx3 ^nx3,hnx3;^nx4,hnx4\nni:~abi,Qy,kt0,kf0 ^kt0,kf0,abi,Qy\nnl:?abI ^no0,bk0,ct0,abI,hbk0,hct0;?hno1 ^no1,bk1,ct1,hno1,hbk1,hct1;^no2,bk2,ct2,hno2,hbk2,hct2\nc2:*/Or.inl sq;*/Or.inr sq\nc3:*qE.int;*qE.bl;*qE.cB;*qE.str;*qE.tup look;*qE.lst look\nc6:a;d;o\ngo1:akD sq1|am3;TJ;s_c|aeT ni|aah;s_b;aek;aao;aap;ajM;ajN;Om;ajP;ajQ;ajR;ajS;ajT;api;apj|apk;ajO;apl;apm;apn;apo;apq;apr;apc;s_i cond;ael;amZ;am0;am1;am2|za0;zb0;aam;aan %;@nxd|W8;aaf;ajA;ajz;apa;s_u;amW;apb;amX;amY;ajC;s_call;Jg;uZ;ape;aem;W9;aak c0 !3;Og c0 !3;cj sq r|rX sq c1;Oh c0 r;apf c2 r r;am6 c2 r r;anb;aes;ana o o;ajH;ahL;ahN sq;ajL sq;ajJ sq r;ahM;ajK;aph;am8 c2;aeq c2 !3;ajI;am9 c3 r;anc sq|aen look len !2;ajZ;aj0;aj1;ahU;ahV;aj2 sq !3;aj3 sq r;Xi look look len !3;aew look look len !2;aav len;ank;anI;akB;acO;aj4 c2 !3;anl;aj5 sq;aj6 sq;aey|anm sq !3;aj9;aay look r !2;aj8;Oz;aka;aj7 r;Ov;Jl;DI;apg;am7;akC;Ca sq;ah6 look !3;akf;r9 look r;Xm look r;anu;akg|anH look;ah0;apw look;anw look;s_iEnum1;s_itE1 sq;s_split d len !3;aib;aic;ae3;aih;akP;aia !4;anP look;akO look;aid look !3;akh;anx look len !2;anz look len !2;ah8 !3|akK look;aki !3;akj;anD r;anE;aaF;anC sq !3;akd;ahZ;aeI r;aeK;anq;anr r;vW sq c5 !3;ahY;akc;ahX;ano sq|zc0 sq sq;zc1 sq sq;zc2 sq sq;zc3 sq sq|akm;anF look a a fld;akn;ako look a a fln flp !2;acQ;akp look a a fld;akq look fln flp !2;akr;ah3;aks look flm;anG;ah4;Tu;ajs;am4;am5;ajD c6;ajE c6|BZ &|ajF c6;ajG c6|GP &|B0 r;Oi r\nc1:r;*OJ\nc0:*/dz r\nor:*/WL.l;*/WL.r;a\nfld:!aii;!aij;!aik;!ail;!Ue;!Ug;!Uh;!Uj;!Ul;!Uo;!Uq;!Us\nflp:!aim;!ain;!aio;!afd;!afe;!afg;!afh;!Ui;!Uk;!Um;!Ur;!Ut;!OQ;!OR;!OS;!OT;!OU;!OV;!OW;!OX\nfln:!aip;!aiq;!air;!ais;!Ud;!T6;!T7;!T8;!T9;!Ua;!Ub;!Uc;*/Nat.zero_lt_succ\nflm:!aaI;!aaJ;!aaK;!aaL;!aaM;!aaN;!aaO"
open Lean in
def row(f:String->MacroM (TSyntax `tactic))(c:String):MacroM (TSyntax `tactic):=do
 for l in tab.splitOn "\n" do
  if l.startsWith (c++":") then
   let g ← ((l.drop (c.length+1)).toString.splitOn "|").toArray.mapM λx=>do
    let r ← (x.splitOn ";").toArray.mapM f
    `(tactic| case' $(mkIdent `z):ident=>first $[| $r:tactic]*)
   return ← `(tactic| first $[| $g:tactic]*)
 Macro.throwUnsupported
open Lean in
def find(c:String):MacroM (TSyntax `tactic):=do
 if c=="go" then `(tactic| repeat' $(← row (λw=>if w=="@nxd" then row alt "nxd" else alt w) "go1"):tactic)
 else row alt c
end WK
local macro_rules | `(tactic| walk_at $s:str)=>WK.find s.getString
set_option hygiene false in
local macro_rules | `($a->%$t$b)=>if WL.o t then `(∀z_:$a,$b) else WL.u
local macro_rules | `(#[])=>WL.u | `(#[%$t $a,*])=>if WL.o t then `(⟨$a,*⟩) else WL.u
local macro_rules | `(#v[$a,*])=>`(List.toArray [$a,*])
namespace WL
open Lean in
def rp:Nat->Term->MacroM (TSyntax `rcasesPat)
 | 0,_=>Macro.throwUnsupported
 | n+1,s=>do
  match s with
  | `(#[$a,*])=>do
   let b ← a.getElems.mapM (rp n)
   `(rcasesPat| ⟨$[$b:rcasesPat],*⟩)
  | `($i:ident)=>let i:Ident:=if i.getId==`Z then mkIdent `rfl else i;`(rcasesPat| $i:ident)
  | `(_)=>`(rcasesPat| _)
  | _=>Macro.throwUnsupported
end WL
namespace WL
open Lean
def rd(lm:Syntax)(sc:Name)(tb:List (Char×List String)):Nat->List Char×List Term->Term×List Char×List Term
 | k+1,(c::s,r)=>
  let wd:=(mkIdent (String.ofList (s.takeWhile (·!=' '))).toName,(s.dropWhile (·!=' ')).drop 1,r)
  let nm(s:List Char):Term:=Syntax.mkNumLit (toString (s.head!.toNat-48))
  let pv(n:Term):Term:=Syntax.mkApp (mkIdent `pv) (.singleton n)
  let nd:Term:=mkIdent (sc++`nd)
  if c.isDigit then (pv (nm [c]),s,r)
  else if c=='!' then (r.head!,s,r.tail)
  else if c=='\'' then (wd.1,wd.2)
  else if c=='#' then (nm s,s.tail,r)
  else if c=='&' then (pv (nm s),s.tail,r)
  else if c=='$' then (nd,s,r)
  else match tb.lookup c with
   | some (h::ws)=>
    let z:=ws.foldl (λz w=>
     let s:=z.2.1
     let q:Term×List Char×List Term:=if w=="e" then rd lm sc tb k z.2 else if w=="l" then let y:=rd lm sc tb k z.2;(⟨lm.setArg 1 (lm[1].setArg 3 y.1)⟩,y.2)
      else if w=="n" then (nm s,s.tail,z.2.2) else if w=="s" then (nd,z.2) else if w=="_" then (mkHole .missing,z.2) else if w=="!" then (z.2.2.head!,s,z.2.2.tail)
      else if w=="x" then (Syntax.mkApp (mkIdent (String.ofList (s.takeWhile (·!=' '))).toName) (.singleton (mkIdent `T)),(s.dropWhile (·!=' ')).drop 1,z.2.2) else (mkIdent w.toName,z.2)
     (z.1.push q.1,q.2)) (Array.empty,s,r)
    (Syntax.mkApp (mkIdent h.toName) z.1,z.2)
   | _=>(mkHole .missing,s,r)
 | _,z=>(mkHole .missing,z)
def tb:=("*aa,e,ai +aa,e,e -ao,e .ak,e,e /aG,_,x,hr,e :aD,e <aF,aA,e,af =bF,n,s,e >aN,e ?aY,e,e,aL @aa,af,ai Aaa,aE,e Bd7,n,s CaB,bf,e,af DaX,e EaF,aK,e,af Faf GbA,e Hb4,e IaF,aK,e,e JaS,bh,rfl,T.dY,BT.dX,e KbG,bR,e,aE Lc7,bM,rfl,e,e,e MeB,hr NaB,e,e,e OdW,bH,cL,cM,bN,e,e PaX,ai QbK,af RfL SbG,e,e,e TbQ.cz,!,!,!,!,rfl UbG,bR,e,af VaB,cP,e,af WaB,ia,e,e XPW.pt,e YaB,fk,e,e ZdR,e,e,e [bU,e,e,rfl ]bK,e ^aF,e,e,e _kP,iE,af `aB,bf,e,e abU,e,gT,rfl baa,af,e cjF,e,e dgS,e eiG,e,e,e,! fdJ,dZ,e,e,! gaa,aE,ai hfM,e,e,l,l ibG,lK,e,af jaB,cP,e,e kd7,n,! lbC,fm,e,cu,e maS,e,rfl,e,e,e naD,jo ojJ,e pbC,g9,e,e,cu qqI,e rbZ,iY,rfl,T.kW,BT.kR,e sdJ,e,e,e,! tdW,bH,mQ,mR,iX,e,e ubZ,e,rfl,e,e,e vHx,n,s,e,e,l,l,rfl,rfl wkg xaY,e,e,e yuN zvO,e,e {pQ,rfl,T.gn,e,rfl,rfl |AX,n,e,rfl,rfl,rfl }jh,e,e,e,e,rfl ~aE ¡aB,cP,af,e ¢gW,e,e £bC,g9,e,cu,e ¤aN,ai ¥jW,rfl,T.pZ,e,rfl ¦oq,e §mS ¨bG,bR,e,e ©jJ,T.nQ.c ªqD,e «bC,fm,e,e,cu ¬fM,bQ.pz,e,l,l ­lJ,bM,e,e ®lN,e,! ¯uS,bH,rH,rJ,yr,e,rfl,rfl °T.dY ±BT.dX ²lS,hr.units,e,e,! ³bG,yi,e,af ´aS,jY,rfl,T.iM,BT.iH,e µuK,e ¶f6.oz,!,e ·JS,K_,n,e,rfl,rfl,rfl,rfl ¸AY,T.Qv.c ¹aS,e,rfl,T.tS,BT.sF,e ºsO,e »lM,e,e,e,af,! ¼aB,mS,af,e ½oG,e,e ¾BX,e,e,e ¿rO ÀlK ÁGQ,rfl,T.Qu,e,rfl,rfl ÂT.Qt ÃBT.Jd ÄbQ.pz ÅBK,e ÆyE,hr.units ÇT.zf ÈBT.yv Éaba,n,s,e,e,rfl ÊbC,e,e,e,e ËGD ÌGk,e,e,rfl,rfl,rfl ÍyD ÎkQ,e,e,e,e ÏoA,_ ÐNN ÑDL,e,e,l,l,l ÒyF,T.iu.Cr,e,e,! ÓT.iu.Cq ÔXI,n,s,e,e,l,l,l,rfl,rfl ÕT.wI.c ÖrR ×jo ØrT ÙG7,hr.units ÚEi ÛEj,hr.units,e,e,e,rfl ÜyT,hr.units,rfl ÝAV ÞT.Qs ßBT.OL àGJ,e,e,e áNG âyz,rfl,T.oY,rfl,T.nv,e,rfl,rfl,rfl ãJu,rfl,T.nv,e,rfl,rfl äaA åGs æNL çGh,e,e èGg,e éNy,e êbR ëfm ìAY,e íyh,e îLa,e,e,e ïUY,rfl,rfl,T.Qs,e,af,rfl,rfl,rfl,rfl,rfl ðPX,hr.units,e,e,af,ZJ,! ñP4,e,rfl,rfl òlM,e,e,e,e,! óLv,T.j0.wA,e,e,e,! ôGj,rfl,e õuS,e,e,e,e,e,rfl,rfl öOl,e,e ÷aab,rfl,e,rfl,rfl øZw,e,e,set_list".splitOn " ").map λx=>(x.toList.head!,(x.drop 1).toString.splitOn ",")
end WL
set_option hygiene false in
local macro_rules | `(tactic| exists%$t $xs,*)=>do
 let x:=xs.getElems.toList
 if !WL.o t||x.length<4 then WL.u else
  let p ← WL.rp 9 x[2]!
  let l ← `(fun _ _ _ _=>p)
  let m:=(WL.rd l x[1]!.raw.getId WL.tb 99 ((x[3]!.raw.isStrLit?.getD "").toList,x.drop 5)).1
  let z:=Array.replicate (x[4]!.raw.isNatLit?.getD 0) (← `(_))
  `(tactic| (refine $(⟨x[0]!.raw⟩).F.ok $(x[1]!) ?_ ?_; (rintro vs H Q E $p; rfl); rintro cdv A outer s H vs Q E hr $p; refine ⟨_,$m,?_⟩; change(_:TS) (Ends.mk _ _ _ _) [$z,*] H; walk_at "start"))
local macro_rules | `(tactic| let $p:term:=$e)=>do `(tactic| obtain $(← WL.rp 9 p):rcasesPat:=$e)
local macro_rules | `(tactic| erw%$t [$[$r:term],*] $[$l:location]?)=>if WL.o t then `(tactic| simp only [$[$r:term],*] $[$l]?) else WL.u
local macro_rules | `($f ^%$t $x)=>do if !WL.o t||f.raw.isOfKind `num||f.raw.isOfKind `Lean.Parser.Term.typeAscription then WL.u else match f with | `($f $a*)=>`($f $a* $x) | _=>`($f $x)
local macro_rules | `(∅%$t)=>if WL.o t then `(by lia) else WL.u
local macro_rules | `((%$t))=>if WL.o t then `(by decide+kernel) else WL.u
local macro_rules (kind:=«term!_») | x=>WL.f `some `some x
local macro_rules (kind:=«term¬_») | x=>WL.f `ref `ref x
local macro_rules | `(tactic| let%$k $i:ident $[:$y]?:=$e)=>if WL.o k then `(tactic| have $i:ident $[:$y]?:=$e) else WL.u
local macro_rules | `(let%$k $i:ident $[:$y]?:=$e;$b)=>if WL.o k then `(have $i:ident $[:$y]?:=$e;$b) else WL.u
local macro_rules | `(tactic| ext%$t $[$x:ident]*)=>if WL.o t then `(tactic| rename_i $[$x:ident]*) else WL.u
local macro_rules | `(tactic| walk_at "sc")=>`(tactic| exact⟨rfl, rfl, rfl, by decide +kernel, rfl, by decide +kernel, by decide +kernel⟩)
theorem Z{a:Sort u}{b:a}:b=b:=rfl
def WL.ti:List (String×String):=[("B","s.heap.objs.size"),("M","Int"),("J","Value"),("O","Nat"),("ab","xs.length"),("ae","Addr"),("ag","true"),("am","s.heap"),("ap","Shared"),("aw","none"),("ax","X.env"),("bc","Str"),("bi","X.prog"),("bj","false"),("bn","s1.heap.objs.size"),("bo","kvs.length"),("bp","rs.length"),("bv","Row"),("ce","ys.length"),("cf","Bool"),("ci","ps.length"),("cn","es.size"),("cq","X.w"),("cv","Heap"),("cw","World"),("de","Program"),("dq","X.K"),("dr","Expr"),("dt","s2.heap.objs.size"),("du","Obj"),("dv","us.length"),("dA","vs.length"),("dC","h'.objs.size"),("dE","h.objs.size"),("dL","G.objs.size"),("d4","l.length"),("d6","s'.heap"),("eA","X.s₀.heap.objs.size"),("eC","r.length"),("eD","h1.objs.size"),("eI","ks.length")]
local macro_rules (kind:=ident) | x=>match x with|.ident _ _ (.str .anonymous s) _=>if s.length<3 then if s=="eL" then `(Prop) else match WL.ti.lookup s with|some n=>return Lean.mkIdent n.toName|_=>WL.u else WL.u|_=>WL.u
set_option bootstrap.genMatcherCode false
abbrev aC:=PySem.W.Frag
section
open PySem PySem.Spec PyProof.Rows
def kL:=@Around.under_plainId
def vL:=@Array.forIn_toList
def ig:=@Array.getElem?_eq_getElem
def vM:=@Array.getElem?_eq_none
def qj:=@Array.getElem?_eq_some_iff
def gG:=@Array.getElem?_toList
def dU:=@Array.length_toList
def qk:=@Bool.and_eq_true
def xT:=@Bool.false_and
def cK:=@Bool.false_eq_true
def g6:=@Bool.not_true
def xU:=@Calls.callWith_builtin
def BA:=@Calls.call_function_entry
def mH:=@Calls.spliced_cons
def nW:=@Calls.spliced_nil
def iS:=@Classical.byContradiction
def uB:=@Classical.not_not
def mJ:=@F.plain_max_loop
def BB:=@F.slot_tuple_iterator_next
def k9:=@Heap.SameBut.update
def iT:=@Heap.get?_update_ne
def jC:=@Heap.get?_update_other
def fz:=@Heap.get?_update_self
def aO:=@Heap.lt_size
def fJ:=@Heap.size_push
def lg:=@Int.toNat_natCast
def qy:=@List.Perm.refl
def lq:=@List.any_cons
def jD:=@List.append_assoc
def cZ:=@List.append_nil
def mK:=@List.cons_append
def BC:=@List.drop_eq_getElem_cons
def uC:=@List.drop_zero
def xV:=@List.ext_getElem?
def lu:=@List.filter_append
def xW:=@List.filter_cons_of_neg
def xX:=@List.filter_cons_of_pos
def j6:=@List.find?_cons
def xY:=@List.flatMap_append
def nX:=@List.flatMap_cons
def qz:=@List.forIn_cons
def BD:=@List.getElem?_append_left
def xZ:=@List.getElem?_append_right
def BE:=@List.getElem?_cons_zero
def iA:=@List.getElem?_eq_none
def bJ:=@List.getElem?_map
def uD:=@List.getElem?_take_of_lt
def mL:=@List.getElem?_toArray
def uE:=@List.getElem?_zip_eq_some
def x9:=@List.getElem_inj
def ya:=@List.getElem_map
def ly:=@List.getElem_mem
def aT:=@List.length_append
def ck:=@List.length_cons
def yc:=@List.length_drop
def BF:=@List.length_eq_zero_iff
def j7:=@List.length_filter_le
def aq:=@List.length_map
def uF:=@List.length_range
def lz:=@List.length_reverse
def iB:=@List.length_singleton
def cC:=@List.length_take
def bq:=@List.map_append
def cN:=@List.map_cons
def gI:=@List.map_map
def aM:=@List.mem_append
def j8:=@List.mem_append_left
def fS:=@List.mem_append_right
def aP:=@List.mem_cons
def d8:=@List.mem_cons_of_mem
def g7:=@List.mem_cons_self
def fT:=@List.mem_filter
def lA:=@List.mem_flatMap
def uG:=@List.mem_iff_getElem
def iC:=@List.mem_iff_getElem?
def aQ:=@List.mem_map
def uH:=@List.mem_map_of_mem
def gJ:=@List.mem_range
def aJ:=@List.mem_singleton
def fB:=@List.nodup_append
def iU:=@List.nodup_cons
def lB:=@List.nodup_nil
def d9:=@List.not_mem_nil
def uI:=@List.pairwise_cons
def nY:=@List.pairwise_iff_getElem
def BG:=@List.pairwise_lt_range
def nZ:=@List.pairwise_map
def yd:=@List.replicate_succ
def qA:=@List.reverse_cons
def bB:=@List.size_toArray
def b8:=@List.take_add_one
def b9:=@List.take_length
def oh:=@Nat.le_add_right
def dz:=@Nat.le_of_ble_eq_true
def iD:=@Nat.le_of_lt
def ay:=@Nat.le_refl
def gf:=@Nat.le_succ
def bP:=@Nat.le_trans
def gK:=@Nat.lt_irrefl
def qB:=@Nat.lt_of_le_of_lt
def cT:=@Nat.lt_of_lt_of_le
def dg:=@Nat.lt_or_ge
def je:=@Nat.lt_succ_of_lt
def fZ:=@Nat.lt_succ_self
def mO:=@Nat.min_eq_left
def pM:=@Nat.min_eq_right
def jL:=@Nat.ne_of_gt
def aU:=@Nat.ne_of_lt
def jf:=@Nat.not_lt_zero
def aV:=@Nat.zero_le
def aR:=@Ne.symm
def mP:=@Obj.cls_mapFields
def eT:=@Obj.data_mapFields
def jM:=@Obj.isFreed_of_fields
def cU:=@Option.map_eq_some_iff
def pN:=@Option.toList_some
def kM:=@Paired.length
def dG:=@Paired.mono
def eU:=@Paired.snoc
def bM:=@PassesOwn.never
def xo:=@PyProof.Rows.bitAnd_pp
def xq:=@PyProof.Rows.bitOr_and
def jN:=@PyProof.Rows.callWith_type1
def bH:=@PySem.F.plainAttrs_list
def rG:=@PySem.F.slot_dict_get
def cL:=@PySem.F.slot_list_append
def mQ:=@PySem.F.slot_list_extend
def rH:=@PySem.F.slot_list_pop
def cM:=@PySem.F.type_list_append
def mR:=@PySem.F.type_list_extend
def rJ:=@PySem.F.type_list_pop
def gR:=@PySem.W.kia_one
def kN:=@PySem.W.mg_of
def kO:=@PySem.mem_of_lookup
def gw:=@True.intro
end
open PySem PySem.Spec PyProof.Rows
variable {A:Around}{C I a b d dx f it l l1 l2:ae}{E:J->ap->eL}{K:aC}{P prog:de}{R:Result->ap->eL}{T:String}{an od:Option ae}{TB Uf pos QP tpos:Pos}{base h h':cv}{c e tg value:dr}{cd ct dc oc pm u:J}{cl:List (bc×ae)}{cs ns ss:List M}{ep i j k n t':O}{es:List dr}{fd:FuncData}{fp wr:List ae}{ix:List O}{kw:List (bc×J)}{led t1 t2:cf}{m name x:bc}{mg:bc->Option J}{p:Array O}{X1:List (ae×du)}{ps:List bc}{s:ap}{scope:Scope}{sl:Array^Option J}{st:Stmt}{us vs:List J}{w:cw}{ys:Array J}
namespace L2
variable {H:Hp}{o:HO}{ch:List ae}{N:List bc}{Yf:Model}{Q:J->ap->eL}{v y:V}{X:Cx}{op:CmpOp}{t te:TE}{D:Ends}{g:TG}{body:List Stmt}{tb:TS}{xs vs:List V}{f:J->J->Sem J}{r:R2}{pl:Sem cf}{CX:Ng}
abbrev Key:=Sum M bc
noncomputable def ye:Key->J->cf
 | .inl k,v=>Value.isInt k v
 | .inr x,v=>Value.isStrOf x v
noncomputable def ai9(w:cw):Key->M
 | .inl k=>hashInt k
 | .inr x=>hashStr w x
theorem eY:∀{k:Key}{v:J},ye k v=ag->(∃i t,k=Sum.inl i/\v=Value.int i t)\/(∃x t,k=Sum.inr x/\v=Value.str x t)
 | .inl i,v,h=>by
  let#[t,e]:=Value.isInt_shape (k:=i) (v:=v) h;show .inl #[i,t,Z,e]
 | .inr x,v,h=>by let#[t,e]:=Value.isStrOf_shape (x:=x) (v:=v) h;show .inr #[x,t,Z,e]
def KN(i:M)(t:Tok):ye (.inl i)^.int i t=true:=by simp[ye,Value.isInt]
def KO(x:bc)(t:Tok):ye (.inr x)^.str x t=true:=by simp[ye,Value.isStrOf]
def Zj(a b:M):decide ((Sum.inl a:Key)=Sum.inl b)=(a==b):=by by_cases e:a=b;subst e;simp;let h:Not ((Sum.inl a:Key)=Sum.inl b):=λq=>e^Sum.inl.inj q;rw[decide_eq_false h];show(beq_eq_false_iff_ne.mpr e).symm
def Zk(a b:bc):decide ((Sum.inr a:Key)=Sum.inr b)=decide (a=b):=by by_cases e:a=b;subst e;simp;let h:Not ((Sum.inr a:Key)=Sum.inr b):=λq=>e^Sum.inr.inj q;rw[decide_eq_false h,decide_eq_false e]
def Zl(a:M)(b:bc):decide ((Sum.inl a:Key)=Sum.inr b)=false:=decide_eq_false (λq=>nomatch q)
def Zm(a:bc)(b:M):decide ((Sum.inr a:Key)=Sum.inl b)=false:=decide_eq_false (λq=>nomatch q)
noncomputable def bT(prog:de)(w:cw):PySem.KeyKind prog w Key where
 is:=ye
 hash:=ai9 w
 inj:=λv a b ha hb=>by rcases eY ha with⟨i,t,rfl,rfl⟩|⟨x,t,rfl,rfl⟩;rcases eY hb with⟨j,u,rfl,e⟩|⟨y,u,rfl,e⟩;injection e with e1 _;rw[e1];show nomatch e;rcases eY hb with⟨j,u,rfl,e⟩|⟨y,u,rfl,e⟩;show nomatch e;injection e with e1 _;rw[e1]
 byValue:=λk v h=>by rcases eY h with⟨i,t,rfl,rfl⟩|⟨x,t,rfl,rfl⟩<;>rfl
 pyHash:=λhv h=>by rcases eY hv with⟨i,t,rfl,rfl⟩|⟨x,t,rfl,rfl⟩;show wpAny_pyHash_int h;show wpAny_pyHash_str h
 eqBool:=λhu hv h=>by rcases eY hu with⟨i,t,rfl,rfl⟩|⟨x,t,rfl,rfl⟩;rcases eY hv with⟨j,u,rfl,rfl⟩|⟨y,u,rfl,rfl⟩;rw[Zj] at h;show wpAny_eqBool_int h;rw[Zl] at h;show SeqAt.EqAt.int_str i t y u _ _ _ _ h;rcases eY hv with⟨j,u,rfl,rfl⟩|⟨y,u,rfl,rfl⟩;rw[Zm] at h;show SeqAt.EqAt.str_int x t j u _ _ _ _ h;rw[Zk] at h;show wpAny_eqBool_str h
 «strs»:=λk x t v h=>by rcases eY h with⟨i,u,rfl,e⟩|⟨y,u,rfl,e⟩;show nomatch e;injection e with e1 _;subst e1;cases v<;>rfl
def Ge(prog:de)(w:cw)(k:Key)(v:J):(bT prog w).is k v=ye k v:=rfl
def Dl(prog:de)(w:cw)(i:M)(t:Tok):(bT prog w).is (.inl i)^.int i t=true:=KN i t
def oj(prog:de)(w:cw)(x:bc)(t:Tok):(bT prog w).is (.inr x)^.str x t=true:=KO x t
inductive V where
 | cB|bl (b:Bool)|int (i:Int)|str (x:Str) | IJ (b:Array UInt8) | Zn (b:UInt64)|ref (a:Addr)|ty (n:String)
 deriving DecidableEq
def RelV:V->J->eL
 | .cB,u=>u=Value.none
 | .bl b,u=>u=Value.bool b
 | .int i,u=>∃t,u=Value.int i t
 | .str x,u=>∃t,u=Value.str x t
 | .IJ b,u=>∃t,u=Value.bytes b t
 | .Zn b,u=>∃t,u=Value.float b t
 | .ref a,u=>u=Value.ref a
 | .ty n,u=>u=Value.type n
abbrev Vals:List V->List J->Prop:=Paired RelV
theorem Vals.length{xs:List V}{us:List J}(r:Vals xs us):ab=us.length:=kM r
theorem Vals.get:∀{xs:List V}{us:List J}{i:O}{x:V},Vals xs us->xs[i]?=!x->∃u,us[i]?=!u/\RelV x u
 | _,_,_,_,.nil,e=>by simp at e
 | _,_,0,_,.cons r _,e=>by simp at e;subst e;show#[_,Z,r]
 | _,_,i+1,x,.cons _ t,e=>by let#[u,h1,h2]:=Vals.get (i:=i) (x:=x) t (by simpa using e);show#[u,by simpa using h1,h2]
theorem Vals.set{x:V}(r:RelV x u):∀{xs:List V}{us:List J}(i:O),Vals xs us->Vals (xs.set i x) (us.set i u)
 | _,_,_,.nil=>.nil
 | _,_,0,.cons _ t=>.cons r t
 | _,_,i+1,.cons q t=>.cons q^Vals.set r i t
def Vals.append:∀{xs ys:List V}{us ws:List J},Vals xs us->Vals ys ws->Vals (xs++ys) (us++ws):=by
 intro xs ys us ws h s;induction h with
 | nil=>show s
 | cons r t ih=>show .cons r ih
theorem Vals.take:∀{xs:List V}{us:List J}(n:O),Vals xs us->Vals (xs.take n)^us.take n:=by
 intro xs us n h;induction h generalizing n with
 | nil=>cases n<;>show .nil
 | cons r t ih =>
  cases n with
  | zero=>show .nil
  | succ n=>show .cons r^ih n
theorem Vals.drop:∀{xs:List V}{us:List J}(n:O),Vals xs us->Vals (xs.drop n)^us.drop n:=by
 intro xs us n h;induction h generalizing n with
 | nil=>cases n<;>show .nil
 | cons r t ih =>
  cases n with
  | zero=>show .cons r t
  | succ n=>show ih n
def lC:Option V->Option J->eL
 | some v,!u=>RelV v u
 | none,none=>True
 | _,_=>False
def KV{κ:Type}:List (κ×V)->List (κ×J)->Prop:=Paired λ(p:κ×V)(q:κ×J)=>p.1=q.1/\RelV p.2 q.2
noncomputable def kV:Key->V
 | .inl i=>.int i
 | .inr x=>.str x
inductive HO where
 | lst (xs:List V)
 | tup (xs:List V)
 | dK (kvs:List (Key×V))|dT (kvs:List (List Key×V))
 | set (S:Int->Bool) (n:Nat)
 | ins (C dx:Addr) (fs:List (Str×V))
 | own (x:Addr)
 | xd (fs:List (Str×V))
 | met (f x:Addr)
 | rng (lo hi:Int)
 | IK (o:Obj) (u:HO)
 | Zo (ps:Array Value)
 | ext (φ:Heap->Prop)
abbrev Hp:=ae->Option HO
noncomputable def upd(H:Hp)(a:ae)(o:HO):Hp:=λb=>if b=a then !o else H b
def j9:upd H a o a=!o:=by unfold upd;rw[if_pos Z]
def cg(h:b≠a):upd H a o b=H b:=by unfold upd;rw[if_neg h]
def cJ{u:HO}(h:H a=!o)(h':H b=!u)(d:o≠u):a≠b:=by intro e;subst e;rw[h] at h';show d^Option.some.inj h'
def aH(h:H a=!o)(h':H b=aw):a≠b:=by intro e;subst e;rw[h] at h';cases h'
section
variable (P:de)(w:cw)
def dQ(H:Hp)(h:cv)(a:ae):HO->eL
 | .lst xs=>ab<=sizeLine/\∃(XL:List J)(n:O),Vals xs XL/\h.get? a=!{ cls:=.type "list", data:=.seq XL.toArray n }
 | .tup xs=>ab<=sizeLine/\∃XL:List J,Vals xs XL/\IsTup h a XL.toArray
 | .dK kvs=>bo<=sizeLine/\(a==sysModules)=bj/\∃vs,KV kvs vs/\h.DictOf (bT P w) a vs
 | .dT kvs=>bo<=sizeLine/\(a==sysModules)=bj/\∃xs:List (List Key×ae×J),
   Paired (λ(p:List Key×V)(q:List Key×ae×J)=>p.1=q.1/\H q.2.1=!.tup^p.1.map kV/\RelV p.2 q.2.2) kvs xs /\
   ∃o es ep,h.get? a=!o/\o.ExactDict/\o.data=.dict es ep/\es.toList=xs.map^entryOfKey^tupleKind^bT P w/\(xs.map (·.1)).Nodup
 | .set S n=>h.SetOf (intKind P w) a S n
 | .ins C dx fs=>H dx=!.own a/\fs.length<=1000/\dx≠a/\h.get? a=!(PySem.W.instObj C dx) /\
   ∃mA,h.Ns1 dx mA/\(∀f,lC (fs.lookup f)^mA f)/\PySem.Within mA^fs.map (·.1)
 | .own _=>∃o,h.get? a=!o
 | .xd fs=>∃mA,h.Ns1 a mA/\∀f,lC (fs.lookup f)^mA f
 | .rng lo hi=>∃t u v,h.get? a=!{ cls:=.type "range", data:=.fields #v[.int lo t,.int hi u,.int 1 v] }
 | .IK o u=>h.get? a=!o/\dQ H h a u
 | .Zo ps=>h.get? a=!{ cls:=.none,data:=.fields ps }
 | .met f x=>h.get? a=!PySem.W.methodObj (¬f)^¬x
 | .ext φ=>φ h/\(∃o,h.get? a=!o)/\∀h1 h2:Heap,φ h1->(∀o,h1.get? a=!o->h2.get? a=!o)->φ h2
def qC(H:Hp)(h:cv):=∀a o,H a=!o->dQ P w H h a o
end
section
variable {H H':Hp}{o:HO}
theorem dQ.lt(x:dQ P w H h a o):a<h.objs.size:=by
 cases o with
 | lst xs=>let#[_,_,_,_,e]:=x;show aO e
 | tup xs=>let#[_,_,_,p]:=x;show p.lt
 | dK kvs=>let#[_,_,_,_,o,_,_,e,_]:=x;show aO e
 | dT kvs=>let#[_,_,_,_,o,_,_,e,_]:=x;show aO e
 | set S n=>let#[o,_,_,_,e,_]:=x;show aO e
 | ins C dx fs=>let#[_,_,_,e,_]:=x;show aO e
 | own y=>let#[_,e]:=x;show aO e
 | xd fs=>let#[_,#[_,_,_,e,_],_]:=x;show aO e
 | rng lo hi=>let#[_,_,_,e]:=x;show aO e
 | IK ob u=>let#[e,_]:=x;show aO e
 | Zo ps=>show aO (show h.get? a=!_ from x)
 | met f y=>show aO (show h.get? a=!_ from x)
 | ext φ=>let#[_,#[_,e],_]:=x;show aO e
def Paired.KP{α β:Type}{F G:α->β->eL}:∀{l₁:List α}{l₂:List β},Paired F l₁ l₂->(∀a b,F a b->G a b)->Paired G l₁ l₂:=by
 intro l₁ l₂ h f;induction h with
 | nil=>show .nil
 | cons r t ih=>show .cons (f _ _ r) ih
def dQ.stay(x:dQ P w H h a o)(k:∀b u,(b=a\/H b=!.own a)->h.get? b=!u->h'.get? b=!u)
  (ho:∀b,H b=!.own a->H' b=!.own a)(ht:∀b xs,H b=!.tup xs->H' b=!.tup xs):dQ P w H' h' a o:=by
 induction o with
 | lst xs=>let#[z,XL,n,r,e]:=x;show#[z,XL,n,r,k _ _ (.inl Z) e]
 | tup xs=>let#[z,XL,r,ob,e,c]:=x;show#[z,XL,r,ob,k _ _ (.inl Z) e,c]
 | dK kvs=>let#[z,y,vs,r,ob,es,ep,e,c]:=x;show#[z,y,vs,r,ob,es,ep,k _ _ (.inl Z) e,c]
 | dT kvs =>
  let#[z,y,xs,r,ob,es,ep,e,c]:=x;show#[z,y,xs,Paired.KP r λp q z=>#[z.1,ht _ _ z.2.1,z.2.2],ob,es,ep,k _ _ (.inl Z) e,c]
 | set S n=>let#[ob,es,ep,t,e,c]:=x;show#[ob,es,ep,t,k _ _ (.inl Z) e,c]
 | ins C dx fs =>
  let#[d,z,ne,e,mA,#[od,es,ep,e2,c],r]:=x;show#[ho _ d,z,ne,k _ _ (.inl Z) e,mA,#[od,es,ep,k _ _ (.inr d) e2,c],r]
 | own y=>let#[ob,e]:=x;show#[ob,k _ _ (.inl Z) e]
 | xd fs=>let#[mA,#[od,es,ep,e,c],r]:=x;show#[mA,#[od,es,ep,k _ _ (.inl Z) e,c],r]
 | rng lo hi=>let#[t,u,v,e]:=x;show#[t,u,v,k _ _ (.inl Z) e]
 | IK ob u ih=>let#[e,q]:=x;show#[k _ _ (.inl Z) e,ih q]
 | Zo ps =>
  let e:h.get? a=!{ cls:=.none,data:=.fields ps }:=x;change h'.get? a=!{ cls:=.none,data:=.fields ps };show k a _ (.inl Z) e
 | met f y =>
  let e:h.get? a=!PySem.W.methodObj (¬f)^¬y:=x;change h'.get? a=!PySem.W.methodObj (¬f)^¬y;show k a _ (.inl Z) e
 | ext φ=>let#[p,#[o,e],st]:=x;show#[st _ _ p λo q=>k _ _ (.inl Z) q,#[o,k _ _ (.inl Z) e],st]
theorem qC.lt(x:qC P w H h)(e:H a=!o):a<h.objs.size:=(x a o e).lt
def qC.fresh(x:qC P w H h)(e:dE<=a):H a=none:=by
 cases q:H a with
 | none=>rfl
 | some u=>show absurd (cT (x.lt q) e)^gK _
def qC.kept(x:qC P w H h)(k:∀b u,h.get? b=!u->h'.get? b=!u):qC P w H h':=λa o e =>
 (x a o e).stay (λb u z q=>k b u q) (λz q=>q) λz z q=>q
def qC.laid(x:qC P w H h)(k:∀b u,h.get? b=!u->h'.get? b=!u)(hp:dE<=a)(new:dQ P w (upd H a o) h' a o):qC P w (upd H a o) h':=λb u e=>by
 let hn:=x.fresh hp;by_cases hb:b=a;subst hb;rw[j9] at e;cases e;show new
 .rw[cg hb] at e;show(x b u e).stay (λc v z q=>k c v q) (λc q=>by rw[cg^aH q hn];show q) λc xs q=>by rw[cg^aH q hn];show q
end
def Rd(H:Hp)(a:ae)(u:HO):=H a=!u\/∃o,H a=!.IK o u
def Rd.ok{u:HO}(r:Rd H a u)(x:qC P w H h):dQ P w H h a u:=by rcases r with r|⟨o,r⟩;show x a u r;let#[_,q]:=x a _ r;show q
def Mut:Option HO->eL
 | some (.lst _)=>True
 | some (.dK _)=>True
 | some (.dT _)=>True
 | some (.set _ _)=>True
 | some (.ins _ _ _)=>True
 | some (.ext _)=>True
 | _=>False
section
variable {H:Hp}{x e:ae}{o':HO}
def qC.write(ok:qC P w H h)(mu:Mut^H x)(he:e=x\/H e=!.own x)(k:∀b u,b≠e->h.get? b=!u->h'.get? b=!u)(heo:∃u,h'.get? e=!u)
  (new:dQ P w (upd H x o') h' x o'):qC P w (upd H x o') h':=λb u q=>by
 let adG:∀c y,H c=!.own y->c≠x:=λc y r z=>by subst z;rw[r] at mu;show mu
 let ajb:∀c xs,H c=!.tup xs->c≠x:=λc xs r z=>by subst z;rw[r] at mu;show mu
 by_cases hb:b=x;subst hb;rw[j9] at q;cases q;show new
 .rw[cg hb] at q;by_cases WJ:b=e
  .have q':H b=!.own x:=by rcases he with z|z;show absurd (WJ.trans z) hb;rw[WJ];show z
   rw[q] at q';cases q';let#[v,hv]:=heo;show#[v,by rw[WJ];show hv]
  .show(ok b u q).stay (λc v hc r=>k c v ?_ r) (λc r=>by rw[cg^adG c b r];show r) λc xs r=>by rw[cg^ajb c xs r];show r
   rcases hc with rfl|hc;show WJ;rintro rfl;rcases he with z|z;show adG c b hc z;rw[hc] at z;cases z;show hb Z
end
structure Un (fs ex:List Addr) (H H':Hp) (h h':Heap):Prop where
 keep:∀b o,h.get? b=!o->H b=none->b∉fs->b∉ex->h'.get? b=!o
 slot:∀b o,h.get? b=!o->H b=none->b∈fs->b∉ex->∃sl,h'.get? b=!{ o with slots:=sl }
 free:∀b o,h.get? b=!o->H b=none->b∉ex->H' b=none
 there:∀b o,h.get? b=!o->b∉ex->∃o',h'.get? b=!o'
 tups:∀b xs,H b=!.tup xs->H' b=!(.tup xs)
 BH:∀b o u,H b=!.IK o u->H' b=!(.IK o u)
 Dm:∀b ps,H b=!.Zo ps->∃more,H' b=!.Zo (ps++more)
section
variable {fs IN ex ex':List ae}{H H1 H2:Hp}{h1 h2:cv}{x e:ae}{o:HO}
def Un.any(u:Un fs ex H H1 h h1){ob:du}(q:h.get? b=!ob)(n:H b=aw)(hx:b∉ex):∃sl,h1.get? b=!{ ob with slots:=sl }:=by by_cases hb:b∈fs;show u.slot b ob q n hb hx;show#[ob.slots,u.keep b ob q n hb hx]
def Un.kept(k:∀b u,h.get? b=!u->h'.get? b=!u):Un fs ex H H h h' :=
 #[λb ob q z z z=>k b ob q,λb ob q z z z=>#[ob.slots,k b ob q],λz z z n z=>n,λb ob q z=>#[ob,k b ob q],λz z q=>q,λz z z q=>q,λz ps q=>#[#[],by rw[q];simp]]
def Un.refl:Un fs ex H H h h:=Un.kept λz z q=>q
def Un.laid(k:∀b u,h.get? b=!u->h'.get? b=!u)(hp:dE<=a)(hn:H a=aw):Un fs ex H (upd H a o) h h' where
 keep:=λb u q z z z=>k b u q
 slot:=λb u q z z z=>#[u.slots,k b u q]
 free:=λb u q n z=>by rw[cg^aU^cT (aO q) hp];show n
 there:=λb u q z=>#[u,k b u q]
 tups:=λb xs q=>by rw[cg^aH q hn];show q
 BH:=λb u xs q=>by rw[cg^aH q hn];show q
 Dm:=λb ps q=>#[#[],by rw[cg^aH q hn,q];simp]
def Un.write(mu:Mut^H x)(he:e=x\/H e=!.own x)(k:∀b u,b≠e->h.get? b=!u->h'.get? b=!u)(heo:∃u,h'.get? e=!u):Un fs ex H (upd H x o) h h':=by
 let hx:∀b,H b=aw->b≠x:=λb n z=>by subst z;rw[n] at mu;show mu
 let hb:∀b,H b=aw->b≠e:=λb n z=>by subst z;rcases he with r|r;show hx b n r;rw[n] at r;cases r
 let hm:∀b u,H b=!u->Not (Mut^!u)->b≠x:=λb u q nm z=>by subst z;rw[q] at mu;show nm mu
 show#[λb u q n j j=>k b u (hb b n) q,λb u q n j j=>#[u.slots,k b u (hb b n) q],λb u q n j=>by rw[cg^hx b n];show n,λb u q j=>?_,
  λb xs q=>by rw[cg (hm b _ q λz=>z)];show q,λb u xs q=>by rw[cg (hm b _ q λz=>z)];show q,λb ps q=>#[#[],by rw[cg (hm b _ q λz=>z),q];simp]]
 by_cases WJ:b=e;subst WJ;show heo;show#[u,k b u WJ q]
end
noncomputable def trk(h:cv)(H:Hp):List Addr:=(List.range dE).filter λa=>(H a).isSome
def BI(h:cv)(H:Hp):Heap:=PySem.W.hideAll h^trk h H
def KQ(h:cv)(H:Hp):(BI h H).objs.size=h.objs.size:=PySem.W.hideAll_size _ _
def Nt{o:du}(e:h.get? b=!o)(n:H b=aw):(BI h H).get? b=!o :=
 PySem.W.hideAll_get _ e λhm=>by let q:(H b).isSome=true:=(fT.mp hm).2;rw[n] at q;simp at q
def S5{o:du}(e:(BI h H).get? b=!o):h.get? b=!o/\H b=none:=by
 let e':h.get? b=!o:=PySem.W.of_hideAll (trk h H) e;show#[e',?_];cases q:H b with
 | none=>rfl
 | some x =>
  let hm:b∈trk h H:=fT.mpr #[gJ.mpr^aO e',by simp[q]];let z:(BI h H).get? b=none:=PySem.W.hideAll_none (trk h H) hm;rw[z] at e;cases e
noncomputable def S6(g h:cv)(L:ae):List (ae×du):=(List.range dE).filterMap λa=>if a=L\/(g.get? a).isSome=ag then none else(h.get? a).map λo=>(a,o)
noncomputable def rest(g h:cv)(L d:ae):List (ae×du):=(S6 g h L).filter λp=>decide (p.1≠d)
structure Mod (K:aC) (mg:Str->Option Value) (base:Heap):Prop where
 Zp:K.In base
 glob:base.Ns mainGlobals mg
 blt:∃mb,base.Ns builtinsNs mb/\∀x:Str,x ≠ "__name__" -> mb x=bootBuiltins x
 nolimit:base.NoLimit
structure Cx where
 prog:Program
 w:World
 K:aC
 mg:Str->Option Value
 base:Heap
 A:Around
 N:List Str
 s₀:Shared
 H₀:Hp
 env:Env
 outer:List Env
 stack:List Env
 ex:List Addr
 fn:Str->Bool
 calm:Bool
 pn:List (Addr×Obj)
 xe:Value->Shared->Prop
noncomputable def frs(l:List Env):List Addr:=l.filterMap (·.frame)
abbrev Cx.fs(X:Cx):List Addr:=frs X.outer
def Vis(sc:Scope)(x:bc):=sc.names.lookup x=!.local\/sc.names.lookup x=!.cell\/sc.names.lookup x=!.free
def Loc(sc:Scope)(x:bc):=sc.names.lookup x=!.local\/sc.names.lookup x=!.cell
def Look(env:Env)(h:cv)(m:bc->Option J)(x:bc)(u:J):eL :=
 (env.kindOf x=!.local/\m x=!u)\/((env.kindOf x=!.cell\/env.kindOf x=!.free)/\∃c,env.cells.lookup x=!c/\h.IsCell c^!u)
structure Cx.Ok (X:Cx):Prop where
 mod:Mod X.K X.mg X.base
 kind:X.env.scope.kind=.function
 glob:X.env.globals=mainGlobals
 blt:X.env.builtins=builtinsNs
 above:X.s₀.heap.objs.size<=X.env.locals
 inj:∀x y c,X.env.cells.lookup x=!c->X.env.cells.lookup y=!c->x=y
 has:∀x,(X.env.kindOf x=!.cell\/X.env.kindOf x=!.free)->∃c,X.env.cells.lookup x=!c
 cab:∀x c,X.fn x=true->X.env.cells.lookup x=!c->X.s₀.heap.objs.size<=c
 hd:X.calm=true->X.A.handled=none
 frames:X.A.frames=!X.stack
 stk:X.stack=X.outer\/(X.stack=X.env::X.outer/\X.env.frame=!X.env.locals)
 exf:∀b∈X.ex,b≠X.env.locals/\∀x c,X.env.cells.lookup x=!c->c≠b
 bs:∀b o,X.base.get? b=!o->X.s₀.heap.get? b=!o/\X.H₀ b=none
 WL:X.base.objs.size<=X.s₀.heap.objs.size
 Nu:∀b o,X.base.get? b=!o->b∉X.ex
 Nv:∀b∈X.ex,b∉X.fs
 wX:X.s₀.heap.FunFrames X.base X.outer
 Zq:∀b∈X.fs,X.H₀ b=none
structure Inv (X:Cx) (X1:List (Addr×Obj)) (Y:List^Option V) (H:Hp) (s:Shared):Prop where
 ok:X.Ok
 os:s.os=X.s₀.os
 bare:AllBare s.gens
 base:Un X.fs X.ex X.H₀ H X.s₀.heap s.heap
 loc:∃m,s.heap.Ns X.env.locals m/\∀(i:Nat)(x:Str)(v:V),X.N[i]?=!x->Y[i]?=!!v->Vis X.env.scope x->∃u,RelV v u/\Look X.env s.heap m x u
 cell:∀x c,X.env.cells.lookup x=!c->∃v,s.heap.IsCell c v
 free:H X.env.locals=none
 om:∀x c,X.env.cells.lookup x=!c->H c=none
 pin:∀p∈X.pn++X1,s.heap.get? p.1=!p.2/\H p.1=none/\p.1≠X.env.locals/\p.1∉X.fs/\∀v,p.2.data≠.cell v
 hok:qC X.prog X.w H s.heap
 len:Y.length=X.N.length
section
variable {X:Cx}{Y:List^Option V}{H H':Hp}
def Cx.Ok.ajc(ok:X.Ok){o:du}(e:X.base.get? b=!o):b∉X.fs:=λhb=>by have:=(ok.wX.mem hb).1;rw[e] at this;cases this
theorem Inv.bs(I:Inv X X1 Y H s):∀b o,X.base.get? b=!o->s.heap.get? b=!o/\H b=none:=λb o e =>
 #[I.base.keep b o (I.ok.bs b o e).1 (I.ok.bs b o e).2 (I.ok.ajc e)^I.ok.Nu b o e,I.base.free b o (I.ok.bs b o e).1 (I.ok.bs b o e).2^I.ok.Nu b o e]
def Inv.bk(I:Inv X X1 Y H s):∀b o,X.base.get? b=!o->s.heap.get? b=!o:=λb o e=>(I.bs b o e).1
theorem Inv.mod(I:Inv X X1 Y H s):Mod dq X.mg X.base:=I.ok.mod
def Inv.rK(I:Inv X X1 Y H s):X.K.In s.heap:=I.ok.mod.Zp.keeps I.bk
theorem Inv.lt(I:Inv X X1 Y H s):X.env.locals<s.heap.objs.size:=let⟨_,hn,_⟩:=I.loc;hn.lt
def Inv.sz(I:Inv X X1 Y H s):eA<=s.heap.objs.size:=bP I.ok.above^iD I.lt
def Inv.adI(I:Inv X X1 Y H s)(h:B<=a):a∉X.fs:=λhb=>by let#[_,o,ho,_]:=I.ok.wX.mem hb;show absurd (cT (aO ho)^bP I.sz h)^gK _
def Inv.Zr(I:Inv X X1 Y H s):∀x c,X.env.cells.lookup x=!c->c≠X.env.locals:=λx c e z=>by let#[v,o,ho,hd]:=I.cell x c e;let#[m,#[o',es,ep,He,hd',_],_]:=I.loc;rw[z,He] at ho;cases ho;rw[hd'] at hd;cases hd
theorem Inv.wX(I:Inv X X1 Y H s):s.heap.FunFrames X.base X.outer:=by
 let all:∀(l:List Env),(∀b∈frs l,b∈X.fs)->X.s₀.heap.FunFrames X.base l->s.heap.FunFrames X.base l:=by
  intro l;induction l with
  | nil=>intro _ _;trivial
  | cons env r ih =>
   intro hs hl;let#[hk,#[L,o,hf,hn,ho,hd],hr]:=hl;let hL:L∈X.fs:=hs L (by unfold frs;rw[List.filterMap_cons,hf];show g7);let#[sl,e]:=I.base.slot L o ho (I.ok.Zq L hL) hL λz=>I.ok.Nv L z hL;show#[hk,#[L,_,hf,hn,e,hd],ih (λb hb=>hs b (by unfold frs;rw[List.filterMap_cons,hf];show d8 _ hb)) hr]
 show all X.outer (λq hb=>hb) I.ok.wX
theorem Inv.stack(I:Inv X X1 Y H s):s.heap.FunFrames X.base X.stack:=by rcases I.ok.stk with e|⟨e,hf⟩;rw[e];show I.wX;rw[e];let#[m,hn,_]:=I.loc;show .cons (by rw[I.ok.kind];decide) hf hn ?_ I.wX;show Heap.get?_none_of_le^bP I.ok.WL I.ok.above
def Inv.Gf(I:Inv X X1 Y H s):∀b∈frs X.stack,b∈X.env.locals::X.fs:=λb hb=>by rcases I.ok.stk with e|⟨e,hf⟩;rw[e] at hb;show d8 _ hb;rw[e] at hb;unfold frs at hb;rw[List.filterMap_cons,hf] at hb;show hb
def Inv.IL(I:Inv X X1 Y H s):∀b∈frs X.stack,H b=none:=λb hb=>by rcases aP.mp^I.Gf b hb with e|hb;rw[e];show I.free;let#[_,o,ho,_]:=I.ok.wX.mem hb;show I.base.free b o ho (I.ok.Zq b hb) λz=>I.ok.Nv b z hb
def Inv.step{g':Array GenState}{d':Drawn}(I:Inv X X1 Y H s)
  (PP:∀b∈ch,(b∈X.ex\/eA<=b)/\b≠X.env.locals/\(∀x c,X.env.cells.lookup x=!c->c≠b)/\∀p∈X.pn++X1,p.1≠b)
  (keep:∀b o,b≠X.env.locals->b∉X.fs->b∉ch->s.heap.get? b=!o->H b=aw->h'.get? b=!o)
  (slot:∀b o,b≠X.env.locals->b∈X.fs->b∉ch->s.heap.get? b=!o->H b=aw->∃sl,h'.get? b=!{ o with slots:=sl })(free:∀b o,b∉ch->s.heap.get? b=!o->H b=aw->H' b=aw)
  (there:∀b o,b∉ch->s.heap.get? b=!o->∃o',h'.get? b=!o')
  (tups:∀b xs,H b=!.tup xs->H' b=!.tup xs)(BH:∀b o u,H b=!.IK o u->H' b=!.IK o u)(Dm:∀b ps,H b=!.Zo ps->∃more,H' b=!.Zo (ps++more))
  (ns:∀m,s.heap.Ns X.env.locals m->h'.Ns X.env.locals m)(hok:qC bi cq H' h')(hg:AllBare g'):
  Inv X X1 Y H' { s with heap:=h',gens:=g',drawn:=d',toks:=t' }:=by
 let neL:∀b o,X.s₀.heap.get? b=!o->b≠X.env.locals:=λb o e=>aU^cT (aO e) I.ok.above;let neC:∀b o,X.s₀.heap.get? b=!o->b∉X.ex->b∉ch:=λb o e hx hb=>by rcases(PP b hb).1 with z|z;show hx z;show absurd (cT (aO e) z)^gK _
 let cellK:∀x c,X.env.cells.lookup x=!c->∀v,s.heap.IsCell c v->h'.IsCell c v:=λx c e v ⟨o,ho,hd⟩=>by let nch:c∉ch:=λz=>(PP c z).2.2.1 x c e Z;by_cases hc:c∈X.fs;let#[sl,q]:=slot c o (I.Zr x c e) hc nch ho^I.om x c e;show#[_,q,hd];show#[o,keep c o (I.Zr x c e) hc nch ho^I.om x c e,hd]
 show#[I.ok,I.os,hg,#[λb o e n hb hx=>?_,λb o e n hb hx=>?_,λb o e n hx=>?_,λb o e hx=>?_,λb xs e=>tups b xs^I.base.tups b xs e,λb o xs e=>BH b o xs^I.base.BH b o xs e,λb ps e=>?_],?_,λx c e=>?_,?_,λx c e=>?_,λp hp=>?_,hok,I.len];show keep b o (neL b o e) hb (neC b o e hx) (I.base.keep b o e n hb hx)^I.base.free b o e n hx;let#[sl,e1]:=I.base.slot b o e n hb hx;let#[S7,e2]:=slot b _ (neL b o e) hb (neC b o e hx) e1^I.base.free b o e n hx;show#[S7,e2];let#[o',e1]:=I.base.there b o e hx;show free b o' (neC b o e hx) e1^I.base.free b o e n hx;let#[o',e1]:=I.base.there b o e hx;show there b o' (neC b o e hx) e1;let#[m1,e1]:=I.base.Dm b ps e;let#[m2,e2]:=Dm b _ e1;show#[m1++m2,by rw[e2,Array.append_assoc]];let#[m,hn,hl]:=I.loc;show#[m,ns m hn,λi x v e1 e2 e3=>?_];let#[u,r,l]:=hl i x v e1 e2 e3;show#[u,r,?_];rcases l with l|⟨k,c,e,z⟩;show .inl l;show .inr #[k,c,e,cellK x c e _ z];let#[v,z]:=I.cell x c e;show#[v,cellK x c e v z];let#[m,#[o,_,_,ho,_],_]:=I.loc;show free _ o (λz=>(PP _ z).2.1 Z) ho I.free;let#[v,o,ho,hd]:=I.cell x c e;show free c o (λz=>(PP c z).2.2.1 x c e Z) ho^I.om x c e;let#[e,n,ne,nf,d]:=I.pin p hp;let nch:p.1∉ch:=λz=>(PP p.1 z).2.2.2 p hp Z;show#[keep p.1 p.2 ne nf nch e n,free p.1 p.2 nch e n,ne,nf,d]
def Inv.un(I:Inv X X1 Y H s)(u:Un X.fs [] H H' am h')(hok:qC bi cq H' h'):Inv X X1 Y H' { s with heap:=h',toks:=t' }:=by
 let#[m,#[o,es,ep,ho,r],_]:=id I.loc;let#[sl,hL]:=u.any ho I.free (by simp);show I.step (g':=s.gens) (d':=s.drawn) (ch:=[]) (λq z=>nomatch z) (λb o q hb q e n=>u.keep b o e n hb^by simp) (λb o q hb q e n=>u.slot b o e n hb^by simp) (λb o q e n=>u.free b o e n^by simp) (λb o q e=>u.there b o e^by simp) u.tups u.BH u.Dm (λm' hm=>by
  let#[o',es',vN,He,r']:=hm;rw[ho] at He;cases He;show#[_,es',vN,hL,r']) hok I.bare
def Inv.call{g':Array GenState}{d':Drawn}(I:Inv X X1 Y H s)(u:Un (frs X.stack) ch H H' am h')(hok:qC bi cq H' h')(hg:AllBare g')
  (PP:∀b∈ch,(b∈X.ex\/eA<=b)/\b≠X.env.locals/\(∀x c,X.env.cells.lookup x=!c->c≠b)/\∀p∈X.pn++X1,p.1≠b):
  Inv X X1 Y H' { s with heap:=h',gens:=g',drawn:=d',toks:=t' }:=by
 let#[m,#[o,es,ep,ho,r],_]:=id I.loc;let#[sl,hL]:=u.any ho I.free λz=>(PP _ z).2.1 Z;show I.step (ch:=ch) PP (λb o hL hb hc e n=>u.keep b o e n (λz=>(aP.mp^I.Gf b z).elim hL hb) hc) (λb o q q hc e n=>u.any e n hc) (λb o hc e n=>u.free b o e n hc) (λb o hc e=>u.there b o e hc) u.tups u.BH u.Dm (λm' hm=>by
  let#[o',es',vN,He,r']:=hm;rw[ho] at He;cases He;show#[_,es',vN,hL,r']) hok hg
def Inv.turned(I:Inv X X1 Y H s)(k:∀b o,b≠it->s.heap.get? b=!o->h'.get? b=!o)(hn:H it=aw)(hL:it≠X.env.locals)
  (h1:it∈X.ex\/eA<=it)(h2:∀x c,X.env.cells.lookup x=!c->c≠it)(h3:∀p∈X.pn++X1,p.1≠it):Inv X X1 Y H { s with heap:=h',toks:=t' }:=by
 let nit:∀b u,H b=!u->b≠it:=λb u e z=>by rw[z,hn] at e;cases e
 show I.step (g':=s.gens) (d':=s.drawn) (ch:=[it]) (λb hb=>?_) (λb o j j hc e j=>k b o (λz=>hc^by simp[z]) e) (λb o j j hc e j=>#[o.slots,k b o (λz=>hc^by simp[z]) e]) (λj j j j n=>n)
  (λb o hc e=>#[o,k b o (λz=>hc^by simp[z]) e]) (λj j e=>e) (λj j j e=>e) (λb ps e=>#[#[],by rw[e];simp]) (λm hm=>?_) (λb u e=>?_) I.bare
 .have e:b=it:=by simpa using hb
  subst e;show#[h1,hL,h2,h3]
 .let#[o,es,ep,ho,r]:=hm;show#[o,es,ep,k _ o (aR hL) ho,r]
 .show(I.hok b u e).stay (λc v hc q=>k c v ?_ q) (λj q=>q) λj j q=>q;rcases hc with z|z;rw[z];show nit b u e;show nit c _ z
def Inv.tok(I:Inv X X1 Y H s)(t:O):Inv X X1 Y H { s with toks:=t }:=I.un (h':=am) (t':=t) Un.refl I.hok
theorem Inv.kept(I:Inv X X1 Y H s)(k:∀b u,s.heap.get? b=!u->h'.get? b=!u):Inv X X1 Y H { s with heap:=h',toks:=t' }:=I.un (Un.kept k)^I.hok.kept k
theorem Inv.laid(I:Inv X X1 Y H s)(k:∀b u,s.heap.get? b=!u->h'.get? b=!u)(hp:B<=a)(new:dQ bi cq (upd H a o) h' a o):
  Inv X X1 Y (upd H a o) { s with heap:=h',toks:=t' }:=I.un (Un.laid k hp^I.hok.fresh hp)^I.hok.laid k hp new
theorem Inv.write{x e:ae}(I:Inv X X1 Y H s)(mu:Mut^H x)(he:e=x\/H e=!.own x)(k:∀b u,b≠e->s.heap.get? b=!u->h'.get? b=!u)(heo:∃u,h'.get? e=!u)
  (new:dQ bi cq (upd H x o) h' x o):Inv X X1 Y (upd H x o) { s with heap:=h',toks:=t' }:=I.un (Un.write mu he k heo)^I.hok.write mu he k heo new
def Inv.xr{WM:List (ae×du)}(I:Inv X X1 Y H s)(h:∀p∈WM,s.heap.get? p.1=!p.2/\H p.1=aw/\p.1≠X.env.locals/\p.1∉X.fs/\∀v,p.2.data≠.cell v):Inv X WM Y H s :=
 #[I.ok,I.os,I.bare,I.base,I.loc,I.cell,I.free,I.om,λp hp=>(aM.mp hp).elim (λz=>I.pin p^j8 _ z)^h p,I.hok,I.len]
def Dp(hN:N.Nodup)(a:N[i]?=!x)(b:N[j]?=!x):i=j:=by let#[h1,e1]:=gq a;let#[h2,e2]:=gq b;show(x9 hN).mp^e1.trans e2.symm
def uJ{Q:Unit->ap->eL}(I:Inv X X1 Y H s)(hN:X.N.Nodup)(hi:X.N[i]?=!x)(hx:Loc X.env.scope x)(r:RelV v u)
  (h:∀s',Inv X X1 (Y.set i^!v) H s'->(∃a,Heap.SameBut a am d6/\(a=X.env.locals\/X.env.cells.lookup x=!a))->Q Unit.unit s')(hf:‹X.fn x=ag\/X.env.scope.names.lookup x=!.local›):wpAny Yf A (storeName ax x u) Q E s:=by
 let#[m,hn,hl]:=id I.loc;let hcls:(X.env.scope.kind==.class||(X.env.scope.kind==.module&&X.env.locals != X.env.globals))=false:=by rw[I.ok.kind];rfl
 let hiσ:i<Y.length:=by rw[I.len];show(gq hi).1
 let Zr:=I.Zr;let Hd:∀{a:ae}{h':cv},(∃o,s.heap.get? a=!o/\H a=aw)->Heap.SameBut a am h'->qC bi cq H h':=λ{a h'} ha hs b ob e=>by let#[_,_,Re]:=ha;show(I.hok b ob e).stay (λc w' hc q=>(hs.2 c ?_).trans q) (λt q=>q) λt t q=>q;rintro rfl;rcases hc with rfl|hc;rw[Re] at e;cases e;rw[Re] at hc;cases hc
 rcases hx with hk|hk
 .show wpAny_storeName_local hk hn (λh' hn' hs=>?_) hcls;let#[oL,_,_,hoL,_]:=id hn;show h _ #[I.ok,I.os,I.bare,#[λb o e n hb hx=>?_,λb o e n hb hx=>?_,I.base.free,λb o e hx=>?_,I.base.tups,I.base.BH,I.base.Dm],#[_,hn',λj y v' e1 e2 e3=>?_],λy c e=>?_,I.free,I.om,λp hp=>?_,Hd #[oL,hoL,I.free] hs,by simpa using I.len] #[_,hs,.inl Z];show(hs.2 b^aU^cT (aO e) I.ok.above).trans^I.base.keep b o e n hb hx;let#[sl,e1]:=I.base.slot b o e n hb hx;show#[sl,(hs.2 b^aU^cT (aO e) I.ok.above).trans e1];let#[o',e1]:=I.base.there b o e hx;show#[o',(hs.2 b^aU^cT (aO e) I.ok.above).trans e1]
  .by_cases hj:j=i;subst hj;rw[hi] at e1;cases e1;rw[List.getElem?_set_self hiσ] at e2;cases e2;show#[u,r,.inl #[hk,by simp]]
   .rw[List.getElem?_set_ne^aR hj] at e2;let#[u',r',q]:=hl j y v' e1 e2 e3;show#[u',r',?_];rcases q with⟨k,e⟩|⟨k,c,e,z⟩
    .show .inl #[k,?_];have:y≠x:=λe=>hj^Dp hN e1 (e▸hi);simp[this,e]
    .show .inr #[k,c,e,z.sameBut hs^Zr y c e]
  .let#[w',z]:=I.cell y c e;show#[w',z.sameBut hs^Zr y c e]
  .let#[e,n,ne,nf,d]:=I.pin p hp;show#[(hs.2 p.1 ne).trans e,n,ne,nf,d]
 .have hfn:X.fn x=true:=by rcases hf with z|z;show z;rw[z] at hk;cases hk
  let#[c,hc]:=I.ok.has x^.inl hk;let#[w',z]:=I.cell x c hc;show wpAny_storeName_cell I.ok.kind hk hc z (λh' GE hs=>?_);let#[oc,hoc,ajd]:=id z;show h { s with heap:=h' } #[I.ok,I.os,I.bare,#[λb o e n hb hx=>?_,λb o e n hb hx=>?_,I.base.free,λb o e hx=>?_,I.base.tups,I.base.BH,I.base.Dm],#[m,hn.sameBut hs^aR^Zr x c hc,λj y v' e1 e2 e3=>?_],λy c' e=>?_,I.free,I.om,λp hp=>?_,Hd #[oc,hoc,I.om x c hc] hs,by simpa using I.len] #[c,hs,.inr hc];show(hs.2 b^aU^cT (aO e)^I.ok.cab x c hfn hc).trans^I.base.keep b o e n hb hx;let#[sl,e1]:=I.base.slot b o e n hb hx;show#[sl,(hs.2 b^aU^cT (aO e)^I.ok.cab x c hfn hc).trans e1];let#[o',e1]:=I.base.there b o e hx;show#[o',(hs.2 b^aU^cT (aO e)^I.ok.cab x c hfn hc).trans e1]
  .by_cases hj:j=i;subst hj;rw[hi] at e1;cases e1;rw[List.getElem?_set_self hiσ] at e2;cases e2;show#[u,r,.inr #[.inl hk,c,hc,GE]]
   .rw[List.getElem?_set_ne^aR hj] at e2;let#[u',r',q]:=hl j y v' e1 e2 e3;show#[u',r',?_];rcases q with q|⟨k,c',e,z'⟩;show .inl q
    .show .inr #[k,c',e,z'.sameBut hs ?_];rintro rfl;show hj^Dp hN e1 (I.ok.inj _ _ _ e hc▸hi)
  .by_cases hcc:c'=c;subst hcc;show#[_,GE];let#[w2,z2]:=I.cell y c' e;show#[w2,z2.sameBut hs hcc]
  .let#[e,n,ne,nf,d]:=I.pin p hp;show#[(hs.2 p.1 ?_).trans e,n,ne,nf,d];intro q;rw[q,hoc] at e;let q':oc=p.2:=Option.some.inj e;show d w' (by rw[<- q'];show ajd)
def yf{Q:Unit->ap->eL}(I:Inv X X1 Y H s)(hN:X.N.Nodup)(hi:X.N[i]?=!x)(hx:Loc X.env.scope x)(r:RelV v u)
  (h:∀s',Inv X X1 (Y.set i^!v) H s'->Q Unit.unit s')(hf:‹X.fn x=ag\/X.env.scope.names.lookup x=!.local›):wpAny Yf A (storeName ax x u) Q E s :=
 uJ I hN hi hx r (λs' I' z=>h s' I') hf
def Inv.adL{s':ap}(I:Inv X X1 Y H s)(ho:s'.os=s.os)(u:Un (frs X.stack) ch H H' am d6)(hok:qC bi cq H' d6)(hg:AllBare s'.gens)
  (PP:∀b∈ch,(b∈X.ex\/eA<=b)/\b≠X.env.locals/\(∀x c,X.env.cells.lookup x=!c->c≠b)/\∀p∈X.pn++X1,p.1≠b):Inv X X1 Y H' s':=by let#[h',g',d',t',o']:=s';let e:o'=s.os:=ho;subst e;show I.call (g':=g') (t':=t') (d':=d') u hok hg PP
end
abbrev XK:=J->Option ae->Hp->eL
abbrev St:=List^Option V
abbrev VK:=V->Hp->eL
abbrev TE:=St->Hp->VK->eL
abbrev TT:=St->Hp->(cf->Hp->eL)->eL
abbrev TA:=St->Hp->(List V->Hp->eL)->eL
structure Ends where
 nx:St->Hp->Prop
 rt:VK
 bk:St->Hp->Prop:=λz z=>False
 ct:St->Hp->Prop:=λz z=>False
abbrev TS:=Ends->St->Hp->eL
inductive EP (X:Cx) (X1:List (Addr×Obj)) (Y:St) (Q:VK) (u:Value) (s':Shared):Prop
 | mk (v H') (z:Inv X X1 Y H' s') (z:RelV v u) (z:Q v H')
def TP(X:Cx)(X1:List (ae×du))(Y:St)(Q:cf->Hp->eL)(b:cf)(s':ap):=∃H',Inv X X1 Y H' s'/\Q b H'
inductive AP (X:Cx) (X1:List (Addr×Obj)) (Y:St) (Q:List V->Hp->Prop) (us:List Value) (s':Shared):Prop
 | mk (vs H') (z:Inv X X1 Y H' s') (z:Vals vs us) (z:Q vs H')
def SP(X:Cx)(X1:List (ae×du))(D:Ends)(f:Flow)(s':ap):eL :=
 match f with
 | .next=>∃Y' H',Inv X X1 Y' H' s'/\D.nx Y' H'
 | .brk=>∃Y' H',Inv X X1 Y' H' s'/\D.bk Y' H'
 | .cont=>∃Y' H',Inv X X1 Y' H' s'/\D.ct Y' H'
 | .ret u=>∃v Y' H',Inv X X1 Y' H' s'/\RelV v u/\D.rt v H'
def PE(X:Cx)(e:dr)(t:TE):eL :=
 ∀(X1:List (ae×du))(s:ap)(Y:St)(H:Hp)(Q:VK),Inv X X1 Y H s->t Y H Q->wpAny (model bi cq) X.A (eval e ax) (EP X X1 Y Q) X.xe s
def PT(X:Cx)(e:dr)(t:TT):eL :=
 ∀(X1:List (ae×du))(s:ap)(Y:St)(H:Hp)(Q:cf->Hp->eL),Inv X X1 Y H s->t Y H Q->wpAny (model bi cq) X.A (isTrue e ax^eval e ax) (TP X X1 Y Q) X.xe s
def PW(X:Cx)(e:dr)(t:TT):eL :=
 ∀(whole:Sem J)(X1:List (ae×du))(s:ap)(Y:St)(H:Hp)(Q:cf->Hp->eL),Inv X X1 Y H s->t Y H Q->wpAny (model bi cq) X.A (isTrue e ax whole) (TP X X1 Y Q) X.xe s
def PW.pt{t:TT}(h:PW X e t):PT X e t:=h _
def PA(X:Cx)(es:List dr)(t:TA):eL :=
 ∀(pos:Pos)(X1:List (ae×du))(s:ap)(Y:St)(H:Hp)(Q:List V->Hp->eL),Inv X X1 Y H s->t Y H Q->wpAny (model bi cq) X.A (spliced^backTo pos^starEach es ax) (AP X X1 Y Q) X.xe s
def PS(X:Cx)(st:Stmt)(t:TS):eL :=
 ∀(X1:List (ae×du))(s:ap)(Y:St)(H:Hp)(D:Ends),Inv X X1 Y H s->t D Y H->wpAny (model bi cq) X.A (exec st ax) (SP X X1 D) X.xe s
def z8(X:Cx)(st:List Stmt)(t:TS):eL :=
 ∀(X1:List (ae×du))(s:ap)(Y:St)(H:Hp)(D:Ends),Inv X X1 Y H s->t D Y H->wpAny (model bi cq) X.A (execs st ax) (SP X X1 D) X.xe s
def dw{α:Type}{t:Sem α}{Q Q':α->ap->eL}(h:wpAny Yf A t Q E s)(hQ:∀a s,Q a s->Q' a s):wpAny Yf A t Q' E s:=wpAny_mono h hQ λz z x=>x
section
variable {X:Cx}
def eZ(i:O):TE:=λY H Q=>∃v,Y[i]?=!!v/\Q v H
def tC(v:V):TE:=λz H Q=>Q v H
def Zt(hN:X.N[i]?=!x)(hv:Vis X.env.scope x)(hd:↥((x==("__debug__" : bc))=false))(Kt:↥((x==("__classdict__" : bc))=false)):PE X (.Name x pos)^eZ i:=by
 intro X1 s Y H Q I h;let#[v,e,h]:=h;let#[m,hn,hl]:=I.loc;let#[u,r,l]:=hl i x v hN e hv;let fin:EP X X1 Y Q u s:=#[v,H,I,r,h];rcases l with⟨hk,hm⟩|⟨hk,c,hc,hcell⟩;show wpAny_Name (wpAny_loadName_local I.ok.kind hk hn hm fin) hd
 .rcases hk with hk|hk;show wpAny_Name (wpAny_loadName_cell I.ok.kind hk hc hcell fin) hd;show wpAny_Name (wpAny_loadName_free I.ok.kind hk hc hcell fin Kt) hd
def af{i j pos}:PE X (.Constant (.int i) j pos)^tC^.int i:=λz z z H z I h=>wpAny_Constant_int #[.int i,H,I.tok _,#[_,Z],h]
def jo{b j pos}:PE X (.Constant (.bool b) j pos)^tC^.bl b:=λz z z H z I h=>Constant_bool #[.bl b,H,I,Z,h]
def kg{j pos}:PE X (.Constant .none j pos)^tC .cB:=λz z z H z I h=>Constant_none #[.cB,H,I,Z,h]
def aE{x j pos}:PE X (.Constant (.str x) j pos)^tC^.str x:=λz z z H z I h=>Calls.Constant_str #[.str x,H,I.tok _,#[_,Z],h]
def Gl(X:Cx)(x:bc):=X.env.kindOf x=!.globalImplicit
def BJ{Y:St}(I:Inv X X1 Y H s)(hg:Gl X x)(hm:X.mg x=!u)(h:Q u s)
  (hd:↥((x==("__debug__" : bc))=false)):wpAny (model bi cq) X.A (eval (.Name x pos) ax) Q E s :=
 Calls.Name_function_global I.ok.kind hg (Calls.loadGlobal_global (by rw[I.ok.glob];show I.mod.glob.keeps I.bk) hm h) hd
def jE{Y:St}(I:Inv X X1 Y H s)(hg:Gl X x)(hm:X.mg x=aw)(hv:bootBuiltins x=!u)(h:Q u s)
  (hn:↥(x ≠ "__name__"))(hd:↥((x==("__debug__" : bc))=false)):wpAny (model bi cq) X.A (eval (.Name x pos) ax) Q E s:=by let#[mb,h1,h2]:=I.mod.blt;show Calls.Name_function_global I.ok.kind hg (Calls.loadGlobal_builtin (by rw[I.ok.glob];show I.mod.glob.keeps I.bk) hm (by rw[I.ok.blt];show h1.keeps I.bk) ((h2 x hn).trans hv) h) hd
def IM(hg:Gl X x)(hm:X.mg x=!u)(r:RelV v u)(hd:↥((x==("__debug__" : bc))=false)):PE X (.Name x pos) (tC v) :=
 λz z z H z I h=>BJ I hg hm #[v,H,I,r,h] hd
def rL(hg:Gl X x)(hm:X.mg x=aw)(hv:bootBuiltins x=!u)(r:RelV v u)(hn:↥(x ≠ "__name__"))(hd:↥((x==("__debug__" : bc))=false)):PE X (.Name x pos) (tC v) :=
 λz z z H z I h=>jE I hg hm hv #[v,H,I,r,h] hn hd
variable {a b:dr}{ta tb:TE}
def PC(X:Cx)(op:CmpOp)(a b:dr)(t:TE):eL :=
 ∀(X1:List (ae×du))(s:ap)(Y:St)(H:Hp)(Q:VK),Inv X X1 Y H s->t Y H Q ->
  wpAny (model bi cq) X.A (eval a ax) (λv s₁=>wpAny (model bi cq) X.A (eval b ax) (λu s₂=>wpAny (model bi cq) X.A (compareOp op v u) (EP X X1 Y Q) X.xe s₂) X.xe s₁) X.xe s
def Nx(b:dr)(h:op≠.In)(h2:op≠.NotIn):behindInMarks op b=false:=by
 let e1:(op==CmpOp.In)=false:=by cases op<;>first|rfl|show absurd Z h
 let e2:(op==CmpOp.NotIn)=false:=by cases op<;>first|rfl|show absurd Z h2
 cases b<;>simp[behindInMarks,e1,e2]
def tB(t:TE):TT:=λY H Q=>t Y H λx H1=>∃c,x=.bl c/\Q c H1
def BK(h:PC X op a b t)(h1:behindInMarks op b=false:=by first|exact Nx _ (by decide) (by decide)|rfl):PT X (.Compare a [op] [b] pos)^tB t:=by intro X1 s Y H Q I hw;show wpAny_isTrue_Compare1 (dw (h X1 s Y H _ I hw) λv s1 h1=>dw h1 λu s2 h2=>dw h2 λc s3 zq=>?_) h1;let#[x,H1,I1,r1,q1]:=zq;let#[d,Z,q]:=q1;cases r1;show wpAny_truthy_bool #[H1,I1,q]
def oq(h:PE X e t)(he:⇑(∀whole,isTrue e ax whole=(do let v <- whole;standAt e.pos;holding [v]^truthy v))):PT X e^tB t:=by intro X1 s Y H Q I hw;show isTrue_plain (dw (h X1 s Y H _ I hw) λv s1 zq=>?_)^he _;let#[x,H1,I1,r1,q1]:=zq;let#[d,Z,q]:=q1;cases r1;show wpAny_truthy_bool #[H1,I1,q]
variable {tA tB':TT}{rest:List dr}
def Zu(t u:TT):TT:=λY H Q=>t Y H λc H1=>if c=ag then u Y H1 Q else Q bj H1
def tOr(t u:TT):TT:=λY H Q=>t Y H λc H1=>if c=ag then Q ag H1 else u Y H1 Q
def adM(t:TT):TT:=λY H Q=>t Y H λc H1=>Q (not c) H1
def gS(ha:PT X a tA):PW X (.BoolOp .And [a] pos) tA:=by
 intro wh X1 s Y H Q I h;show isTrue_and (dw (ha X1 s Y H Q I h) λc s1 e=>?_);cases c with
 | true=>show isTrue_and_nil e
 | false=>show e
def qD(ha:PT X a tA):PW X (.BoolOp .Or [a] pos) tA:=by
 intro wh X1 s Y H Q I h;show isTrue_or (dw (ha X1 s Y H Q I h) λc s1 e=>?_);cases c with
 | false=>show isTrue_or_nil e
 | true=>show e
def jF(ha:PT X a tA)(hb:PW X (.BoolOp .And (b::rest) pos) tB'):PW X (.BoolOp .And (a::b::rest) pos)^Zu tA tB':=by
 intro wh X1 s Y H Q I h;show isTrue_and (dw (ha X1 s Y H _ I h) λc s1 zq=>?_);let#[H1,I1,q1]:=zq;cases c with
 | true=>show hb wh X1 s1 Y H1 Q I1 q1
 | false=>show#[H1,I1,q1]
def vO(ha:PT X a tA)(hb:PW X (.BoolOp .Or (b::rest) pos) tB'):PW X (.BoolOp .Or (a::b::rest) pos)^tOr tA tB':=by
 intro wh X1 s Y H Q I h;show isTrue_or (dw (ha X1 s Y H _ I h) λc s1 zq=>?_);let#[H1,I1,q1]:=zq;cases c with
 | true=>show#[H1,I1,q1]
 | false=>show hb wh X1 s1 Y H1 Q I1 q1
def uK(ha:PT X a tA):PT X (.UnaryOp .Not a pos)^adM tA:=by intro X1 s Y H Q I h;show isTrue_not^ha X1 s Y H (λc H1=>Q (not c) H1) I h
def WN(ta tb:TE):TE:=λY H Q=>ta Y H λx H1=>∃c,x=.bl c/\if c=ag then tb Y H1 Q else Q (.bl bj) H1
def WO(ta:TE):TE:=λY H Q=>ta Y H λx H1=>∃c,x=.bl c/\Q (.bl (not c)) H1
def Gg{op}(h:PE X a t):PE X (.BoolOp op [a] pos) t:=λX1 s Y H Q I hw=>BoolOp_one^h X1 s Y H Q I hw
def Gh(ha:PE X a ta)(hb:PE X (.BoolOp .And (b::rest) pos) tb):PE X (.BoolOp .And (a::b::rest) pos)^WN ta tb:=by
 intro X1 s Y H Q I h;show BoolOp_and (dw (ha X1 s Y H _ I h) λv s1 zq=>?_);let#[x,H1,I1,r1,q1]:=zq;let#[c,Z,q1]:=q1;cases r1;show wpAny_truthy_bool ?_;cases c with
 | true=>show hb X1 s1 Y H1 Q I1 q1
 | false=>show#[.bl bj,H1,I1,Z,q1]
def Ny(ha:PE X a ta):PE X (.UnaryOp .Not a pos)^WO ta:=by intro X1 s Y H Q I h;show UnaryOp_ (dw (ha X1 s Y H _ I h) λv s1 zq=>?_);let#[x,H1,I1,r1,q1]:=zq;let#[c,Z,q1]:=q1;cases r1;show not_of^wpAny_truthy_bool #[.bl (not c),H1,I1,Z,q1]
def tIf(t:TT)(ta tb:TE):TE:=λY H Q=>t Y H λc H1=>if c=ag then ta Y H1 Q else tb Y H1 Q
def dR(hc:PT X c tA)(ha:PE X a ta)(hb:PE X b tb):PE X (.IfExp c a b pos)^tIf tA ta tb:=by
 intro X1 s Y H Q I h;show wpAny_IfExp (dw (hc X1 s Y H _ I h) λd s1 zq=>?_);let#[H1,I1,q1]:=zq;cases d with
 | true=>show ha X1 s1 Y H1 Q I1 q1
 | false=>show hb X1 s1 Y H1 Q I1 q1
end
def bI(K:aC)(H:Hp)(a:ae)(xs:List V):eL :=
 Rd H a (.lst xs) \/
  ∃(o:du)(XL:Array J)(n:O),K.lookup a=!o/\o.cls=.type "list" /\ o.dict=aw/\o.data=.seq XL n/\XL.size<=sizeLine/\Vals xs XL.toList
def dD(K:aC)(H:Hp)(a:ae)(xs:List V):eL :=
 Rd H a (.tup xs) \/
  ∃(o:du)(XL:Array J)(n:O),K.lookup a=!o/\o.cls=.type "tuple" /\ o.data=.seq XL n/\XL.size<=sizeLine/\Vals xs XL.toList
noncomputable def aje:J->Option V
 | .none=>!.cB
 | .bool b=>!.bl b
 | .int i _=>!.int i
 | .str x _=>!.str x
 | .bytes b _=>!.IJ b
 | .float b _=>!.Zn b
 | .ref a=>!.ref a
 | .type n=>!.ty n
 | _=>none
def RelV.abs{x:V}(r:RelV x u):aje u=!x:=by
 cases x with
 | cB=>cases r;rfl
 | bl _=>cases r;rfl
 | int _=>let#[t,Z]:=r;rfl
 | str _=>let#[t,Z]:=r;rfl
 | IJ _=>let#[t,Z]:=r;rfl
 | Zn _=>let#[t,Z]:=r;rfl
 | ref _=>cases r;rfl
 | ty _=>cases r;rfl
theorem RelV.inj{x:V}(r:RelV x u)(q:RelV y u):x=y:=Option.some.inj^r.abs.symm.trans q.abs
theorem Vals.inj:∀{xs ys:List V}{us:List J},Vals xs us->Vals ys us->xs=ys:=by
 intro xs ys us h;induction h generalizing ys with
 | nil=>intro z;cases z;rfl
 | cons r t ih=>intro z;cases z with|cons r' t'=>rw[r.inj r',ih t']
section
variable {X:Cx}{Y:St}{H:Hp}{xs ys:List V}
def bI.of(h:H a=!.lst xs):bI K H a xs:=.inl^.inl h
def dD.of(h:H a=!.tup xs):dD K H a xs:=.inl^.inl h
theorem Inv.list(I:Inv X X1 Y H s)(h:bI dq H a xs):∃XL:List J,Vals xs XL/\PlainL am a XL.toArray/\ab<=sizeLine:=by rcases h with h|⟨o,XL,n,hk,hc,hd,hs,hz,r⟩;let#[z,XL,n,r,e]:=h.ok I.hok;show#[XL,r,#[_,n,e,Z,Z,Z],z];show#[XL.toList,r,#[o,n,I.rK a o hk,hc,hd,by simpa using hs],?_];let e:=eC;erw[dU] at e;lia
theorem Inv.tuple(I:Inv X X1 Y H s)(h:dD dq H a xs):∃XL:List J,Vals xs XL/\IsTup am a XL.toArray/\ab<=sizeLine:=by rcases h with h|⟨o,XL,n,hk,hc,hs,hz,r⟩;let#[z,XL,r,p]:=h.ok I.hok;show#[XL,r,p,z];show#[XL.toList,r,#[o,I.rK a o hk,hc,n,by simpa using hs],?_];let e:=eC;erw[dU] at e;lia
def Inv.Nz(I:Inv X X1 Y H s)(h:bI dq H a xs)(h':bI dq H a ys):xs=ys:=by
 let#[XL,r,#[o,n,e,_,_,d],_]:=I.list h;let#[its',r',#[o',n',e',_,_,d'],_]:=I.list h';rw[e] at e';cases e';rw[d] at d';injection d' with d1 _;have:XL=its':=by simpa using congrArg Array.toList d1
 subst this;show r.inj r'
def Inv.Av(I:Inv X X1 Y H s)(h:dD dq H a xs)(h':dD dq H a ys):xs=ys:=by
 let#[XL,r,#[o,e,_,n,d],_]:=I.tuple h;let#[its',r',#[o',e',_,n',d'],_]:=I.tuple h';rw[e] at e';cases e';rw[d] at d';injection d' with d1 _;have:XL=its':=by simpa using congrArg Array.toList d1
 subst this;show r.inj r'
end
noncomputable abbrev Cx.yg(X:Cx)(E:J->ap->eL):Cx:={ X with xe:=E }
noncomputable abbrev Cx.Zv(X:Cx):Cx:=X.yg λz z=>False
theorem Cx.Ok.yg(ok:X.Ok)(E:J->ap->eL):(X.yg E).Ok :=
 #[ok.mod,ok.kind,ok.glob,ok.blt,ok.above,ok.inj,ok.has,ok.cab,ok.hd,ok.frames,ok.stk,ok.exf,ok.bs,ok.WL,ok.Nu,ok.Nv,ok.wX,ok.Zq]
def Cx.Ok.ou(ok:(X.yg E).Ok):X.Ok :=
 #[ok.mod,ok.kind,ok.glob,ok.blt,ok.above,ok.inj,ok.has,ok.cab,ok.hd,ok.frames,ok.stk,ok.exf,ok.bs,ok.WL,ok.Nu,ok.Nv,ok.wX,ok.Zq]
section
variable {X:Cx}{Y:St}{H:Hp}
theorem Inv.yg(I:Inv X X1 Y H s)(E:J->ap->eL):Inv (X.yg E) X1 Y H s:=#[I.ok.yg E,I.os,I.bare,I.base,I.loc,I.cell,I.free,I.om,I.pin,I.hok,I.len]
theorem Inv.ou(I:Inv (X.yg E) X1 Y H s):Inv X X1 Y H s:=#[I.ok.ou,I.os,I.bare,I.base,I.loc,I.cell,I.free,I.om,I.pin,I.hok,I.len]
theorem SP.ou{f:Flow}{s':ap}(h:SP (X.yg E) X1 D f s'):SP X X1 D f s':=by
 cases f with
 | next=>let#[Y',H',I,q]:=h;show#[Y',H',I.ou,q]
 | brk=>let#[Y',H',I,q]:=h;show#[Y',H',I.ou,q]
 | cont=>let#[Y',H',I,q]:=h;show#[Y',H',I.ou,q]
 | ret u=>let#[v,Y',H',I,r,q]:=h;show#[v,Y',H',I.ou,r,q]
theorem z8.Zv{st:List Stmt}{t:TS}(h:z8 X.Zv st t):z8 X st t:=λX1 s Y H D I hw =>
 wpAny_mono (h X1 s Y H D (I.yg _) hw) (λj j q=>q.ou) λj j z=>False.elim z
end
section
variable {X:Cx}{rest:List Stmt}{t u:TS}{te:TE}
def NB:TS:=λD Y H=>D.nx Y H
def KR(t u:TS):TS:=λD Y H=>t { D with nx:=u D } Y H
def aL:z8 X [] NB:=λz z Y H z I h=>wpAny_execs_nil #[Y,H,I,h]
def ak(h1:PS X st t)(h2:z8 X rest u):z8 X (st::rest)^KR t u:=by
 intro X1 s Y H D I h;show wpAny_execs_cons (dw (h1 X1 s Y H { D with nx:=u D } I h) λf s1 q=>?_);cases f with
 | next =>
  let#[Y',H',I',q]:=q;show h2 X1 s1 Y' H' D I' q
 | ret v=>show q
 | brk=>show q
 | cont=>show q
def ao(h1:PS X st t):z8 X [st] t:=by
 intro X1 s Y H D I h;show wpAny_execs_cons (dw (h1 X1 s Y H D I h) λf s1 q=>?_);cases f with
 | next=>show wpAny_execs_nil q
 | ret v=>show q
 | brk=>show q
 | cont=>show q
def Inv.quiet{Y:St}(I:Inv X X1 Y H s):interactive ax=false:=by simp[interactive,I.ok.kind]
def IP(te:TE):TS:=λD Y H=>te Y H λz H1=>D.nx Y H1
def bA(he:PE X e te)(hs:⇑(swapsWith e aw pos.line ax=pure false)):PS X (.Expr e pos)^IP te:=by intro X1 s Y H D I h;show wpAny_Expr_any (dw (he X1 s Y H _ I h) λv s1 zq=>?_) I.quiet hs;let#[x,H1,I1,r1,q1]:=zq;show#[Y,H1,I1,q1]
def NC(te:TE):TS:=λD Y H=>te Y H D.rt
def aD(he:PE X e te):PS X (.Return (!e) pos)^NC te:=by intro X1 s Y H D I h;show wpAny_Return_some (dw (he X1 s Y H _ I h) λv s1 zq=>?_);let#[x,H1,I1,r1,q1]:=zq;show#[x,Y,H1,I1,r1,q1]
def WQ:TS:=λD z H=>D.rt .cB H
def BL:PS X (.Return aw pos) WQ:=λz z Y H z I h=>wpAny_Return_none #[.cB,Y,H,I,Z,h]
def S8(c:TT)(t u:TS):TS:=λD Y H=>c Y H λb H1=>if b=ag then t D Y H1 else u D Y H1
def aY{a b:List Stmt}{tc:TT}(hc:PT X c tc)(ha:z8 X a t)(hb:z8 X b u):PS X (.If c a b pos)^S8 tc t u:=by
 intro X1 s Y H D I h;show wpAny_If (dw (hc X1 s Y H _ I h) λd s1 zq=>?_);let#[H1,I1,q1]:=zq;cases d with
 | true=>show ha X1 s1 Y H1 D I1 q1
 | false=>show hb X1 s1 Y H1 D I1 q1
end
abbrev TG:=V->St->Hp->(St->Hp->eL)->eL
abbrev Gi:=List V->St->Hp->(St->Hp->eL)->eL
def PG(X:Cx)(target:dr)(t:TG):eL :=
 ∀(X1:List (ae×du))(s:ap)(Y:St)(H:Hp)(v:V)(u:J)(Q:St->Hp->eL),Inv X X1 Y H s->RelV v u->t v Y H Q ->
  wpAny (model bi cq) X.A (assign target ax u) (λz s'=>∃Y' H',Inv X X1 Y' H' s'/\Q Y' H') X.xe s
def WR(X:Cx)(ts:List dr)(t:Gi):eL :=
 ∀(X1:List (ae×du))(s:ap)(Y:St)(H:Hp)(vs:List V)(us:List J)(Q:St->Hp->eL),Inv X X1 Y H s->Vals vs us->t vs Y H Q ->
  wpAny (model bi cq) X.A (assignInOrder ((assignEach ts ax).map (·.2)) us) (λz s'=>∃Y' H',Inv X X1 Y' H' s'/\Q Y' H') X.xe s
abbrev S9:=V->V->V->Hp->(Hp->eL)->eL
def adN(X:Cx)(t:S9):eL :=
 ∀(X1:List (ae×du))(s:ap)(Y:St)(H:Hp)(o i v:V)(ov iv u:J)(Q:Hp->eL),Inv X X1 Y H s->RelV o ov->RelV i iv->RelV v u->t o i v H Q ->
  wpAny (model bi cq) X.A (setItem ov iv u) (λz s'=>∃H',Inv X X1 Y H' s'/\Q H') X.xe s
abbrev TIp:=V->V->Hp->VK->eL
def PIp(X:Cx)(op:Operator)(t:TIp):eL :=
 ∀(X1:List (ae×du))(s:ap)(Y:St)(H:Hp)(x y:V)(v u:J)(Q:VK),Inv X X1 Y H s->RelV x v->RelV y u->t x y H Q ->
  wpAny (model bi cq) X.A (inplaceOp op v u) (EP X X1 Y Q) X.xe s
section
variable {X:Cx}
def gM(i:O):TG:=λv Y H Q=>Q (Y.set i^!v) H
def IQ(hN:X.N.Nodup)(hi:X.N[i]?=!x)(hx:Loc X.env.scope x)(hf:‹X.fn x=ag\/X.env.scope.names.lookup x=!.local›):PG X (.Name x pos)^gM i:=by intro X1 s Y H v u Q I r h;show wpAny_assign_Name^yf I hN hi hx r (λs' I'=>#[_,H,I',h]) hf
def adO:Gi:=λvs Y H Q=>vs=[]/\Q Y H
def WT(t:TG)(u:Gi):Gi:=λvs Y H Q=>∃v r,vs=v::r/\t v Y H λY' H'=>u r Y' H' Q
def gT:WR X [] adO:=by intro X1 s Y H vs us Q I r h;let#[e,h]:=h;subst e;cases r;show assignInOrder_nil #[Y,H,I,h]
def bU{t:TG}{u:Gi}(h1:PG X e t)(h2:WR X es u)(hs:(assignEach (e::es) ax).map (·.2)=assign e ax::(assignEach es ax).map (·.2)):WR X (e::es)^WT t u:=by
 intro X1 s Y H vs us Q I r h;let#[v,vr,e1,h]:=h;subst e1;cases r with
 | cons r rr =>
  rw[hs];show assignInOrder_cons (dw (h1 X1 s Y H _ _ _ I r h) λz s1 zq=>?_);let#[Y1,H1,I1,q1]:=zq;show h2 X1 s1 Y1 H1 _ _ Q I1 rr q1
def ND(K:aC)(n:O)(t:Gi):TG:=λv Y H Q=>∃a xs,v=¬a/\dD K H a xs/\ab=n/\t xs Y H Q
def Gj{t:Gi}(hc:X.calm=ag)(h:WR X es t)
  (hn:⇑((assignEach es ax).length=n))(TW:⇑((assignEach es ax).findIdx? (·.1)=none)):PG X (.Tuple es k pos)^ND dq n t:=by intro X1 s Y H v u Q I r hw;let#[a,xs,e1,hq,hl,hw]:=hw;subst e1;cases r;let#[XL,rv,ht,hz]:=I.tuple hq;show assign_Tuple_tuple (I.ok.hd hc) ht (by simp[hn,<- hl,rv.length]) TW λh' hx=>?_;let I1:Inv X X1 Y H { s with heap:=h' }:=I.kept (t':=s.toks) λb o e=>hx b o (aU^aO e) e;show h X1 _ Y H xs _ Q I1 (by simpa using rv) hw
def adP(to ti:TE)(t:S9):TG:=λv Y H Q=>to Y H λo H1=>ti Y H1 λi H2=>t o i v H2 λH3=>Q Y H3
def Zw{o i:dr}{to ti:TE}{t:S9}(ho:PE X o to)(hi:PE X i ti)(hs:adN X t)
  (ha:⇑(∀v,assign (.Subscript o i pos) ax v=(do
   let ov <- holding [v] (eval o ax);let iv <- holding [v,ov] (eval i ax)
   standAt pos
   holding [v,ov,iv]^setItem ov iv v
   release [v,ov,iv] []))):PG X (.Subscript o i pos)^adP to ti t:=by intro X1 s Y H v u Q I r h;rw[ha];show au^wpAny_holding (dw (ho X1 s Y H _ I h) λov s1 zq=>?_);let#[x,H1,I1,r1,q1]:=zq;show au^wpAny_holding (dw (hi X1 s1 Y H1 _ I1 q1) λiv s2 zq=>?_);let#[y,H2,I2,r2,q2]:=zq;show au^wpAny_standAt^au^wpAny_holding (dw (hs X1 s2 Y H2 x y v ov iv u _ I2 r1 r2 r q2) λz s3 zq=>?_);let#[H3,I3,q3]:=zq;show wpAny_release #[Y,H3,I3,q3]
def NF(te:TE)(g:TG):TS:=λD Y H=>te Y H λx H1=>g x Y H1 D.nx
def Gk(he:PE X e te)(hg:PG X tg g)(hs:swapsWithSole [tg] e pos.line ax=pure bj)(hw:swappedStores [tg] e ax=pure aw)(h1:(assignEach [tg] ax).map (·.2)=[assign tg ax]):PS X (.Assign [tg] e pos)^NF te g:=by intro X1 s Y H D I h;show wpAny_Assign_stores (dw (he X1 s Y H _ I h) λv s1 zq=>?_) hs hw;let#[x,H1,I1,r1,q1]:=zq;rw[h1];show dw (hg X1 s1 Y H1 x v _ I1 r1 q1) λz s2 q=>q
def Zx(hN:X.N.Nodup)(hi:X.N[i]?=!x)(hx:Loc X.env.scope x)(he:PE X e te)(hs:⇑(swapsWith e (!.Name x QP) pos.line ax=pure false))(hf:‹X.fn x=ag\/X.env.scope.names.lookup x=!.local›):
  PS X (.Assign [.Name x QP] e pos)^NF te^gM i:=by intro X1 s Y H D I h;show wpAny_Assign_Name (dw (he X1 s Y H _ I h) λv s1 zq=>?_) hs;let#[y,H1,I1,r1,q1]:=zq;show yf I1 hN hi hx r1 (λs2 I2=>#[_,H1,I2,q1]) hf
def Zy(i:O)(te:TE)(ti:TIp):TS:=λD Y H=>∃x,Y[i]?=!!x/\te Y H λy H1=>ti x y H1 λz H2=>D.nx (Y.set i^!z) H2
def Zz{op:Operator}{ti:TIp}(hN:X.N.Nodup)(hi:X.N[i]?=!x)(hx:Loc X.env.scope x)(he:PE X e te)(ho:PIp X op ti)(hf:‹X.fn x=ag\/X.env.scope.names.lookup x=!.local›):
  PS X (.AugAssign (.Name x QP) op e pos)^Zy i te ti:=by
 intro X1 s Y H D I h;let#[v,e1,h]:=h;let#[m,hn,hl]:=I.loc;let vis:Vis X.env.scope x:=by rcases hx with k|k;show .inl k;show .inr^.inl k
 let#[u,r,l]:=hl i x v hi e1 vis;show wpAny_AugAssign_Name ?_;let go:wpAny (model bi cq) X.A (eval e ax) (λw s₂=>wpAny (model bi cq) X.A (inplaceOp op u w) (λr s₃=>wpAny (model bi cq) X.A (storeName ax x r) (λq=>SP X X1 D .next) X.xe s₃) X.xe s₂) X.xe s:=by show dw (he X1 s Y H _ I h) λw s1 zq=>?_;let#[y,H1,I1,r1,q1]:=zq;show dw (ho X1 s1 Y H1 v y u w _ I1 r r1 q1) λz s2 zq=>?_;let#[zv,H2,I2,r2,q2]:=zq;show yf I2 hN hi hx r2 (λs3 I3=>#[_,H2,I3,q2]) hf
 rcases l with⟨hk,hm⟩|⟨hk,c,hc,hcell⟩;show wpAny_loadName_local I.ok.kind hk hn hm go;rcases hk with hk|hk;show wpAny_loadName_cell I.ok.kind hk hc hcell go;rcases hx with k|k;have:X.env.scope.names.lookup x=!.free:=hk;rw[k] at this;cases this;have:X.env.scope.names.lookup x=!.free:=hk;rw[k] at this;cases this
def ipI(f:M->M->M):TIp:=λx y H Q=>∃i j,x=.int i/\y=.int j/\Q (.int^f i j) H
def NG:PIp X .Add (ipI λi j=>i+j):=by intro X1 s Y H x y v u Q I r1 r2 h;let#[i,j,e1,e2,q]:=h;subst e1;subst e2;let#[t,Z]:=r1;let#[t',Z]:=r2;show iadd_int #[.int _,H,I.tok _,#[_,Z],q]
def ZA:PIp X .Sub (ipI λi j=>i-j):=by intro X1 s Y H x y v u Q I r1 r2 h;let#[i,j,e1,e2,q]:=h;subst e1;subst e2;let#[t,Z]:=r1;let#[t',Z]:=r2;show isub_int #[.int _,H,I.tok _,#[_,Z],q]
def Gm(c:TT)(tb:TS):TS:=λD Y H=>∃W:O->St->Hp->eL,(∃m,W m Y H)/\∀m Y H,W m Y H ->
 c Y H λb H1=>if b=ag then ∃N:St->Hp->eL,(∀Y' H',N Y' H'->∃m',m'<m/\W m' Y' H')/\tb { D with nx:=N,ct:=N,bk:=D.nx } Y H1 else D.nx Y H1
def lJ{tc:TT}(hp:PassesOwn (model bi cq) X.A ax X.xe)(hc:PT X c tc)(hb:z8 X body tb):PS X (.While c body [] pos)^Gm tc tb:=by
 intro X1 s Y H D I h;let#[W,#[m0,w0],turn]:=h;show wpAny_While^codeAny_whileLoop (λn s'=>∃Y' H',Inv X X1 Y' H' s'/\W n Y' H') ?_ m0 #[Y,H,I,w0];rintro n s1 ⟨Y1,H1,I1,w1⟩;show wpAny_passesOwn hp (dw (hc X1 s1 Y1 H1 _ I1^turn n Y1 H1 w1) λb s2 zq=>?_);let#[H2,I2,q2]:=zq;cases b with
 | true =>
  let#[N,hN,q2]:=q2;rw[if_pos Z];show wpAny_passesOwn hp (dw (hb X1 s2 Y1 H2 _ I2 q2) λf s3 q3=>?_);cases f with
  | next =>
   let#[FV,H3,I3,n3]:=q3;let#[m',hm,w3]:=hN FV H3 n3;show#[m',hm,FV,H3,I3,w3]
  | cont =>
   let#[FV,H3,I3,n3]:=q3;let#[m',hm,w3]:=hN FV H3 n3;show#[m',hm,FV,H3,I3,w3]
  | brk=>show q3
  | ret v=>show q3
 | false =>
  rw[if_neg lI];show wpAny_execs_nil #[Y1,H2,I2,q2]
end
structure It where
 go:Nat->Hp->Prop
 Nf:Nat->Hp->V->Hp->Prop
 stop:Nat->Hp->Prop
def lD(X:Cx)(X1:List (ae×du))(H:Hp)(b:ae):eL :=
 H b=aw/\b≠X.env.locals/\b∉X.fs/\(b∈X.ex\/eA<=b)/\(∀x c,X.env.cells.lookup x=!c->c≠b)/\∀p∈X.pn++X1,p.1≠b
def Inv.rM{Y:St}{H':Hp}(I:Inv X X1 Y H s)(hb:B<=b)(hn:H' b=aw):lD X X1 H' b:=by show#[hn,jL^cT I.lt hb,I.adI hb,.inr^bP I.sz hb,λx c e z=>?_,λp hp z=>?_];let#[v,q]:=I.cell x c e;show absurd (cT q.lt (by rw[z];show hb))^gK _;show absurd (cT (aO (I.pin p hp).1) (by rw[z];show hb))^gK _
structure Turn (P:Program) (w:World) (K:aC) (tg:Expr) (Ya:It) (fp:List Addr) (it:Addr) (tn:Nat->Heap->Prop):Prop where
 mem:it∈fp
 obj:∀i h,tn i h->∀b∈fp,∃o,h.get? b=!o/\∀v,o.data≠.cell v
 keep:∀i h h',tn i h->(∀b∈fp,∀o,h.get? b=!o->h'.get? b=!o)->tn i h'
 item:∀(X:Cx),X.prog=P->X.w=w->X.K=K->X.calm=true->∀(i:Nat)(X1:List (Addr×Obj))(s:Shared)(Y:St)(H:Hp)(E:Value->Shared->Prop),Inv X X1 Y H s->(∀b∈fp,lD X X1 H b)->tn i s.heap->Ya.go i H ->
  wpAny (model P w) X.A (pyNext^¬it) (λr s1=>∃u,r=!u /\
   wpAny (model P w) X.A (letOwnedTupleGo tg (¬it) u) (λz s2=>∃x H',Inv X X1 Y H' s2/\RelV x u/\Ya.Nf i H x H'/\tn (i+1) s2.heap/\∀b∈fp,H' b=none) E s1) E s
 done:∀(X:Cx),X.prog=P->X.w=w->X.K=K->X.calm=true->∀(i:Nat)(X1:List (Addr×Obj))(s:Shared)(Y:St)(H:Hp)(E:Value->Shared->Prop),Inv X X1 Y H s->(∀b∈fp,lD X X1 H b)->tn i s.heap->Ya.stop i H ->
  wpAny (model P w) X.A (pyNext^¬it) (λr s1=>r=none/\Inv X X1 Y H s1) E s
 self:∀(A:Around)(i:Nat)(s:Shared)(Q:Value->Shared->Prop)(E:Value->Shared->Prop),tn i s.heap->Q (¬it) s->wpAny (model P w) A (pyIter^¬it) Q E s
abbrev TI:=St->Hp->(It->Hp->eL)->eL
def PIE(X:Cx)(X1:List (ae×du))(Y:St)(tg:dr)(R:It->Hp->eL)(itv:J)(s2:ap):eL :=
 ∃(it:ae)(fp:List ae)(tn:O->cv->eL)(Ya:It)(H':Hp),itv=¬it/\Inv X X1 Y H' s2/\Turn bi cq dq tg Ya fp it tn/\tn 0 s2.heap/\(∀b∈fp,lD X X1 H' b)/\R Ya H'
def PI(X:Cx)(tg iter:dr)(wi:TI):eL :=
 ∀(X1:List (ae×du))(s:ap)(Y:St)(H:Hp)(R:It->Hp->eL),Inv X X1 Y H s->wi Y H R ->
  wpAny (model bi cq) X.A (eval iter ax) (λv s1=>wpAny (model bi cq) X.A (pyIter v) (PIE X X1 Y tg R) X.xe s1) X.xe s
def Dq{o:du}{n:String}{vs:Array J}{Q:Unit->ap->eL}(ho:s.heap.get? it=!o)(hc:o.cls=.type n)(hd:o.data=.fields vs)
    (hn:["enumerate", "zip", "dict_itemiterator", "dict_reverseitemiterator", "odict_iterator", "itertools.zip_longest", "itertools.pairwise"].contains n=bj)(hQ:Q Unit.unit s):wpAny Yf A (letOwnedTupleGo tg (¬it) u) Q E s:=by
  unfold letOwnedTupleGo;cases tg<;>first
    | show aW hQ
    | (cases u<;>first
        | show aW hQ
        | (show au (wpAny_load ho ?_)
           rw[hc,hd];change wpAny Yf A (if(["enumerate", "zip", "dict_itemiterator", "dict_reverseitemiterator", "odict_iterator", "itertools.zip_longest", "itertools.pairwise"].contains n&&vs[0]?==!rawInt _)=ag then _ else _) Q E s;rw[if_neg (by intro h;rw[hn,xT] at h;cases h)];show aW hQ))
def SD(K:aC)(a:ae):It :=
 #[λi H=>∃xs x,bI K H a xs/\xs[i]?=!x,λi H x H'=>H'=H/\∀xs,bI K H a xs->xs[i]?=!x,λi H=>∃xs,bI K H a xs/\ab<=i]
def SE(K:aC)(a:ae):It :=
 #[λi H=>∃xs x,dD K H a xs/\xs[i]?=!x,λi H x H'=>H'=H/\∀xs,dD K H a xs->xs[i]?=!x,λi H=>∃xs,dD K H a xs/\ab<=i]
def uL(lo:M)(n:O):It:=#[λi z=>i<n,λi H x H'=>H'=H/\x=.int (lo+i),λi z=>n<=i]
theorem KS(a it:ae):Turn P w K tg (SD K a) [it] it (λi h=>h.IsListIter it a i) where
 mem:=by simp
 obj:=λi h st b hb=>by
  let e:b=it:=by simpa using hb
  subst e;let#[o,e,c,d]:=st;show#[o,e,λv z=>by rw[d] at z;cases z]
 keep:=λi h h' st k=>st.at λo e=>k it (by simp) o e
 item:=by intro X hP hw hK hc i X1 s Y H E I hf st hg;subst hP hw hK;let#[xs,x,hq,hx]:=hg;let#[XL,rv,p,hz]:=I.list hq;let#[u,hu,ru]:=rv.get hx;let#[f0,f1,f2,f3,f4,f5]:=hf it (by simp);show wpAny_pyNext_list_item st p.isList (x:=u) (by simpa using hu) λh' Ts sb=>?_;let I1:Inv X X1 Y H { s with heap:=h' }:=I.turned (t':=s.toks) (λb o hb e=>(sb.2 b hb).trans e) f0 f1 f3 f4 f5;let#[o,e,c,d]:=id Ts;show#[u,Z,Dq (s:={ s with heap:=h' }) e c d () #[x,H,I1,ru,#[Z,λys hy=>by rw[I.Nz hy hq];show hx],Ts,λb hb=>(hf b hb).1]]
 done:=by intro X hP hw hK hc i X1 s Y H E I hf st hg;subst hP hw hK;let#[xs,hq,hx]:=hg;let#[XL,rv,p,hz]:=I.list hq;let#[f0,f1,f2,f3,f4,f5]:=hf it (by simp);let hl:=rv.length;show wpAny_pyNext_list_end (I.ok.hd hc) st p.isList (by simp;lia) λh' eb=>#[Z,I.turned (t':=s.toks) (λb o hb e=>eb b o hb e) f0 f1 f3 f4 f5]
 self:=λq q q q q st h=>wpAny_pyIter_listiter st h
theorem Gn(a it:ae):Turn P w K tg (SE K a) [it] it (λi h=>h.IsTupleIter it a i) where
 mem:=by simp
 obj:=λi h st b hb=>by
  let e:b=it:=by simpa using hb
  subst e;let#[o,e,c,d]:=st;show#[o,e,λv z=>by rw[d] at z;cases z]
 keep:=λi h h' st k=>st.at λo e=>k it (by simp) o e
 item:=by intro X hP hw hK hc i X1 s Y H E I hf st hg;subst hP hw hK;let#[xs,x,hq,hx]:=hg;let#[XL,rv,p,hz]:=I.tuple hq;let#[u,hu,ru]:=rv.get hx;let#[f0,f1,f2,f3,f4,f5]:=hf it (by simp);show wpAny_pyNext_tuple_item st (show s.heap.IsTuple a XL.toArray from p) (x:=u) (by simpa using hu) λh' Ts sb=>?_;let I1:Inv X X1 Y H { s with heap:=h' }:=I.turned (t':=s.toks) (λb o hb e=>(sb.2 b hb).trans e) f0 f1 f3 f4 f5;let#[o,e,c,d]:=id Ts;show#[u,Z,Dq (s:={ s with heap:=h' }) e c d () #[x,H,I1,ru,#[Z,λys hy=>by rw[I.Av hy hq];show hx],Ts,λb hb=>(hf b hb).1]]
 done:=by intro X hP hw hK hc i X1 s Y H E I hf st hg;subst hP hw hK;let#[xs,hq,hx]:=hg;let#[XL,rv,p,hz]:=I.tuple hq;let#[f0,f1,f2,f3,f4,f5]:=hf it (by simp);let hl:=rv.length;show wpAny_pyNext_tuple_end (I.ok.hd hc) st (show s.heap.IsTuple a XL.toArray from p) (by simp;lia) λh' eb=>#[Z,I.turned (t':=s.toks) (λb o hb e=>eb b o hb e) f0 f1 f3 f4 f5]
 self:=λq q q q q st h=>wpAny_pyIter_tupleiter st h
theorem Gp(it:ae)(lo:M)(n:O):Turn P w K tg (uL lo n) [it] it (λi h=>IsRangeIter h it (lo+(i:O)*1) ((n:M)-(i:O)) 1) where
 mem:=by simp
 obj:=λi h st b hb=>by
  let e:b=it:=by simpa using hb
  subst e;show#[_,st,λv z=>by
   let z':Data.fields _=Data.cell v:=z;cases z']
 keep:=λi h h' st k=>k it (by simp) _ st
 item:=by intro X hP hw hK hc i X1 s Y H E I hf st hg;subst hP hw hK;let#[f0,f1,f2,f3,f4,f5]:=hf it (by simp);let W:=Walks.range (prog:=bi) (w:=cq) (I.ok.hd hc) it lo 1 n;show W.item i s _ _ hg st λv h' tk hv Ts kk=>?_;let#[t,Z]:=hv;let I1:Inv X X1 Y H { s with heap:=h',toks:=tk }:=I.turned (λb o hb e=>kk b o (by simpa using hb) e) f0 f1 f3 f4 f5;show#[_,Z,Dq (s:={ s with heap:=h',toks:=tk }) (n := "range_iterator") Ts Z rfl () #[.int (lo+i),H,I1,#[t,?_],#[Z,Z],Ts,λb hb=>(hf b hb).1]];rw[Int.mul_one]
 done:=by intro X hP hw hK hc i X1 s Y H E I hf st hg;subst hP hw hK;let#[f0,f1,f2,f3,f4,f5]:=hf it (by simp);show wpAny_pyNext_range_end (I.ok.hd hc) st (by have:n<=i:=hg;lia) λh' eb=>#[Z,I.turned (t':=s.toks) (λb o hb e=>eb b o hb e) f0 f1 f3 f4 f5]
 self:=λq q q q q st h=>wpAny_pyIter_rangeiter st h
section
variable {X:Cx}
def NH(K:aC)(tl:TE):TI:=λY H R=>tl Y H λx H1=>∃a,x=¬a/\(∃xs,bI K H1 a xs)/\R (SD K a) H1
def adQ(K:aC)(tl:TE):TI:=λY H R=>tl Y H λx H1=>∃a,x=¬a/\(∃xs,dD K H1 a xs)/\R (SE K a) H1
def b4{l:dr}{tl:TE}(hl:PE X l tl):PI X tg l^NH dq tl:=by
 intro X1 s Y H R I h;show dw (hl X1 s Y H _ I h) λv s1 zq=>?_;let#[x,H1,I1,r1,q1]:=zq;let#[a,e,#[xs,hq],q]:=q1;subst e;cases r1;let#[XL,rv,p,hz]:=I1.list hq;show wpAny_pyIter_list p.isList ?_;show#[bn,[bn],_,_,H1,Z,I1.kept (t':=s1.toks) λb o e=>eS _ e,KS a _,#[_,jB _ rfl,Z,Z],λb hb=>?_,q];let e:b=s1.heap.objs.size:=by simpa using hb
 subst e;show I1.rM (ay _)^I1.hok.fresh^ay _
def yh{l:dr}{tl:TE}(hl:PE X l tl):PI X tg l^adQ dq tl:=by
 intro X1 s Y H R I h;show dw (hl X1 s Y H _ I h) λv s1 zq=>?_;let#[x,H1,I1,r1,q1]:=zq;let#[a,e,#[xs,hq],q]:=q1;subst e;cases r1;let#[XL,rv,p,hz]:=I1.tuple hq;show wpAny_pyIter_tuple (show s1.heap.IsTuple a XL.toArray from p) ?_;show#[bn,[bn],_,_,H1,Z,I1.kept (t':=s1.toks) λb o e=>eS _ e,Gn a _,#[_,jB _ rfl,Z,Z],λb hb=>?_,q];let e:b=s1.heap.objs.size:=by simpa using hb
 subst e;show I1.rM (ay _)^I1.hok.fresh^ay _
theorem NI{Y:St}{R:It->Hp->eL}{lo hi:M}{t u v:Tok}{tk:O}(I:Inv X X1 Y H s)(h1:-(2 ^ 62)<=lo)(h2:lo<2 ^ 62)(h3:-(2 ^ 62)<=hi)(h4:hi<2 ^ 62)
  (q:R (uL lo (hi-lo).toNat) H):wpAny (model bi cq) X.A (pyIter^¬B) (PIE X X1 Y tg R) E { s with heap:=s.heap.push { cls:=.type "range", data:=.fields #v[.int lo t,.int hi u,.int 1 v] },toks:=tk }:=by
 show wpAny_pyIter_range (IsRange.new ..) (small_one h1 h2 h3 h4) ?_;let I1:Inv X X1 Y H { s with heap:=s.heap.push { cls:=.type "range", data:=.fields #v[.int lo t,.int hi u,.int 1 v] },toks:=tk }:=I.kept λb o e=>eS _ e;show#[(s.heap.push { cls:=.type "range", data:=.fields #v[.int lo t,.int hi u,.int 1 v] }).objs.size,[(s.heap.push { cls:=.type "range", data:=.fields #v[.int lo t,.int hi u,.int 1 v] }).objs.size],_,_,H,Z,
  I1.kept (t':=tk) λb o e=>eS _ e,Gp _ lo (hi-lo).toNat,?_,λb hb=>?_,q]
 .have e1:lo+((0:O):M)*1=lo:=by simp
  let e2:(((hi-lo).toNat:O):M)-((0:O):M)=Builtin.Range.rangeSize lo hi 1:=by rw[rangeSize_one];split<;>lia
  change IsRangeIter _ _ (lo+((0:O):M)*1) ((((hi-lo).toNat:O):M)-((0:O):M)) 1;rw[e1,e2];show jB _ rfl
 .have e:b=(s.heap.push { cls:=.type "range", data:=.fields #v[.int lo t,.int hi u,.int 1 v] }).objs.size:=by simpa using hb
  subst e;show I1.rM (ay _)^I1.hok.fresh^ay _
def WU(ta:TA):TI:=λY H R=>ta Y H λvs H1=>∃j:M,vs=[.int j] /\ -(2 ^ 62)<=j/\j<2 ^ 62/\R (uL 0 j.toNat) H1
theorem jW{a:dr}{ta:TA}{p:Pos}(hg:Gl X "range")(hm:X.mg "range" = none)(ha:PA X [a] ta)(hs:starEach [a] ax=[(false,eval a ax)]):PI X tg (.Call (.Name "range" p) [a] [] pos)^WU ta:=by
 intro X1 s Y H R I h;show Call_^jE I hg hm boot_range^jN (dw (ha pos X1 s Y H _ I h) λus s1 zq=>?_) hs Z;let#[vs,H1,I1,r1,q1]:=zq;let#[j,e,q1,q2,q]:=q1;subst e;cases r1 with
 | cons r rr =>
  cases rr;let#[t,Z]:=r;show call_range_1 (NI I1 ∅ ∅ q1 q2 (by simpa using q))
def adR(wi:TI)(g:TG)(tb:TS):TS:=λD Y H=>wi Y H λYa H1=>∃W:O->O->St->Hp->eL,(∃m,W 0 m Y H1)/\∀i m Y H,W i m Y H ->
 (Ya.stop i H/\D.nx Y H)\/(Ya.go i H/\∃N:St->Hp->eL,(∀Y' H',N Y' H'->∃m',m'<m/\W (i+1) m' Y' H')/\∀x H',Ya.Nf i H x H'->g x Y H' λY2 H2=>tb { D with nx:=N,ct:=N,bk:=D.nx } Y2 H2)
noncomputable def uM(fp:List ae)(h:cv):List (ae×du):=fp.filterMap λb=>(h.get? b).map λo=>(b,o)
def iV{o:du}(hb:b∈fp)(e:h.get? b=!o):(b,o)∈uM fp h:=List.mem_filterMap.mpr #[b,hb,by rw[e];rfl]
def Aw{p:ae×du}(hp:p∈uM fp h):p.1∈fp/\h.get? p.1=!p.2:=by
 let#[b,hb,e]:=List.mem_filterMap.mp hp;cases q:h.get? b with
 | none=>rw[q] at e;cases e
 | some o =>
  rw[q] at e;let e':(b,o)=p:=Option.some.inj e;subst e';show#[hb,q]
def Inv.pinned{Y:St}(I:Inv X X1 Y H s)(hf:∀b∈fp,lD X X1 H b)(ho:∀b∈fp,∃o,s.heap.get? b=!o/\∀v,o.data≠.cell v):Inv X (X1++uM fp am) Y H s :=
 I.xr λp hp=>(aM.mp hp).elim (λz=>I.pin p^fS _ z) λz=>by let#[hb,e]:=Aw z;let#[f0,f1,f2,_]:=hf p.1 hb;let#[o,e',d]:=ho p.1 hb;rw[e] at e';cases e';show#[e,f0,f1,f2,d]
def Inv.rN{pl:List (ae×du)}{Y:St}(I:Inv X (X1++pl) Y H s):Inv X X1 Y H s:=I.xr λp hp=>I.pin p^fS _^j8 _ hp
def c7{iter:dr}{wi:TI}(hp:PassesOwn (model bi cq) X.A ax X.xe)(hc:X.calm=ag)(hi:PI X tg iter wi)(hg:PG X tg g)(hb:z8 X body tb)
  (hs:⇑(∀x,foldedSetIterable iter ax x=pure x)):PS X (.For tg iter body [] pos)^adR wi g tb:=by
 intro X1 s Y H D I h;show wpAny_For (dw (hi X1 s Y H _ I h) λv s1 h1=>dw h1 λitv s2 h2=>?_) hs;let#[it,fp,tn,Ya,H2,e,I2,T,Kk,f2,W,#[m0,w0],turn]:=h2;subst e;let Gq:∀{H':Hp},(∀b∈fp,H' b=aw)->∀b∈fp,lD X X1 H' b:=λhn b hb=>#[hn b hb,(f2 b hb).2];show codeAny_forLoop_any (λn s'=>∃i Y' H',Inv X X1 Y' H' s'/\tn i d6/\(∀b∈fp,H' b=aw)/\W i n Y' H') ?_ m0 #[0,Y,H2,I2,Kk,λb hb=>(f2 b hb).1,w0];rintro n s3 ⟨i,FV,H3,I3,st3,fr3,w3⟩;rcases turn i n FV H3 w3 with⟨stop,qn⟩|⟨go,N,hN,step⟩
 .show wpAny_passesOwn hp (dw (T.done X Z rfl rfl hc i X1 s3 FV H3 X.xe I3 (Gq fr3) st3 stop) λr s4 zq=>?_);let#[hr,I4]:=zq;subst hr;show wpAny_execs_nil #[FV,H3,I4,qn]
 .show wpAny_passesOwn hp (dw (T.item X Z rfl rfl hc i X1 s3 FV H3 X.xe I3 (Gq fr3) st3 go) λr s4 zq=>?_);let#[u,hr,h4]:=zq;subst hr;show wpAny_passesOwn hp (dw h4 λz s5 zq=>?_);let#[x,H5,I5,r5,y5,Tc,fr5]:=zq;let I5':=I5.pinned (Gq fr5)^T.obj _ _ Tc;show wpAny_passesOwn hp (dw (hg _ s5 FV H5 x u _ I5' r5^step x H5 y5) λz s6 zq=>?_);let#[Gc,H6,I6,q6]:=zq;show wpAny_passesOwn hp (dw (hb _ s6 Gc H6 _ I6 q6) λf s7 q7=>?_);let again:∀{FX:St}{H7:Hp},Inv X (X1++uM fp s5.heap) FX H7 s7->N FX H7->∃m,m<n/\∃i Y' H',Inv X X1 Y' H' s7/\tn i s7.heap/\(∀b∈fp,H' b=aw)/\W i m Y' H':=λ{FX H7} I7 n7=>by let#[m',hm,w7]:=hN FX H7 n7;show#[m',hm,i+1,FX,H7,I7.rN,T.keep _ _ _ Tc λb hb o e=>(I7.pin (b,o)^fS _^fS _^iV hb e).1,λb hb=>?_,w7];let#[o,e,d]:=T.obj _ _ Tc b hb;show(I7.pin (b,o)^fS _^fS _^iV hb e).2.1
  cases f with
  | next=>let#[FX,H7,I7,n7]:=q7;show again I7 n7
  | cont=>let#[FX,H7,I7,n7]:=q7;show again I7 n7
  | brk=>let#[FX,H7,I7,q7]:=q7;show#[FX,H7,I7.rN,q7]
  | ret v=>let#[x7,FX,H7,I7,r7,q7]:=q7;show#[x7,FX,H7,I7.rN,r7,q7]
end
theorem NJ{Y:St}(Pv:O->St->Hp->eL)(h0:Pv 0 Y H)(hl:∀i Y H,i<=ab->Pv i Y H->bI K H a xs)
  (hs:∀i x Y H,xs[i]?=!x->Pv i Y H->g x Y H λY2 H2=>tb { D with nx:=Pv (i+1),ct:=Pv (i+1),bk:=D.nx } Y2 H2)(hd:∀Y H,Pv ab Y H->D.nx Y H):
  ∃W:O->O->St->Hp->eL,(∃m,W 0 m Y H)/\∀i m Y H,W i m Y H ->
   ((SD K a).stop i H/\D.nx Y H)\/((SD K a).go i H/\∃N:St->Hp->eL,(∀Y' H',N Y' H'->∃m',m'<m/\W (i+1) m' Y' H')/\∀x H',(SD K a).Nf i H x H'->g x Y H' λY2 H2=>tb { D with nx:=N,ct:=N,bk:=D.nx } Y2 H2):=by show#[λi m Y H=>m=ab-i/\i<=ab/\Pv i Y H,#[ab,by simp,aV _,h0],?_];rintro i m Y H ⟨rfl,hi,p⟩;let q:=hl i Y H hi p;by_cases hlt:i<ab;show .inr #[#[xs,xs[i],q,by simp[hlt]],Pv (i+1),λY' H' p'=>#[xs.length-(i+1),∅,Z,hlt,p'],λx H' y=>?_];let#[e,y]:=y;subst e;show hs i x Y _ (y xs q) p;let e:i=xs.length:=∅;subst e;show .inl #[#[xs,q,ay _],hd Y H p]
theorem Td{Y:St}(Pv:O->St->Hp->eL)(h0:Pv 0 Y H)(hl:∀i Y H,i<=ab->Pv i Y H->dD K H a xs)
  (hs:∀i x Y H,xs[i]?=!x->Pv i Y H->g x Y H λY2 H2=>tb { D with nx:=Pv (i+1),ct:=Pv (i+1),bk:=D.nx } Y2 H2)(hd:∀Y H,Pv ab Y H->D.nx Y H):
  ∃W:O->O->St->Hp->eL,(∃m,W 0 m Y H)/\∀i m Y H,W i m Y H ->
   ((SE K a).stop i H/\D.nx Y H)\/((SE K a).go i H/\∃N:St->Hp->eL,(∀Y' H',N Y' H'->∃m',m'<m/\W (i+1) m' Y' H')/\∀x H',(SE K a).Nf i H x H'->g x Y H' λY2 H2=>tb { D with nx:=N,ct:=N,bk:=D.nx } Y2 H2):=by show#[λi m Y H=>m=ab-i/\i<=ab/\Pv i Y H,#[ab,by simp,aV _,h0],?_];rintro i m Y H ⟨rfl,hi,p⟩;let q:=hl i Y H hi p;by_cases hlt:i<ab;show .inr #[#[xs,xs[i],q,by simp[hlt]],Pv (i+1),λY' H' p'=>#[xs.length-(i+1),∅,Z,hlt,p'],λx H' y=>?_];let#[e,y]:=y;subst e;show hs i x Y _ (y xs q) p;let e:i=xs.length:=∅;subst e;show .inl #[#[xs,q,ay _],hd Y H p]
theorem KU{lo:M}{Y:St}(Pv:O->St->Hp->eL)(h0:Pv 0 Y H)
  (hs:∀i Y H,i<n->Pv i Y H->g (.int (lo+i)) Y H λY2 H2=>tb { D with nx:=Pv (i+1),ct:=Pv (i+1),bk:=D.nx } Y2 H2)(hd:∀Y H,Pv n Y H->D.nx Y H):
  ∃W:O->O->St->Hp->eL,(∃m,W 0 m Y H)/\∀i m Y H,W i m Y H ->
   ((uL lo n).stop i H/\D.nx Y H)\/((uL lo n).go i H/\∃N:St->Hp->eL,(∀Y' H',N Y' H'->∃m',m'<m/\W (i+1) m' Y' H')/\∀x H',(uL lo n).Nf i H x H'->g x Y H' λY2 H2=>tb { D with nx:=N,ct:=N,bk:=D.nx } Y2 H2):=by show#[λi m Y H=>m=n-i/\i<=n/\Pv i Y H,#[n,by simp,aV _,h0],?_];rintro i m Y H ⟨rfl,hi,p⟩;by_cases hlt:i<n;show .inr #[hlt,Pv (i+1),λY' H' p'=>#[n-(i+1),∅,Z,hlt,p'],λx H' y=>?_];let#[e,y]:=y;subst e y;show hs i Y _ hlt p;let e:i=n:=∅;subst e;show .inl #[ay _,hd Y H p]
abbrev R2:=V->V->Hp->VK->eL
def lE(X:Cx)(f:J->J->Sem J)(r:R2):eL :=
 ∀(X1:List (ae×du))(s:ap)(Y:St)(H:Hp)(x y:V)(v u:J)(Q:VK),Inv X X1 Y H s->RelV x v->RelV y u->r x y H Q ->
  wpAny (model bi cq) X.A (f v u) (EP X X1 Y Q) X.xe s
def UnR(X:Cx)(f:J->Sem J)(r:V->Hp->VK->eL):eL :=
 ∀(X1:List (ae×du))(s:ap)(Y:St)(H:Hp)(x:V)(v:J)(Q:VK),Inv X X1 Y H s->RelV x v->r x H Q ->
  wpAny (model bi cq) X.A (f v) (EP X X1 Y Q) X.xe s
def ef(X:Cx)(f:J)(r:List V->Hp->VK->eL):eL :=
 ∀(X1:List (ae×du))(s:ap)(Y:St)(H:Hp)(xs:List V)(us:List J)(Q:VK),Inv X X1 Y H s->Vals xs us->r xs H Q ->
  wpAny (model bi cq) X.A (call f us) (EP X X1 Y Q) X.xe s
def ajj(X:Cx)(r:V->Hp->(cf->Hp->eL)->eL):eL :=
 ∀(X1:List (ae×du))(s:ap)(Y:St)(H:Hp)(x:V)(v:J)(Q:cf->Hp->eL),Inv X X1 Y H s->RelV x v->r x H Q ->
  wpAny (model bi cq) X.A (truthy v) (TP X X1 Y Q) X.xe s
def vP(r:R2)(ta tb:TE):TE:=λY H Q=>ta Y H λx H1=>tb Y H1 λy H2=>r x y H2 Q
def tUn(r:V->Hp->VK->eL)(ta:TE):TE:=λY H Q=>ta Y H λx H1=>r x H1 Q
def rI(C:M->M->eL)(g:M->M->V):R2:=λx y H Q=>∃i j,x=.int i/\y=.int j/\C i j/\Q (g i j) H
def Dr(g:M->M->V):R2:=λx y H Q=>∃i j,x=.int i/\y=.int j/\Q (g i j) H
def rU(g:M->V):V->Hp->VK->Prop:=λx H Q=>∃i,x=.int i/\Q (g i) H
section
variable {X:Cx}{a b:dr}{ta tb tc:TE}
def ZC(ha:PE X a ta)(hb:PE X b tb){Y:St}{R:V->V->Hp->eL}(I:Inv X X1 Y H s)
  (h:ta Y H λx H1=>tb Y H1 λy H2=>R x y H2)
  (hf:∀v u s2 x y H2,Inv X X1 Y H2 s2->RelV x v->RelV y u->R x y H2->wpAny (model bi cq) X.A (f v u) Q X.xe s2):
  wpAny (model bi cq) X.A (eval a ax) (λv s₁=>wpAny (model bi cq) X.A (eval b ax) (λu s₂=>wpAny (model bi cq) X.A (f v u) Q X.xe s₂) X.xe s₁) X.xe s:=by show dw (ha X1 s Y H _ I h) λv s1 zq=>?_;let#[x,H1,I1,r1,q1]:=zq;show dw (hb X1 s1 Y H1 _ I1 q1) λu s2 zq=>?_;let#[y,H2,I2,r2,q2]:=zq;show hf v u s2 x y H2 I2 r1 r2 q2
def aB{op:Operator}(ho:lE X (binaryOp op) r)(ha:PE X a ta)(hb:PE X b tb):PE X (.BinOp a op b pos)^vP r ta tb:=by intro X1 s Y H Q I h;show wpAny_BinOp (ZC ha hb I h λv u s2 x y H2 I2 rx ry q=>ho X1 s2 Y H2 x y v u Q I2 rx ry q)
def kP{op:UnaryOp}{r:V->Hp->VK->eL}(ho:UnR X (unaryOp op) r)(ha:PE X a ta):PE X (.UnaryOp op a pos)^tUn r ta:=by intro X1 s Y H Q I h;show UnaryOp_ (dw (ha X1 s Y H _ I h) λv s1 zq=>?_);let#[x,H1,I1,r1,q1]:=zq;show ho X1 s1 Y H1 x v Q I1 r1 q1
def ZD{C:M->M->eL}{g:M->M->M}
  (rule:∀(i j:M)(t u:Tok)(s:ap)(Q:J->ap->eL)(E:J->ap->eL),C i j->Q (.int (g i j) s.toks) { s with toks:=s.toks+1 }->wpAny (model bi cq) X.A (f (.int i t)^.int j u) Q E s):
  lE X f (rI C λi j=>.int^g i j):=by intro X1 s Y H x y v u Q I rx ry h;let#[i,j,Z,Z,hc,q]:=h;let#[t,Z]:=rx;let#[t',Z]:=ry;show rule i j t t' s _ _ hc #[.int^g i j,H,I.tok _,#[_,Z],q]
def NK{g:M->M->M}
  (rule:∀(i j:M)(t u:Tok)(s:ap)(Q:J->ap->eL)(E:J->ap->eL),Q (.int (g i j) s.toks) { s with toks:=s.toks+1 }->wpAny (model bi cq) X.A (f (.int i t)^.int j u) Q E s):
  lE X f (Dr λi j=>.int^g i j):=by intro X1 s Y H x y v u Q I rx ry h;let#[i,j,Z,Z,q]:=h;let#[t,Z]:=rx;let#[t',Z]:=ry;show rule i j t t' s _ _ #[.int^g i j,H,I.tok _,#[_,Z],q]
def Te{g:M->M->cf}
  (rule:∀(i j:M)(t u:Tok)(s:ap)(Q:J->ap->eL)(E:J->ap->eL),Q (.bool^g i j) s->wpAny (model bi cq) X.A (f (.int i t)^.int j u) Q E s):
  lE X f (Dr λi j=>.bl^g i j):=by intro X1 s Y H x y v u Q I rx ry h;let#[i,j,Z,Z,q]:=h;let#[t,Z]:=rx;let#[t',Z]:=ry;show rule i j t t' s _ _ #[.bl^g i j,H,I,Z,q]
def ajk(i j:M):=0<j/\j<1073741824
def adT(i j:M):=0<=j/\j<=1000000/\i.natAbs<2 ^ 64
def ZE(i j:M):=(-(2 ^ 64)<i/\i<2 ^ 64)\/(-(2 ^ 64)<j/\j<2 ^ 64)
def ZE.ok{i j:M}(h:ZE i j):IntMulOk i j:=by rcases h with⟨h1,h2⟩|⟨h1,h2⟩;show .of_left^intBits_le_64 h1 h2;show .of_right^intBits_le_64 h1 h2
def Gr(k:O):(0:M)<=2 ^ k:=by rw[two_pow_cast];show Int.natCast_nonneg _
def cP:lE X (binaryOp .Add) (Dr λi j=>.int (i+j)):=NK λz z z z z z z q=>add_int q
def uN:lE X (binaryOp .Sub) (Dr λi j=>.int (i-j)):=NK λz z z z z z z q=>sub_int q
def mS:lE X (binaryOp .Mult) (rI ZE λi j=>.int (i*j)):=ZD λz z z z z z z hc q=>mul_int q hc.ok
theorem Tf:lE X (binaryOp .FloorDiv) (rI ajk λi j=>.int (i / j)):=ZD λi j z z z z z hc q=>by let h1:(0:M)<j:=hc.1;let h2:j<1073741824:=hc.2;show floordiv_int ∅ (by rw[Int.fdiv_eq_ediv_of_nonneg i ∅];show q) (.inl (PyProof.noPylong_small ∅))
theorem bf:lE X (binaryOp .Mod) (rI (λz j=>0<j) λi j=>.int (i % j)):=ZD λi j z z z z z hc q=>by let h1:(0:M)<j:=hc;show mod_int' ∅ (by rw[Int.fmod_eq_emod_of_nonneg i ∅];show q)
def NL:lE X (binaryOp .Pow) (rI adT λi j=>.int^HPow.hPow i j.toNat):=ZD λz z z z z z z hc q=>pow_int_small hc.1 hc.2.1 hc.2.2 q
def Gs:lE X (binaryOp .LShift) (rI adT λi j=>.int (i*2 ^ j.toNat)):=ZD λz z z z z z z hc q=>lshift_int_small hc.1 hc.2.1 hc.2.2 q
def ZF:lE X (binaryOp .RShift) (rI (λz j=>0<=j) λi j=>.int (i / 2 ^ j.toNat)):=ZD λi j z z z z z hc q =>
 rshift_int hc (by rw[Int.fdiv_eq_ediv_of_nonneg i^Gr _];show q)
def NN:lE X (binaryOp .BitAnd) (Dr λi j=>.int^Builtin.bitAnd i j):=NK λz z z z z z z q=>and_int q
def adU:lE X (binaryOp .BitOr) (Dr λi j=>.int^Builtin.bitOr i j):=NK λz z z z z z z q=>or_int q
def uO:lE X (binaryOp .BitXor) (Dr λi j=>.int^Builtin.bitXor i j):=NK λz z z z z z z q=>xor_int q
def unI{f:J->Sem J}{g:M->M}
  (rule:∀(i:M)(t:Tok)(s:ap)(Q:J->ap->eL)(E:J->ap->eL),Q (.int (g i) s.toks) { s with toks:=s.toks+1 }->wpAny (model bi cq) X.A (f^.int i t) Q E s):
  UnR X f (rU λi=>.int^g i):=by intro X1 s Y H x v Q I rx h;let#[i,Z,q]:=h;let#[t,Z]:=rx;show rule i t s _ _ #[.int^g i,H,I.tok _,#[_,Z],q]
def iE:UnR X (unaryOp .USub) (rU λi=>.int (-i)):=unI λz z z z z q=>neg_int q
end
noncomputable def adV:V->V->cf
 | .cB,.cB=>true|.cB,.int _=>true|.int _,.cB=>true|.cB,.bl _=>true|.bl _,.cB=>true|.cB,.str _=>true|.str _,.cB=>true
 | .int _,.int _=>true|.bl _,.bl _=>true|.str _,.str _=>true|.IJ _,.IJ _=>true
 | .int _,.str _=>true|.str _,.int _=>true|.bl _,.str _=>true|.str _,.bl _=>true
 | _,_=>false
def rEq:R2:=λx y H Q=>adV x y=ag/\Q (.bl (decide (x=y))) H
def rNe:R2:=λx y H Q=>adV x y=ag/\Q (.bl (not (decide (x=y)))) H
def IS{i j:M}:decide (V.int i=V.int j)=(i==j):=by rw[Bool.eq_iff_iff];simp
def NO{i j:cf}:decide (V.bl i=V.bl j)=(i==j):=by rw[Bool.eq_iff_iff];simp
def IT{i j:bc}:decide (V.str i=V.str j)=(i==j):=by rw[Bool.eq_iff_iff];simp
def IU{i j:Array UInt8}:decide (V.IJ i=V.IJ j)=(i.toList==j.toList):=by rw[Bool.eq_iff_iff];cases i;cases j;simp
section
variable {X:Cx}{a b:dr}{ta tb tc:TE}
def cE{Y:St}{Q:VK}{k k':cf}(I:Inv X X1 Y H s)(q:Q (.bl k) H)(e:k=k'):EP X X1 Y Q (.bool k') s:=by subst e;show#[.bl k,H,I,Z,q]
def bR:lE X (compareOp .Eq) rEq:=by
 intro X1 s Y H x y v u Q I rx ry h;let#[hs,q]:=h;cases x with
 | cB =>
  cases rx;cases y with
  | cB=>cases ry;show PySem.EqNone.eq_none_none (cE I q^by simp)
  | bl j=>cases ry;show PySem.EqNone.eq_none_bool (cE I q^by simp)
  | int j=>let#[t',Z]:=ry;show PySem.EqNone.eq_none_int (cE I q^by simp)
  | str j=>let#[t',Z]:=ry;show PySem.EqNone.eq_none_str (cE I q^by simp)
  | _=>show absurd (show false=ag from hs) lI
 | bl i =>
  cases rx;cases y with
  | cB=>cases ry;show PySem.EqNone.eq_bool_none (cE I q^by simp)
  | bl j=>cases ry;show eq_bool^cE I q NO
  | str j=>let#[t',Z]:=ry;show PySem.EqMixed.eq_bool_str (cE I q^by simp)
  | _=>show absurd (show false=ag from hs) lI
 | int i =>
  let#[t,Z]:=rx;cases y with
  | cB=>cases ry;show PySem.EqNone.eq_int_none (cE I q^by simp)
  | int j=>let#[t',Z]:=ry;show eq_int^cE I q IS
  | str j=>let#[t',Z]:=ry;show PySem.EqMixed.eq_int_str (cE I q^by simp)
  | _=>show absurd (show false=ag from hs) lI
 | str i =>
  let#[t,Z]:=rx;cases y with
  | cB=>cases ry;show PySem.EqNone.eq_str_none (cE I q^by simp)
  | bl j=>cases ry;show PySem.EqMixed.eq_str_bool (cE I q^by simp)
  | int j=>let#[t',Z]:=ry;show PySem.EqMixed.eq_str_int (cE I q^by simp)
  | str j=>let#[t',Z]:=ry;show eq_str^cE I q IT
  | _=>show absurd (show false=ag from hs) lI
 | IJ i =>
  let#[t,Z]:=rx;cases y with
  | IJ j=>let#[t',Z]:=ry;show PySem.W.eq_bytes^cE I q IU
  | _=>show absurd (show false=ag from hs) lI
 | _=>cases y<;>show absurd (show false=ag from hs) lI
def rO:lE X (compareOp .NotEq) rNe:=by
 intro X1 s Y H x y v u Q I rx ry h;let#[hs,q]:=h;cases x with
 | cB =>
  cases rx;cases y with
  | cB=>cases ry;show PySem.EqNone.ne_none_none (cE I q^by simp)
  | bl j=>cases ry;show PySem.EqNone.ne_none_bool (cE I q^by simp)
  | int j=>let#[t',Z]:=ry;show PySem.EqNone.ne_none_int (cE I q^by simp)
  | str j=>let#[t',Z]:=ry;show PySem.EqNone.ne_none_str (cE I q^by simp)
  | _=>show absurd (show false=ag from hs) lI
 | bl i =>
  cases rx;cases y with
  | cB=>cases ry;show PySem.EqNone.ne_bool_none (cE I q^by simp)
  | bl j=>cases ry;show ne_bool^cE I q^congrArg not NO
  | str j=>let#[t',Z]:=ry;show PySem.EqMixed.ne_bool_str (cE I q^by simp)
  | _=>show absurd (show false=ag from hs) lI
 | int i =>
  let#[t,Z]:=rx;cases y with
  | cB=>cases ry;show PySem.EqNone.ne_int_none (cE I q^by simp)
  | int j=>let#[t',Z]:=ry;show ne_int^cE I q^congrArg not IS
  | str j=>let#[t',Z]:=ry;show PySem.EqMixed.ne_int_str (cE I q^by simp)
  | _=>show absurd (show false=ag from hs) lI
 | str i =>
  let#[t,Z]:=rx;cases y with
  | cB=>cases ry;show PySem.EqNone.ne_str_none (cE I q^by simp)
  | bl j=>cases ry;show PySem.EqMixed.ne_str_bool (cE I q^by simp)
  | int j=>let#[t',Z]:=ry;show PySem.EqMixed.ne_str_int (cE I q^by simp)
  | str j=>let#[t',Z]:=ry;show ne_str^cE I q^congrArg not IT
  | _=>show absurd (show false=ag from hs) lI
 | IJ i =>
  let#[t,Z]:=rx;cases y with
  | IJ j=>let#[t',Z]:=ry;show PySem.W.ne_bytes^cE I q^congrArg not IU
  | _=>show absurd (show false=ag from hs) lI
 | _=>cases y<;>show absurd (show false=ag from hs) lI
def lK:lE X (compareOp .Lt) (Dr λi j=>.bl (decide (i<j))):=Te λz z z z z z z q=>lt_int q
def adW:lE X (compareOp .LtE) (Dr λi j=>.bl (decide (i<=j))):=Te λz z z z z z z q=>le_int q
def yi:lE X (compareOp .Gt) (Dr λi j=>.bl (decide (j<i))):=Te λz z z z z z z q=>gt_int q
def WV:lE X (compareOp .GtE) (Dr λi j=>.bl (decide (j<=i))):=Te λz z z z z z z q=>ge_int q
def ZG:lE X (compareOp .Is) (λx y H Q=>y=.cB/\Q (.bl (decide (x=.cB))) H):=by
 intro X1 s Y H x y v u Q I rx ry h;let#[Z,q]:=h;cases ry;show is_none_gen^cE I q ?_;cases x<;>first
  | (cases rx;rfl)
  | (let#[t,Z]:=rx;rfl)
def Tg:lE X (compareOp .IsNot) (λx y H Q=>y=.cB/\Q (.bl (not (decide (x=.cB)))) H):=by
 intro X1 s Y H x y v u Q I rx ry h;let#[Z,q]:=h;cases ry;show isnot_none_gen^cE I q ?_;cases x<;>first
  | (cases rx;rfl)
  | (let#[t,Z]:=rx;rfl)
def oA(b:dr)(h:↥(op≠.In))(h2:↥(op≠.NotIn)):behindInMarks op b=false:=by
 let e1:(op==CmpOp.In)=false:=by cases op<;>first|rfl|show absurd Z h
 let e2:(op==CmpOp.NotIn)=false:=by cases op<;>first|rfl|show absurd Z h2
 cases b<;>simp[behindInMarks,e1,e2]
def kQ(ho:lE X (compareOp op) r)(ha:PE X a ta)(hb:PE X b tb)(hm:behindInMarks op b=bj):PE X (.Compare a [op] [b] pos)^vP r ta tb:=by intro X1 s Y H Q I h;show wpAny_Compare1 (ZC ha hb I h λv u s2 x y H2 I2 rx ry q=>ho X1 s2 Y H2 x y v u Q I2 rx ry q) hm
def yj(t:TE):TT:=λY H Q=>t Y H λx H'=>∃k,x=.bl k/\Q k H'
def dJ(ho:lE X (compareOp op) r)(ha:PE X a ta)(hb:PE X b tb)(hm:behindInMarks op b=bj):PT X (.Compare a [op] [b] pos)^yj^vP r ta tb:=by intro X1 s Y H Q I h;show wpAny_isTrue_Compare1 (dw (ha X1 s Y H _ I h) λv s1 zq=>?_) hm;let#[x,H1,I1,r1,q1]:=zq;show dw (hb X1 s1 Y H1 _ I1 q1) λu s2 zq=>?_;let#[y,H2,I2,r2,q2]:=zq;show dw (ho X1 s2 Y H2 x y v u _ I2 r1 r2 q2) λc s3 zq=>?_;let#[z,H3,I3,r3,k,e,q3]:=zq;subst e;cases r3;show wpAny_truthy_bool #[H3,I3,q3]
def Th(K:aC)(x:V)(H:Hp)(k:cf):eL :=
 match x with
 | .cB=>k=bj
 | .bl b=>k=b
 | .int i=>k=(i != 0)
 | .str y=>y.length<=sizeLine/\k=((y.length:M) != 0)
 | .IJ y=>y.size<=sizeLine/\k=((y.size:M) != 0)
 | .ref p=>(∃xs,bI K H p xs/\k = not xs.isEmpty)\/(∃xs,dD K H p xs/\k = not xs.isEmpty)\/∃kvs,H p=!.dK kvs/\k = not kvs.isEmpty
 | _=>False
def Gu{κ:Type}{kvs:List (κ×V)}{vs:List (κ×J)}(r:KV kvs vs):(not vs.isEmpty) = not kvs.isEmpty:=by cases r<;>rfl
def yk{XL:List J}(r:Vals xs XL):(not XL.toArray.isEmpty) = not xs.isEmpty:=by cases r<;>simp
def uP:(sizeLine:O)<2 ^ 63:=by rw[sizeLine_eq];decide
theorem ZH:ajj X (λx H Q=>∃k,Th dq x H k/\Q k H):=by
 intro X1 s Y H x v Q I rx h;let#[k,e,q]:=h;let hl:=uP;let hs:sizeLine=16777216:=sizeLine_eq;cases x with
 | cB =>
  cases rx;let e':k=false:=e;subst e';show truthy_none #[H,I,q]
 | bl b =>
  cases rx;let e':k=b:=e;subst e';show wpAny_truthy_bool #[H,I,q]
 | int i =>
  let#[t,Z]:=rx;let e':k=(i != 0):=e;subst e';show PySem.P.truthy_int #[H,I,q]
 | str y =>
  let#[t,Z]:=rx;obtain⟨hy,e'⟩:y.length<=sizeLine/\k=((y.length:Int) != 0):=e;subst e';show PySem.P.truthy_str ∅ #[H,I.tok _,q]
 | IJ y =>
  let#[t,Z]:=rx;obtain⟨hy,e'⟩:y.size<=sizeLine/\k=((y.size:Int) != 0):=e;subst e';show PySem.W.truthy_bytes ∅ #[H,I.tok _,q]
 | ref p =>
  cases rx;let e':(∃xs,bI dq H p xs/\k = not xs.isEmpty)\/(∃xs,dD dq H p xs/\k = not xs.isEmpty)\/∃kvs,H p=!.dK kvs/\k = not kvs.isEmpty:=e;rcases e' with⟨xs,hx,e'⟩|⟨xs,hx,e'⟩|⟨kvs,hx,e'⟩
  .subst e';let#[XL,r,pl,hz]:=I.list hx;let XB:=eC;show wpAny_truthy_list pl.isList (by erw[bB];lia) #[H,I.tok _,by rw[yk r];show q]
  .subst e';let#[XL,r,pl,hz]:=I.tuple hx;let XB:=eC;show truthy_tuple pl (by erw[bB];lia) #[H,I.tok _,by rw[yk r];show q]
  .subst e';obtain⟨hz,hS,vs,r,m⟩:kvs.length<=sizeLine/\(p==sysModules)=false/\∃vs,KV kvs vs/\s.heap.DictOf (bT X.prog X.w) p vs:=I.hok p _ hx;let XB:bo=vs.length:=kM r;show wpAny_truthy_dict hS m ∅ #[H,I.tok _,by rw[Gu r];show q]
 | _=>show(show False from e).elim
def NP(ha:PE X a ta)(he:∀whole,isTrue a ax whole=(do let v <- whole;standAt a.pos;holding [v]^truthy v)):
  PT X a (λY H Q=>ta Y H λx H'=>∃k,Th dq x H' k/\Q k H'):=by intro X1 s Y H Q I h;show isTrue_plain (dw (ha X1 s Y H _ I h) λv s1 zq=>?_)^he _;let#[x,H1,I1,r1,q1]:=zq;show ZH X1 s1 Y H1 x v Q I1 r1 q1
def Gv:lE X (binaryOp .Add) (λx y H Q=>∃i j,x=.str i/\y=.str j/\i.length+j.length<=sizeLine/\Q (.str (i++j)) H):=by intro X1 s Y H x y v u Q I rx ry h;let#[i,j,Z,Z,hz,q]:=h;let#[t,Z]:=rx;let#[t',Z]:=ry;show add_str (λt' tk=>#[.str (i++j),H,I.tok _,#[_,Z],q]) hz
def vals1{x:V}(r:Vals [x] us):∃u,us=[u]/\RelV x u:=by
 cases r with
 | cons r1 r2=>cases r2;show#[_,Z,r1]
def vals2{x:V}(r:Vals [x,y] us):∃u w',us=[u,w']/\RelV x u/\RelV y w':=by
 cases r with
 | cons r1 r2 =>
  cases r2 with
  | cons r3 r4=>cases r4;show#[_,_,Z,r1,r3]
def KW(hc:X.calm=ag):ef X (.builtin "max") (λxs H Q=>∃i j,xs=[.int i,.int j]/\Q (.int (if j>i then j else i)) H):=by intro X1 s Y H xs us Q I r h;let#[i,j,Z,q]:=h;let#[u,w',Z,#[t,Z],#[t',Z]]:=vals2 r;show max_two_ints (I.ok.hd hc) λh' tk k=>#[_,H,I.kept k,?_,q];by_cases hj:j>i;rw[if_pos hj,if_pos hj];show#[_,Z];rw[if_neg hj,if_neg hj];show#[_,Z]
def KY:ef X (.type "int") (λxs H Q=>(∃i,xs=[.int i]/\Q (.int i) H)\/∃k,xs=[.bl k]/\Q (.int (if k then 1 else 0)) H):=by
 intro X1 s Y H xs us Q I r h;rcases h with⟨i,rfl,q⟩|⟨k,rfl,q⟩
 .let#[u,Z,t,Z]:=vals1 r;show call_int_int #[.int i,H,I,#[_,Z],q]
 .let#[u,Z,r1]:=vals1 r;cases r1;show call_int_bool #[.int (if k then 1 else 0),H,I.tok _,#[_,Z],q]
end
structure Gw (h:Heap) (x dx C:Addr) (mA:Str->Option Value):Prop where
 obj:h.get? x=!PySem.W.instObj C dx
 ns:h.Ns1 dx mA
 ne:dx≠x
def KZ{mA:bc->Option J}(n:h.Ns1 dx mA):∃od,h.get? dx=!od/\∀name,PySem.W.lookIn name od=!mA name:=by
 let#[o,es,ep,ho,hd,hk,_,hm]:=n;show#[o,ho,λname=>?_];let e:=hm name;unfold nsFind findBy at e;rw[<- Array.find?_toList] at e;unfold PySem.W.lookIn;rw[hd];dsimp only;split;ext y q;rw[q] at e;show congrArg some e
 .rename_i q;rw[q] at e;let a:es.toList.any (·.refKey)=false:=by rw[List.any_eq_false];intro y hy;let#[z,t,hkey]:=hk y^Array.mem_toList_iff.mp hy;simp[DictEntry.refKey,hkey]
  let a':Not (es.toList.any (·.refKey)=ag):=by rw[a];show lI
  rw[if_neg a'];show congrArg some e
def Gw.look{x:ae}{mA:bc->Option J}(I:Gw h x dx C mA):∃od,PySem.W.InstAt h x (PySem.W.instObj C dx) C^!od/\∀name,PySem.W.lookIn name od=!(mA name) :=
 let⟨od,ho,hl⟩:=KZ I.ns
 #[od,#[I.obj,Z,Z,ho],hl]
section
variable {x f:ae}{mA:bc->Option J}{v:J}
def get_map{expr:cf}(X:K.In am)(I:Gw am x dx C mA)(hg:PySem.W.plainGet K C name=ag)(hh:PySem.W.hasDictIn K C=ag)
  (ha:PySem.W.findIn K (¬C) name=!none)(hv:mA name=!v)(hv':PySem.W.handedIn v=ag)(h:Q v { s with toks:=s.toks+1 }):
  wpAny (model prog w) A (getAttr (¬x) name expr) Q E s:=by let#[od,Ya,hl]:=I.look;show PySem.W.get_value X Ya (PySem.W.plainGet_of hg).1 (PySem.W.findObj_own hh ha Z^by rw[hl,hv]) hv' h
def NQ{Q:J×List J->ap->eL}(X:K.In am)(I:Gw am x dx C mA)(hg:PySem.W.plainGet K C name=ag)
  (hf:PySem.W.findIn K (¬C) name=!!.ref f)(ht:PySem.W.isFn K^.ref f=ag)(hv:mA name=aw)(h:Q (¬f,[¬x]) s):
  wpAny (model prog w) A (getMethod (¬x) name pl) Q E s:=by let#[od,Ya,hl]:=I.look;show PySem.W.method_fn X Ya (PySem.W.plainGet_of hg).1 (PySem.W.plainGet_of hg).2 hf (beq_iff_eq.mp ht) (by change(PySem.W.lookIn name od).map (·.isSome)=!false;rw[hl,hv];rfl) h
theorem Ti{ns:List bc}{Q:Unit->ap->eL}(X:K.In am)(I:Gw am x dx C mA)
  (hs:PySem.W.findIn K (¬C) "__setattr__" = !!.builtin "object.__setattr__")(hp:PySem.W.plainOver K C=ag)(ht:PySem.W.takerIn K C name=!none)(hh:PySem.W.hasDictIn K C=ag)
  (hw:PySem.Within mA ns)(hsz:ns.length<=sizeLine)
  (h:∀h',Gw h' x dx C (λy=>if y=name then !v else mA y)->Heap.SameBut dx am h'->Q Unit.unit { s with heap:=h',toks:=s.toks+2 }):
  wpAny (model prog w) A (setAttr (¬x) name v) Q E s:=by let#[od,Ya,hl]:=I.look;show PySem.W.set_plain X Ya hs (PySem.W.osa_open (s:={ s with toks:=s.toks+1 }) (r:=none) X Ya hp ht λb=>?_);let#[cd,hc,hd']:=PySem.W.any_some hh;let hx:s.heap.get? x=some #[¬C,!dx,.plain,#[]]:=I.obj;show au^aW^au^au^wpAny_loadPart hx^au^PySem.W.Looks.here (s:={ s with toks:=s.toks+1 }) (PySem.W.looks_clsIn X hc) ?_;rw[hd'];show aW (a:=!dx)^au^aW^au ?_;show wpAny_nsSet1 (s:={ s with toks:=s.toks+1 }) I.ns λh' hn2 Jn=>?_;let#[oD,esD,epD,hoD,hdD,hcD]:=hn2.count^PySem.Within.cons name v hw;show au^wpAny_lookBehind hoD (by rw[hdD];show pastItsLine_dict^bP hcD (by rw[ck];lia)) ?_;show aW^h _ #[(Jn.2 _^aR I.ne).trans I.obj,hn2,I.ne] Jn
def NR{vs:List J}(X:K.In am)(hm:PySem.W.makesIn K C=ag)
  (hi:PySem.W.findIn K (¬C) "__init__" = !!.ref f)(hf:PySem.W.typeIn K^.ref f=!.type "function")
  (h:codeAny (model prog w) (A.under^.builtin "type.__call__" #[.ref C::vs,kw]) (.call (¬f) #[.ref (B+1)::vs,kw]) (PySem.W.InitBack (B+1) R)
   { s with heap:=(s.heap.push PySem.W.emptyDict).push (PySem.W.instObj C B) }):
  codeAny (model prog w) A (.call (¬C) #[vs,kw]) R s:=by let#[hh,g,d,t,os]:=s;show PySem.W.make_core (PySem.W.makes_of X hm) (PySem.W.looks_findIn X hi) (λself=>PySem.W.bind_fn X self hf) (.inl Z) h
end
def fU(f:bc)(v:V):List (bc×V)->List (bc×V)
 | []=>[(f,v)]
 | (g,x)::r=>if g=f then(g,v)::r else(g,x)::fU f v r
theorem vQ(f g:bc)(v:V):∀fs:List (bc×V),(fU f v fs).lookup g=if g=f then !v else fs.lookup g
 | []=>by
  change List.lookup g [(f,v)]=_;by_cases h:g=f;let hb:(g==f)=true:=beq_iff_eq.mpr h;erw[List.lookup,hb,if_pos h];let hb:(g==f)=false:=beq_eq_false_iff_ne.mpr h;erw[List.lookup,hb,if_neg h]
 | (k,x)::r=>by let ih:=vQ f g v r;rw[show fU f v ((k,x)::r)=(if k=f then(k,v)::r else(k,x)::fU f v r) from Z];by_cases hk:k=f;rw[if_pos hk];by_cases h:g=k;let hb:(g==k)=true:=beq_iff_eq.mpr h;erw[List.lookup,hb,if_pos^h.trans hk];let hb:(g==k)=false:=beq_eq_false_iff_ne.mpr h;erw[List.lookup,hb,if_neg (λe:g=f=>h^e.trans hk.symm)];rw[if_neg hk];by_cases h:g=k;let hb:(g==k)=true:=beq_iff_eq.mpr h;erw[List.lookup,hb,if_neg (λe:g=f=>hk^h.symm.trans e)];let hb:(g==k)=false:=beq_eq_false_iff_ne.mpr h;erw[List.lookup,hb];show ih
theorem uQ(f:bc)(v:V):∀fs:List (bc×V),f∈(fU f v fs).map (·.1)/\∀g,g∈fs.map (·.1)->g∈(fU f v fs).map (·.1)
 | []=>#[by simp[fU],λg h=>by simp at h]
 | (k,x)::r=>by
  let#[i1,i2]:=uQ f v r;rw[show fU f v ((k,x)::r)=(if k=f then(k,v)::r else(k,x)::fU f v r) from Z];by_cases hk:k=f;rw[if_pos hk];subst hk;show#[by simp,λg h=>by simpa using h]
  .rw[if_neg hk];show#[?_,λg h=>?_];rw[cN];show d8 _ i1
   .rw[cN] at h ⊢;rcases aP.mp h with e|e;show aP.mpr^.inl e;show d8 _^i2 g e
theorem vR(f:bc)(v:V):∀fs:List (bc×V),(fU f v fs).length<=fs.length+1
 | []=>by simp[fU]
 | (k,x)::r=>by let ih:=vR f v r;rw[show fU f v ((k,x)::r)=(if k=f then(k,v)::r else(k,x)::fU f v r) from Z];by_cases hk:k=f;rw[if_pos hk,ck,ck];lia;rw[if_neg hk,ck,ck];lia
def lC.some_of{o:Option J}(r:lC (!v) o):∃u,o=!u/\RelV v u:=by
 cases o with
 | none=>show(show False from r).elim
 | some u=>show#[u,Z,r]
def lC.none_of{o:Option J}(r:lC aw o):o=none:=by
 cases o with
 | none=>rfl
 | some u=>show(show False from r).elim
def K0(r:RelV v u):PySem.W.handedIn u=true:=by
 cases v with
 | cB=>cases(show u=Value.none from r);rfl
 | bl b=>cases(show u=Value.bool b from r);rfl
 | int i=>let#[t,e]:=(show ∃t,u=Value.int i t from r);cases e;rfl
 | str x=>let#[t,e]:=(show ∃t,u=Value.str x t from r);cases e;rfl
 | IJ b=>let#[t,e]:=(show ∃t,u=Value.bytes b t from r);cases e;rfl
 | Zn b=>let#[t,e]:=(show ∃t,u=Value.float b t from r);cases e;rfl
 | ref a=>cases(show u=Value.ref a from r);rfl
 | ty n=>cases(show u=Value.type n from r);rfl
section
variable {H H':Hp}{fs IN:List (bc×V)}
def xw(hok:qC P w H h)(e:H a=!.ins C dx fs):∃mA,Gw h a dx C mA/\(∀f,lC (fs.lookup f)^mA f)/\PySem.Within mA^fs.map (·.1)/\fs.length<=1000/\H dx=!.own a:=by let#[d,z,ne,ob,mA,n,r,q]:=(show dQ P w H h a^.ins C dx fs from hok a _ e);show#[mA,#[ob,n,ne],r,q,z,d]
end
structure Dh (K:aC) (C:Addr):Prop where
 pg:PySem.W.plainGet K C Str.empty=true
 hd:PySem.W.hasDictIn K C=true
 po:PySem.W.plainOver K C=true
 sa:PySem.W.findIn K (¬C) "__setattr__" = !!.builtin "object.__setattr__"
def Dh.get(c:Dh K C)(f:bc):PySem.W.plainGet K C f=true:=c.pg
def eV(K:aC)(C:ae)(f:bc):=PySem.W.findIn K (¬C) f=!none
def eV.adX{f:bc}(n:eV K C f):PySem.W.takerIn K C f=!none:=by unfold PySem.W.takerIn;rw[show PySem.W.findIn K (¬C) f=!none from n];rfl
structure Meth (K:aC) (C:Addr) (m:Str) (f:Addr):Prop where
 at_:PySem.W.findIn K (¬C) m=!!.ref f
 fn:PySem.W.isFn K^.ref f=true
 kp:PySem.W.keepIn K^.ref f=true
section
variable {X:Cx}{Y:St}{H:Hp}{fs:List (bc×V)}{f:bc}{v:V}
def yl{b:cf}(I:Inv X X1 Y H s)(e:H a=!.ins C dx fs)(c:Dh dq C)(n:eV dq C f)(l:fs.lookup f=!v)
  (h:∀u s',Inv X X1 Y H s'->RelV v u->Q u s'):wpAny (model bi cq) A (getAttr (¬a) f b) Q E s:=by let#[mA,X2,r,_,_,_]:=xw I.hok e;let#[u,hu,ru]:=lC.some_of (v:=v) (o:=mA f) (by rw[<- l];show r f);show get_map I.rK X2 (c.get f) c.hd n hu (K0 ru)^h u _ (I.tok _) ru
def ym{g:ae}{Q:J×List J->ap->eL}(I:Inv X X1 Y H s)(e:H a=!.ins C dx fs)(c:Dh dq C)(k:Meth dq C m g)(l:fs.lookup m=aw)
  (h:Q (¬g,[¬a]) s):wpAny (model bi cq) A (getMethod (¬a) m pl) Q E s:=by let#[mA,X2,r,_,_,_]:=xw I.hok e;let hn:mA m=none:=lC.none_of (by rw[<- l];show r m);show NQ I.rK X2 (c.get m) k.at_ k.fn hn h
theorem yo{Q:Unit->ap->eL}(I:Inv X X1 Y H s)(e:H a=!.ins C dx fs)(c:Dh dq C)(n:eV dq C f)(hl:fs.length<1000)(ry:RelV y u)
  (h:∀s',Inv X X1 Y (upd H a^.ins C dx^fU f y fs) s'->Q Unit.unit s'):wpAny (model bi cq) A (setAttr (¬a) f u) Q E s:=by
 let#[mA,X2,r,wi,_,ho]:=xw I.hok e;let hz:(fs.map (·.1)).length<=sizeLine:=by rw[aq,sizeLine_eq];lia
 show Ti I.rK X2 c.sa c.po n.adX c.hd wi hz λh' O' sb=>h _ ?_;let hd:∃o,h'.get? dx=!o:=let⟨o,_,_,e',_⟩:=O'.ns;#[o,e'];show I.write (x:=a) (e:=dx) (by rw[e];show gw) (.inr ho) (λb q hb z=>(sb.2 b hb).trans z) hd ?_;show#[by rw[cg X2.ne];show ho,?_,X2.ne,O'.obj,_,O'.ns,λg=>?_,λg hg=>?_];have:=vR f y fs;lia;change lC ((fU f y fs).lookup g) (if g=f then !u else mA g);rw[vQ];by_cases q:g=f;rw[if_pos q,if_pos q];show ry;rw[if_neg q,if_neg q];show r g;by_cases q:g=f;rw[q];show(uQ f y fs).1;show(uQ f y fs).2 g (wi g λz=>hg ?_);change(if g=f then !u else mA g)=aw;rw[if_neg q];show z
def Inv.made(I:Inv X X1 Y H s):Inv X X1 Y (upd (upd H B^.own (B+1)) (B+1)^.ins C B [])
  { s with heap:=(s.heap.push PySem.W.emptyDict).push (PySem.W.instObj C B) }:=by
 let e1:(s.heap.push PySem.W.emptyDict).get? B=!PySem.W.emptyDict:=jB am Z;let e2:((s.heap.push PySem.W.emptyDict).push^PySem.W.instObj C B).get? (B+1)=!PySem.W.instObj C s.heap.objs.size:=by have:=jB (s.heap.push PySem.W.emptyDict) (o:=PySem.W.instObj C B) Z;rwa [fJ] at this
 let e3:(s.heap.push PySem.W.emptyDict).Ns B (λz=>none):=#[PySem.W.emptyDict,#[],_,e1,Z,(λe he=>absurd he^by simp),λz=>rfl];let I1:=I.laid (a:=B) (o:=.own (B+1)) (h':=s.heap.push PySem.W.emptyDict) (t':=s.toks) (λb u q=>eS _ q) (ay _) #[_,e1];show I1.laid (a:=B+1) (o:=.ins C B []) (t':=s.toks) (λb u q=>eS _ q) (Nat.le_of_eq^fJ _ _) ?_;let ne:B≠B+1:=aU^fZ _;show#[by rw[cg ne,j9],aV _,ne,e2,λz=>none,(Heap.Ns1.of_empty e3).at λo q=>eS _ q,λz=>gw,λy hy=>absurd Z hy]
def Tj{env:Env}(hb:attributeBase e f env^eval e env=eval e env)
  (h:wpAny (model prog w) A (eval e env) (λo s₁=>wpAny (model prog w) A (getAttr o f ag) Q E s₁) E s):wpAny (model prog w) A (eval (.Attribute e f pos) env) Q E s :=
 Attribute_any_ h (by rw[arm_eval_Attribute,hb])
end
def K1(K:aC)(ta:TE)(f:bc):TE:=λY H Q=>ta Y H λx H1=>∃a C dx fs v,x=¬a/\H1 a=!.ins C dx fs/\Dh K C/\eV K C f/\fs.lookup f=!v/\Q v H1
def adY(K:aC)(ta tv:TE)(f:bc):TS:=λD Y H=>tv Y H λy H1=>ta Y H1 λx H2=>∃a C dx fs,x=¬a/\H2 a=!.ins C dx fs/\Dh K C/\eV K C f/\fs.length<1000 /\
 D.nx Y^upd H2 a^.ins C dx^fU f y fs
def Tn(X:Cx)(op:Operator)(rd:V->V->Hp->VK->eL):eL :=
 ∀(X1:List (ae×du))(s:ap)(Y:St)(H:Hp)(x y:V)(u v:J)(Q:VK),Inv X X1 Y H s->RelV x u->RelV y v->rd x y H Q->wpAny (model bi cq) X.A (inplaceOp op u v) (EP X X1 Y Q) X.xe s
def IV(K:aC)(ta tv:TE)(rd:V->V->Hp->VK->eL)(f:bc):TS:=λD Y H=>ta Y H λx H1=>∃a C dx fs v,x=¬a/\H1 a=!.ins C dx fs/\Dh K C/\eV K C f/\fs.lookup f=!v /\
 tv Y H1 λy H2=>rd v y H2 λz H3=>∃dx' IN,H3 a=!.ins C dx' IN/\IN.length<1000/\D.nx Y^upd H3 a^.ins C dx'^fU f z IN
section
variable {X:Cx}{o:dr}{f:bc}{ta tv:TE}
def dB(he:PE X e ta)(hb:attributeBase e f ax^eval e ax=eval e ax):PE X (.Attribute e f pos)^K1 dq ta f:=by intro X1 s Y H Q I h;show Tj hb (dw (he X1 s Y H _ I h) λu s1 zq=>?_);let#[x,H1,I1,rx,a,C,dx,fs,v,ex,ea,c,n,l,q]:=zq;subst ex;obtain rfl:u=Value.ref a:=rx;show yl I1 ea c n l λu' s2 I2 ru=>#[v,H1,I2,ru,q]
def g8(ha:PE X o ta)(hv:PE X value tv)(hs:swapsWith value (!.Attribute o f QP) pos.line ax=pure bj):PS X (.Assign [.Attribute o f QP] value pos)^adY dq ta tv f:=by intro X1 s Y H D I h;show plainObj_wpAny_Assign_Attribute (dw (hv X1 s Y H _ I h) λu s1 zq=>?_) hs;let#[y,H1,I1,ry,q]:=zq;show dw (ha X1 s1 Y H1 _ I1 q) λov s2 zq=>?_;let#[x,H2,I2,rx,a,C,dx,fs,ex,ea,c,n,l,q2]:=zq;subst ex;obtain rfl:ov=Value.ref a:=rx;show yo I2 ea c n l ry λs3 I3=>#[Y,_,I3,q2]
def K2{op:Operator}{rd:V->V->Hp->VK->eL}(ha:PE X o ta)(hv:PE X value tv)(hop:Tn X op rd):PS X (.AugAssign (.Attribute o f tpos) op value pos)^IV dq ta tv rd f:=by intro X1 s Y H D I h;show wpAny_AugAssign_AttributeAny (dw (ha X1 s Y H _ I h) λov s1 zq=>?_);let#[x,H1,I1,rx,a,C,dx,fs,v,ex,ea,c,n,l,q]:=zq;subst ex;obtain rfl:ov=Value.ref a:=rx;show yl I1 ea c n l λu s2 I2 ru=>dw (hv X1 s2 Y H1 _ I2 q) λw3 s3 zq=>?_;let#[y,H2,I3,ry,q3]:=zq;show dw (hop X1 s3 Y H2 v y u w3 _ I3 ru ry q3) λw4 s4 zq=>?_;let#[z,H3,I4,rz,dx',IN,ea',l',q4]:=zq;show yo I4 ea' c n l' rz λs5 I5=>#[Y,_,I5,q4]
def adZ:V->V->Hp->VK->Prop:=λx y H Q=>∃i j,x=.int i/\y=.int j/\Q (.int (i+j)) H
def ad0:V->V->Hp->VK->Prop:=λx y H Q=>∃i j,x=.int i/\y=.int j/\Q (.int (i-j)) H
def ZI:Tn X .Add adZ:=by rintro X1 s Y H x y u v Q I rx ry ⟨i,j,rfl,rfl,q⟩;let#[t,Z]:=(show ∃t,u=Value.int i t from rx);let#[t',Z]:=(show ∃t',v=Value.int j t' from ry);show PyProof.Rows.iadd_int #[.int (i+j),H,I.tok _,#[_,Z],q]
def ZJ:Tn X .Sub ad0:=by rintro X1 s Y H x y u v Q I rx ry ⟨i,j,rfl,rfl,q⟩;let#[t,Z]:=(show ∃t,u=Value.int i t from rx);let#[t',Z]:=(show ∃t',v=Value.int j t' from ry);show PyProof.Rows.isub_int #[.int (i-j),H,I.tok _,#[_,Z],q]
end
section
variable {X:Cx}{Y:St}{H:Hp}{Q:J->ap->eL}{c:J}{b:cf}
inductive qE (K:aC) (H:Hp):V->Value->Prop where
 | cB:qE K H .cB^.type "NoneType"
 | bl (x:Bool):qE K H (.bl x)^.type "bool"
 | int (i:Int):qE K H (.int i)^.type "int"
 | str (x:Str):qE K H (.str x)^.type "str"
 | Zn (x:UInt64):qE K H (.Zn x)^.type "float"
 | lst {a:Addr} {xs:List V} (e:H a=!.lst xs):qE K H (¬a)^.type "list"
 | IK {a:Addr} {o:Obj} {xs:List V} (e:H a=!.IK o^.lst xs):qE K H (¬a)^.type "list"
 | tup {a:Addr} {xs:List V} (e:H a=!.tup xs):qE K H (¬a)^.type "tuple"
 | dK {a:Addr} {kvs:List (Key×V)} (e:H a=!.dK kvs):qE K H (¬a)^.type "dict"
 | dT {a:Addr} {kvs:List (List Key×V)} (e:H a=!.dT kvs):qE K H (¬a)^.type "dict"
 | ins {a C dx:Addr} {fs:List (Str×V)} (e:H a=!.ins C dx fs) (cl:Dh K C) (ha:PySem.W.findIn K (¬C) "__class__" = !!.builtin "object.__class__")
   (hn:PySem.W.specialIn K (.builtin "object.__class__") "__get__" = !!.builtin "getset_descriptor.__get__") (KF:PySem.W.takesIn K^.builtin "object.__class__"=!true)
   (hm:PySem.W.mroIn K C^.type "object"=!true):qE K H (¬a)^¬C
def K3{x:V}{t:J}(I:Inv X X1 Y H s)(rx:RelV x u)(ty:qE dq H x t)(e:PySem.W.kitOne dq t c=!b)(h:∀tk,Q (.bool b) { s with toks:=tk }):
  wpAny (model bi cq) A (call (.builtin "isinstance") [u,c]) Q E s:=by
 cases ty with
 | cB=>cases(show u=Value.none from rx);show gR PySem.W.kitx_none I.rK gw e (λz=>nomatch z) h
 | bl y=>cases(show u=Value.bool y from rx);show gR PySem.W.kitx_bool I.rK gw e (λz=>nomatch z) h
 | int i=>let#[t,q]:=(show ∃t,u=Value.int i t from rx);cases q;show gR PySem.W.kitx_int I.rK gw e (λz=>nomatch z) h
 | str y=>let#[t,q]:=(show ∃t,u=Value.str y t from rx);cases q;show gR PySem.W.kitx_str I.rK gw e (λz=>nomatch z) h
 | Zn y=>let#[t,q]:=(show ∃t,u=Value.float y t from rx);cases q;show gR PySem.W.kitx_float I.rK gw e (λz=>nomatch z) h
 | @lst a xs ea =>
  cases(show u=Value.ref a from rx);let#[_,_,n,_,h1]:=(show dQ bi cq H am a^.lst xs from I.hok a _ ea);show gR PySem.W.kitx_list I.rK #[_,h1,Z] e (λz=>nomatch z) h
 | @IK a ob xs ea =>
  cases(show u=Value.ref a from rx);let#[_,_,_,n,_,h1]:=(show dQ bi cq H am a^.IK ob^.lst xs from I.hok a _ ea);show gR PySem.W.kitx_list I.rK #[_,h1,Z] e (λz=>nomatch z) h
 | @tup a xs ea =>
  cases(show u=Value.ref a from rx);let#[_,_,_,p]:=(show dQ bi cq H am a^.tup xs from I.hok a _ ea);let#[o,h1,h2,_]:=p;show gR PySem.W.kitx_tuple I.rK #[o,h1,h2] e (λz=>nomatch z) h
 | @dK a kvs ea =>
  cases(show u=Value.ref a from rx);let#[_,_,vs,_,p]:=(show dQ bi cq H am a^.dK kvs from I.hok a _ ea);let#[o,es,ep,h1,h2,_]:=p;show gR PySem.W.kitx_dict I.rK #[o,h1,h2.1] e (λz=>nomatch z) h
 | @dT a kvs ea =>
  cases(show u=Value.ref a from rx);let#[_,_,xs,_,o,es,ep,h1,h2,_]:=(show dQ bi cq H am a^.dT kvs from I.hok a _ ea);show gR PySem.W.kitx_dict I.rK #[o,h1,h2.1] e (λz=>nomatch z) h
 | @ins a C dx fs ea cl ha hn KF hm =>
  cases(show u=Value.ref a from rx);let#[mA,X2,_]:=xw I.hok ea;let#[od,Ya,_]:=X2.look;show gR (PySem.W.kitx_own (cl.get _) cl.hd ha hn KF hm) I.rK Ya e (λz=>nomatch z) h
end
structure iW (k:Nat) (A:Around):Prop where
 hd:A.handled=none
 dp:A.depth+3*k+5<recursionLimit
 un:A.units+16*k+200<cLine
theorem iW.mono{j k:O}{A:Around}(r:iW k A)(h:j<=k):iW j A:=#[r.hd,by have:=r.dp;lia,by have:=r.un;lia]
theorem iW.deeper(r:iW (k+1) A)(env:Env):iW k (A.deeper env) :=
 #[r.hd,by have:=r.dp;change A.depth+1+3*k+5<_;lia,by have:=r.un;change A.units+3+16*k+200<_;lia]
def Gx:(A.under^.builtin "type.__call__" #[.ref C::us,kw]).depth=A.depth+1:=by
 first|rfl|simp[Around.under,Code.weight,Code.isCreation,Code.isGuard,Code.isCaller,Code.frames,Code.isFrame,guardIds]
def Gy:(A.under^.builtin "type.__call__" #[.ref C::us,kw]).units=A.units+1:=by
 first|rfl|simp[Around.under,Code.cUnits,Code.frames,Code.isFrame]
theorem iW.make(r:iW (k+1) A)(C:ae)(us:List J)(kw:List (bc×J)):iW k (A.under^.builtin "type.__call__" #[.ref C::us,kw]) :=
 #[r.hd,by have:=r.dp;rw[Gx];lia,by have:=r.un;rw[Gy];lia]
theorem iW.depth(r:iW k A):A.depth<recursionLimit:=by have:=r.dp;lia
theorem iW.units(r:iW k A):A.units+64<cLine:=by have:=r.un;lia
def qF:TA:=λz H Q=>Q [] H
def ql(ta:TE)(tr:TA):TA:=λY H Q=>ta Y H λx H1=>tr Y H1 λxs H2=>Q (x::xs) H2
section
variable {X:Cx}{te:TE}{t:TA}
def ai:PA X [] qF:=λz z z z H Q I h=>nW #[[],H,I,.nil,h]
def aa(ha:PE X e te)(hr:PA X es t)(hs:⇑(starEach (e::es) ax=(false,eval e ax)::starEach es X.env)):PA X (e::es)^ql te t:=by intro pos X1 s Y H Q I h;rw[hs];change wpAny _ _ (spliced ((false,eval e ax)::backTo pos^starEach es ax)) _ _ s;show mH (dw (ha X1 s Y H _ I h) λu s1 zq=>?_);let#[x,H1,I1,r1,q1]:=zq;show dw (hr pos X1 s1 Y H1 _ I1 q1) λus s2 zq=>?_;let#[xs,H2,I2,r2,q2]:=zq;show#[x::xs,H2,I2,.cons r1 r2,q2]
def K4(t:TA):TE:=λY H Q=>t Y H λxs H1=>ab<=sizeLine/\∀p,H1 p=aw->Q (¬p)^upd H1 p^.tup xs
def ZK(t:TA):TE:=λY H Q=>t Y H λxs H1=>ab<=sizeLine/\∀p,H1 p=aw->Q (¬p)^upd H1 p^.lst xs
def aN{x1}(h:PA X es t):PE X (.Tuple es x1 pos)^K4 t:=by intro X1 s Y H Q I hq;show wpAny_Tuple_spliced (dw (h pos X1 s Y H _ I hq) λus s1 zq=>?_);let#[xs,H1,I1,r,z,q]:=zq;show #[by rw[<- eC];show z,?_];let hf:H1 bn=none:=I1.hok.fresh^ay _;show#[¬bn,upd H1 bn^.tup xs,I1.laid (t':=s1.toks) (λb u e=>eS _ e) (ay _) ?_,Z,q _ hf];show#[z,us,r,#[_,jB _ rfl,Z,_,Z]]
def aX(h:PA X es t):PE X (.List es pos)^ZK t:=by intro X1 s Y H Q I hq;show wpAny_List_spliced (dw (h pos X1 s Y H _ I hq) λus s1 zq=>?_);let#[xs,H1,I1,r,z,q]:=zq;show #[by rw[<- eC];show z,?_];let hf:H1 bn=none:=I1.hok.fresh^ay _;show#[¬bn,upd H1 bn^.lst xs,I1.laid (t':=s1.toks) (λb u e=>eS _ e) (ay _) ?_,Z,q _ hf];show#[z,us,0,r,jB _ rfl]
end
abbrev Sp:=List V->Hp->VK->XK->eL
abbrev Ng:=List Env->Hp->ap->XK->J->ap->eL
structure Gz (P:Program) (w:World) (K:aC) (mg:Str->Option Value) (base:Heap) (A:Around) (outer:List Env) (s:Shared) (H:Hp):Prop where
 frames:A.frames=!outer
 mod:Mod K mg base
 bs:∀b o,base.get? b=!o->s.heap.get? b=!o/\H b=none
 WL:base.objs.size<=s.heap.objs.size
 wX:s.heap.FunFrames base outer
 Zq:∀b∈frs outer,H b=none
 hok:qC P w H s.heap
 bare:AllBare s.gens
def CE(outer:List Env)(P:de)(w:cw)(H:Hp)(s:ap)(Q:VK)(u:J)(s':ap):eL :=
 ∃v H',s'.os=s.os/\AllBare s'.gens/\Un (frs outer) [] H H' am d6/\qC P w H' d6/\RelV v u/\Q v H'
def CR(CX:Ng)(outer:List Env)(P:de)(w:cw)(H:Hp)(s:ap)(Q:VK)(E:XK)(r:Result)(s':ap):eL :=
 match r with
 | .ok (.ret u)=>CE outer P w H s Q u s'
 | .ok _=>False
 | .error e=>CX outer H s E e s'
structure bS (P:Program) (w:World) (K:aC) (mg:Str->Option Value) (base:Heap) (CX:Ng) (k:Nat) (f:Addr) (fd:FuncData) (ps:List Str) (sp:Sp):Prop where
 len:∀vs H Q E,sp vs H Q E->vs.length=ps.length
 run:∀(A:Around)(outer:List Env)(s:Shared)(H:Hp)(args:Args)(us:List Value)(vs:List V)(Q:VK)(E:XK),iW k A->Gz P w K mg base A outer s H->BindsTo s fd args^ps.zip us->Vals vs us->sp vs H Q E ->
  codeAny (model P w) A (.call (¬f) args) (CR CX outer P w H s Q E) s
def bS.imp{f:ae}{sp sp':Sp}(F:bS P w K mg base CX k f fd ps sp)
  (h:∀vs H Q E,sp' vs H Q E->sp vs H Q E):bS P w K mg base CX k f fd ps sp' :=
 #[λvs H Q E q=>F.len vs H Q E^h _ _ _ _ q,λA outer s H args us vs Q E hr he hb hv hs=>F.run A outer s H args us vs Q E hr he hb hv^h _ _ _ _ hs]
def Gz.make{outer:List Env}(e:Gz P w K mg base A outer s H)(C:ae)(us:List J)(kw:List (bc×J)):
  Gz P w K mg base (A.under^.builtin "type.__call__" #[.ref C::us,kw]) outer s H:=#[by first|show e.frames|(simpa[Around.under,Code.envs,Code.isFrame,pushEnvs] using e.frames),e.mod,e.bs,e.WL,e.wX,e.Zq,e.hok,e.bare]
section
variable {X:Cx}{Y:St}{H:Hp}{s':ap}
def Inv.ad1(I:Inv X X1 Y H s):Gz bi cq dq X.mg X.base X.A X.stack s H :=
 #[I.ok.frames,I.ok.mod,I.bs,bP I.ok.WL I.sz,I.stack,I.IL,I.hok,I.bare]
def Inv.after{Q:VK}(I:Inv X X1 Y H s)(h:CE X.stack bi cq H s Q u s'):EP X X1 Y Q u s':=by let#[v,H',os,bare,un,hok,r,q]:=h;let#[hh,g,d,t,os']:=s';obtain rfl:os'=s.os:=os;show#[v,H',I.call (h':=hh) (g':=g) (d':=d) (t':=t) (ch:=[]) un hok bare (λb z=>absurd z^by simp),r,q]
end
def NS(sp:Sp)(Ad:List V)(E:XK)(t:TA):TE:=λY H Q=>t Y H λvs H1=>sp (vs++Ad) H1 Q E
def Ax(C:ae)(m:bc)(sp:Sp)(Ad:List V)(E:XK)(ta:TE)(t:TA):TE:=λY H Q=>ta Y H λx H1=>∃a dx fs,x=¬a/\H1 a=!.ins C dx fs/\fs.lookup m=aw /\
 t Y H1 λvs H2=>sp (x::(vs++Ad)) H2 Q E
def WW(C:ae)(sp:Sp)(Ad:List V)(E:XK)(t:TA):TE:=λY H Q=>t Y H λvs H1=>∀x dx,H1 x=aw->H1 dx=aw->dx≠x ->
 sp (.ref x::(vs++Ad)) (upd (upd H1 dx^.own x) x^.ins C dx []) (λv H2=>v=.cB/\Q (¬x) H2) E
def Binds(K:aC)(fd:FuncData)(ps:List bc)(ds:List J):eL :=
 ∀(s:ap)(us:List J),K.In am->(us++ds).length=ci->BindsTo s fd #[us,[]]^ps.zip (us++ds)
def Binds.all(h:∀us:List J,dv=ci->bindArgs fd #[us,[]]=pure^ps.zip us):Binds K fd ps []:=λs us z hl=>by rw[cZ] at hl ⊢;show .of_eq^h us hl
def Passes(CX:Ng)(X:Cx)(E:XK):=∀(X1:List (ae×du))(Y:St)(H:Hp)(s:ap)(e:J)(s':ap),Inv X X1 Y H s->CX X.stack H s E e s'->X.xe e s'
section
variable {X:Cx}{CX:Ng}{f:ae}{sp:Sp}{Ad:List V}{ds:List J}{E:XK}{p:Pos}{o:dr}{ta:TE}{t:TA}
def GA{Y:St}{Q:VK}(F:bS bi cq dq X.mg X.base CX k f fd ps sp)(hr:iW k X.A)(hb:Binds dq fd ps ds)(hd:Vals Ad ds)(hx:Passes CX X E)
  (I:Inv X X1 Y H s)(r:Vals vs us)(h:sp (vs++Ad) H Q E):wpAny (model bi cq) X.A (call (¬f) us) (EP X X1 Y Q) X.xe s:=by
 let r2:Vals (vs++Ad) (us++ds):=r.append hd;let hl:(us++ds).length=ps.length:=by rw[<- r2.length];show F.len _ _ _ _ h
 show wpAny_call (codeAny_mono (F.run X.A X.stack s H #[us,[]] (us++ds) (vs++Ad) Q E hr I.ad1 (hb s us I.rK hl) r2 h) λr s' hq=>?_);cases r with
 | error e=>show hx X1 Y H s e s' I hq
 | ok fl =>
  cases fl with
  | ret u=>show I.after hq
  | next=>show False.elim hq
  | brk=>show False.elim hq
  | cont=>show False.elim hq
def BN(F:bS bi cq dq X.mg X.base CX k f fd ps sp)(hr:iW k X.A)(hg:Gl X x)(hm:X.mg x=!.ref f)(hk:PySem.W.keepIn dq^.ref f=ag)(hb:Binds dq fd ps ds)(hd:Vals Ad ds)(hx:Passes CX X E)
  (ha:PA X (e::es) t)(hdb:↥((x==("__debug__" : bc))=false))(he:⇑(starEach (e::es) ax=(false,eval e ax)::starEach es X.env))(TD:⇑((backTo pos^starEach es ax).any (·.1)=false)):
  PE X (.Call (.Name x p) (e::es) [] pos)^NS sp Ad E t:=by intro X1 s Y H Q I h;show wpAny_Call_Name_kw^BJ I hg hm ?_ hdb;show PySem.W.callWith_K (h₀:=X.base) I.ok.mod.Zp hk (dw (ha pos X1 s Y H _ I h) λus s1 zq=>?_) he TD;let#[vs,H1,I1,r,q]:=zq;show#[I1.rK,?_];show GA F hr hb hd hx I1 r q
def jg(he:PE X o ta)(c:Dh dq C)(hm:Meth dq C m f)(F:bS bi cq dq X.mg X.base CX k f fd ps sp)(hr:iW k X.A)(hb:Binds dq fd ps ds)(hd:Vals Ad ds)(hx:Passes CX X E)(ha:PA X (e::es) t)
  (TW:⇑(starEach (e::es) ax=(false,eval e ax)::starEach es X.env))(TD:⇑((backTo pos^starEach es ax).any (·.1)=false))
  (ht:⇑(eval (.Call (.Attribute o m TB) (e::es) [] pos) ax=(do
   let ov <- eval o ax
   standAt TB.atName
   let(f,fi) <- holding [ov] (getMethod ov m pl)
   callWith pos f fi (backTo pos^starEach (e::es) ax)^backToKw pos^keywordEach [] ax))):
  PE X (.Call (.Attribute o m TB) (e::es) [] pos)^Ax C m sp Ad E ta t:=by intro X1 s Y H Q I h;show PySem.W.methodCall_KW (pl:=pl) (dw (he X1 s Y H _ I h) λu s1 zq=>?_) ht;let#[x,H1,I1,rx,a,dx,fs,ex,ea,l,q]:=zq;subst ex;obtain rfl:u=Value.ref a:=rx;show ym I1 ea c hm l ?_;show PySem.W.callWith_K (first:=[¬a]) (h₀:=X.base) I.ok.mod.Zp hm.kp (dw (ha pos X1 s1 Y H1 _ I1 q) λus s2 zq=>?_) TW TD;let#[vs,H2,I2,r,q2]:=zq;show#[I2.rK,?_];show GA (us:=.ref a::us) (vs:=.ref a::vs) F hr hb hd hx I2 (.cons Z r) q2
def yp(he:PE X o ta)(c:Dh dq C)(hm:Meth dq C m f)(F:bS bi cq dq X.mg X.base CX k f fd ps sp)(hr:iW k X.A)(hb:Binds dq fd ps ds)(hd:Vals Ad ds)(hx:Passes CX X E)
  (ht:⇑(eval (.Call (.Attribute o m TB) [] [] pos) ax=(do
   let ov <- eval o ax
   standAt TB.atName
   let(f,fi) <- holding [ov] (getMethod ov m pl)
   callWith pos f fi (backTo pos^starEach [] ax)^backToKw pos^keywordEach [] ax))):
  PE X (.Call (.Attribute o m TB) [] [] pos)^Ax C m sp Ad E ta qF:=by intro X1 s Y H Q I h;show PySem.W.methodCall_KW (pl:=pl) (dw (he X1 s Y H _ I h) λu s1 zq=>?_) ht;let#[x,H1,I1,rx,a,dx,fs,ex,ea,l,q]:=zq;subst ex;obtain rfl:u=Value.ref a:=rx;show ym I1 ea c hm l ?_;show PySem.W.callWith_K0 (first:=[¬a]) I1.rK hm.kp^GA (us:=[¬a]) (vs:=[¬a]) F hr hb hd hx I1 (.cons Z .nil) q
structure Mk (K:aC) (C f:Addr):Prop where
 makes:PySem.W.makesIn K C=true
 init:PySem.W.findIn K (¬C) "__init__" = !!.ref f
 fn:PySem.W.isFn K^.ref f=true
 kp:PySem.W.keepIn K^.ref C=true
def NT{Y:St}{Q:VK}(Yf:Mk dq C f)(F:bS bi cq dq X.mg X.base CX k f fd ps sp)(hr:iW (k+1) X.A)(hb:Binds dq fd ps ds)(hd:Vals Ad ds)
  (hx:Passes CX X E)(I:Inv X X1 Y H s)(r:Vals vs us)
  (h:∀x dx,H x=aw->H dx=aw->dx≠x->sp (.ref x::(vs++Ad)) (upd (upd H dx^.own x) x^.ins C dx []) (λv H2=>v=.cB/\Q (¬x) H2) E):
  wpAny (model bi cq) X.A (call (¬C) us) (EP X X1 Y Q) X.xe s:=by
 let hq:=h (B+1) B (I.hok.fresh^gf _) (I.hok.fresh^ay _)^aU^fZ _;let I2:=Inv.made (C:=C) I;let r2:Vals (V.ref (B+1)::(vs++Ad)) (Value.ref (B+1)::(us++ds)):=.cons Z^r.append hd;let hl:(Value.ref (B+1)::us++ds).length=ps.length:=by let e:=r2.length;rw[F.len _ _ _ _ hq] at e;show e.symm
 show wpAny_call (NR (f:=f) I.rK Yf.makes Yf.init (beq_iff_eq.mp Yf.fn) (codeAny_mono (F.run _ X.stack _ _ #[Value.ref (B+1)::us,[]] (Value.ref (B+1)::(us++ds)) _ _ E (hr.make C us [])
  (I2.ad1.make C us []) (hb _ (Value.ref (B+1)::us) I2.rK hl) r2 hq) λr s' hq'=>?_))
 cases r with
 | error e=>show hx X1 Y _ _ e s' I2 hq'
 | ok fl =>
  cases fl with
  | ret u =>
   let#[v,H',I3,rv,ev,q3]:=I2.after hq';subst ev;show#[rv,#[V.ref (B+1),H',I3,Z,q3]]
  | next=>show False.elim hq'
  | brk=>show False.elim hq'
  | cont=>show False.elim hq'
def To(Yf:Mk dq C f)(F:bS bi cq dq X.mg X.base CX k f fd ps sp)(hr:iW (k+1) X.A)(hg:Gl X x)(hm:X.mg x=!.ref C)(hb:Binds dq fd ps ds)(hd:Vals Ad ds)(hx:Passes CX X E)
  (ha:PA X (e::es) t)(hdb:↥((x==("__debug__" : bc))=false))(he:⇑(starEach (e::es) ax=(false,eval e ax)::starEach es X.env))(TD:⇑((backTo pos^starEach es ax).any (·.1)=false)):
  PE X (.Call (.Name x p) (e::es) [] pos)^WW C sp Ad E t:=by intro X1 s Y H Q I h;show wpAny_Call_Name_kw^BJ I hg hm ?_ hdb;show PySem.W.callWith_K (h₀:=X.base) I.ok.mod.Zp Yf.kp (dw (ha pos X1 s Y H _ I h) λus s1 zq=>?_) he TD;let#[vs,H1,I1,r,q]:=zq;show#[I1.rK,?_];show NT Yf F hr hb hd hx I1 r q
end
section
variable {X:Cx}{CX:Ng}{f:ae}{ks:List bc}{sp:Sp}{E:XK}{p kpos:Pos}{o:dr}{kws:List Keyword}{te ta:TE}{t tk:TA}{nm:Option bc}
variable {g:List J->List J->List J}{gV:List V->List V->List V}
end
structure aI (N P:List Str) (sc:Scope):Prop where
 kind:sc.kind=.function
 co:sc.isCoroutine=false
 gen:sc.isGenerator=false
 nd:N.Nodup
 pre:N.take P.length=P
 par:∀x∈P,sc.names.lookup x=!.local\/sc.names.lookup x=!.cell
 ZL:∀y∈sc.names,y.2≠.free
theorem Ay{kindOf:bc->Option NameKind}{x:bc}:∀{binds:List (bc×J)}{m:bc->Option J},(∀v,(x,v)∉binds)->bindL kindOf binds m x=m x
 | [],_,_=>rfl
 | (n,v)::r,m,h=>by
  unfold bindL;rw[Ay λw hw=>h w^d8 _ hw];split
  .have:x≠n:=by rintro rfl;show h v g7
   simp[this]
  .rfl
theorem Az{kindOf:bc->Option NameKind}{x:bc}:∀{binds:List (bc×J)}{m:bc->Option J},(∀v,(x,v)∉binds)->bindC kindOf binds m x=m x
 | [],_,_=>rfl
 | (n,v)::r,m,h=>by
  unfold bindC;rw[Az λw hw=>h w^d8 _ hw];split;rfl
  .have:x≠n:=by rintro rfl;show h v g7
   simp[this]
theorem AA{kindOf:bc->Option NameKind}{x:bc}{v:J}:∀{P:List bc}{vs:List J}{i:O}{m:bc->Option J},P.Nodup->P[i]?=!x->vs[i]?=!v->kindOf x=!.local ->
  bindL kindOf (P.zip vs) m x=!v
 | [],_,_,_,_,h,_,_=>by simp at h
 | _::_,[],_,_,_,_,h,_=>by simp at h
 | p::P,w::vs,0,m,nd,h1,h2,hk=>by
  simp at h1 h2;subst h1;subst h2;change bindL kindOf ((p,w)::P.zip vs) m p=_;unfold bindL;rw[Ay λv hv=>(iU.mp nd).1 (List.of_mem_zip hv).1,if_pos hk];simp
 | p::P,w::vs,i+1,m,nd,h1,h2,hk=>by change bindL kindOf ((p,w)::P.zip vs) m x=_;unfold bindL;show AA (i:=i) (iU.mp nd).2 (by simpa using h1) (by simpa using h2) hk
theorem AB{kindOf:bc->Option NameKind}{x:bc}{v:J}:∀{P:List bc}{vs:List J}{i:O}{m:bc->Option J},P.Nodup->P[i]?=!x->vs[i]?=!v->kindOf x≠!.local ->
  bindC kindOf (P.zip vs) m x=!v
 | [],_,_,_,_,h,_,_=>by simp at h
 | _::_,[],_,_,_,_,h,_=>by simp at h
 | p::P,w::vs,0,m,nd,h1,h2,hk=>by
  simp at h1 h2;subst h1;subst h2;change bindC kindOf ((p,w)::P.zip vs) m p=_;unfold bindC;rw[Az λv hv=>(iU.mp nd).1 (List.of_mem_zip hv).1,if_neg hk];simp
 | p::P,w::vs,i+1,m,nd,h1,h2,hk=>by change bindC kindOf ((p,w)::P.zip vs) m x=_;unfold bindC;show AB (i:=i) (iU.mp nd).2 (by simpa using h1) (by simpa using h2) hk
noncomputable def start(N:List bc)(vs:List V):St:=vs.map some++List.replicate (N.length-dA) aw
noncomputable def Ds(CX:Ng)(P:de)(w:cw)(K:aC)(mg:bc->Option J)(base:cv)(N:List bc)(qual:bc)(scope:Scope)(f:ae)(cd:J)(A:Around)(outer:List Env)(s:ap)(H:Hp)(E:XK):Cx where
 prog:=P
 w:=w
 K:=K
 mg:=mg
 base:=base
 A:=A.deeper (envOfC qual scope B f cd)
 N:=N
 s₀:=s
 H₀:=H
 env:=envOfC qual scope B f cd
 outer:=outer
 stack:=envOfC qual scope B f cd::outer
 ex:=[]
 calm:=true
 fn:=λz=>true
 pn:=[]
 xe:=λe s'=>wpAny (model P w) (A.deeper^envOfC qual scope B f cd) (leaving (envOfC qual scope B f cd) e) (λz s''=>CX outer H s E e s'') (λe' s''=>CX outer H s E e' s'') s'
def Dt{sc:Scope}(h:sc.names.lookup x=!.cell):∃c,(cellsFrom n sc.names []).lookup x=!c:=by let q:=PySem.W.cellsFrom_some sc.names n []^.inl h;show Option.isSome_iff_exists.mp q
theorem K5{qual:bc}{f:ae}{outer:List Env}{s1:ap}{E:XK}
  (S:aI N ps scope)(hd:A.handled=aw)(e0:Gz P w K mg base A outer s H)(hl:dA=ci)(r:Vals vs us)
  (x:InCallC s B (bindL (envOfC qual scope B f cd).kindOf (ps.zip us) λj=>none) (cellsFrom (B+1) scope.names []) (bindC (envOfC qual scope B f cd).kindOf (ps.zip us) λj=>none) s1):
  Inv (Ds CX P w K mg base N qual scope f cd A outer s H E) [] (start N vs) H s1:=by
 let TD:ci<=N.length:=by have:=congrArg List.length S.pre;rw[cC] at this;lia
 let#[h1,tk,Z,hk]:=x.done;let noA:∀b:ae,b∉(Ds CX P w K mg base N qual scope f cd A outer s H E).ex:=λb z=>absurd (show b∈([]:List ae) from z) (by simp);show#[#[e0.mod,S.kind,Z,Z,ay _,λy z c h1 h2=>?_,λy hy=>?_,λy c j h=>?_,λj=>hd,Around.frames_deeper e0.frames,.inr #[Z,Z],λb z=>absurd z^noA b,e0.bs,e0.WL,λb j j=>noA b,λb z=>absurd z^noA b,e0.wX,e0.Zq],
  rfl,e0.bare,Un.kept hk,#[_,x.toInCall.ns,λi y v h1 h2 h3=>?_],λy c h=>#[_,x.cell y c h],e0.hok.fresh^ay _,λy c h=>?_,λp hp=>absurd (show p∈([]:List (ae×du)) from hp)^by simp,e0.hok.kept hk,?_]
 .show name_of_addr x.apart (kO h1)^kO h2
 .have hy:scope.names.lookup y=!.cell\/scope.names.lookup y=!.free:=hy;rcases hy with hy|hy;show Dt hy;show absurd Z^S.ZL _^kO hy
 .show iD^x.above y c^kO h
 .have hi:i<vs.length:=by unfold start at h2;by_cases hi:i<dA;show hi;rw[xZ^by simpa using hi] at h2;rw[List.getElem?_replicate] at h2;split at h2<;>cases h2
  let ha:vs[i]?=!v:=by
   unfold start at h2;rw[BD^by simpa using hi,bJ] at h2;cases e:vs[i]? with
   | none=>rw[e] at h2;cases h2
   | some a=>rw[e] at h2;cases h2;rfl
  let#[u,hu,rv]:=r.get ha;let hp:ps[i]?=!y:=by rw[<- S.pre,uD ∅];show h1
  let ndP:ps.Nodup:=by rw[<- S.pre];show S.nd.sublist^List.take_sublist _ _
  show#[u,rv,?_];rcases S.par y^jd hp with k|k;show .inl #[k,AA ndP hp hu k]
  .let#[c,e]:=Dt (n:=B+1) k;show .inr #[.inl k,c,e,?_];let q:=x.cell y c e;rw[AB ndP hp hu (by change scope.names.lookup y≠_;rw[k];decide)] at q;show q
 .show e0.hok.fresh^iD^x.above y c^kO h
 .unfold start;change _=N.length;rw[aT,aq,List.length_replicate];lia
def WX{f:ae}{qual:bc}{params:Arguments}{dV kV SB cdv:J}
  {Hc:Array^Option J}{sp:Sp}(lk:K.lookup f=some #[oc,od,.func^PySem.W.fnOf name qual params body scope dV kV SB pm an cdv ct,Hc])(Kt:PySem.W.codeIn K cdv qual=ag)(S:aI N ps scope)
  (len:∀vs H Q E,sp vs H Q E->dA=ci)
  (Kj:∀(A:Around)(outer:List Env)(s:ap)(H:Hp)(vs:List V)(Q:VK)(E:XK),iW k^A.deeper^envOfC qual scope B f cdv->sp vs H Q E ->
   ∃t,z8 (Ds CX P w K mg base N qual scope f cdv A outer s H E) body t/\t { nx:=λz H'=>Q .cB H',rt:=Q } (start N vs) H):
  bS P w K mg base CX (k+1) f (PySem.W.fnOf name qual params body scope dV kV SB pm an cdv ct) ps sp:=by
 show#[len,λA outer s H args us vs Q E hr e0 hb r SH=>?_];let hl:=len _ _ _ _ SH;let KX:K.In s.heap:=e0.mod.Zp.keeps λb o e=>(e0.bs b o e).1;let lim:s.heap.NoLimit:=e0.mod.nolimit.keeps λb o e=>(e0.bs b o e).1;let hkind:∀y∈ps.zip us,scope.names.lookup y.1=!.local\/(scope.names.lookup y.1=!.cell/\((cellsFrom (B+1) scope.names []).lookup y.1).isSome=ag):=λ⟨n,v⟩ hy=>by rcases S.par n (List.of_mem_zip hy).1 with q|q;show .inl q;show .inr #[q,PySem.W.cellsFrom_some _ _ _^.inl q]
 show codeAny_call_function hr.depth (KX _ _ lk) Z S.co S.gen rfl (PySem.W.codeRec_of KX Kt)^hb _ _ _ _ ?_;show wpAny_newFunctionEnv_cells S.kind hkind λenv he s1 x=>?_;subst he;show#[lim.keeps x.toInCall.keep,codeAny_func ?_];let#[t,ht,hq]:=Kj A outer s H vs Q E (hr.deeper _) SH;let I:Inv (Ds CX P w K mg base N qual scope f cdv A outer s H E) [] (start N vs) H s1:=K5 S hr.hd e0 hl r x;show wpAny_mono (ht [] s1 (start N vs) H _ I hq) (λfl s' hs=>?_) λe s' hs=>hs;let fin:∀{Y':St}{H':Hp}{v:V}{u:J},Inv (Ds CX P w K mg base N qual scope f cdv A outer s H E) [] Y' H' s'->RelV v u->Q v H'->CE outer P w H s Q u s' :=
  λ{Y' H' v u} Ya rv q=>#[v,H',Ya.os,Ya.bare,Ya.base,Ya.hok,rv,q]
 cases fl with
 | ret u =>
  let#[v,Y',H',Ya,rv,q]:=hs;show fin Ya rv q
 | next =>
  let#[Y',H',Ya,q]:=hs;show fin (v:=V.cB) (u:=Value.none) Ya Z q
 | brk =>
  let#[_,_,_,q]:=hs;show False.elim q
 | cont =>
  let#[_,_,_,q]:=hs;show False.elim q
section
variable {X:Cx}{p:Pos}{t:TA}{id:String}{r:List V->Hp->VK->eL}
def tCB(r:List V->Hp->VK->eL)(t:TA):TE:=λY H Q=>t Y H λvs H1=>r vs H1 Q
def aS(hc:ef X (.builtin id) r)(hg:Gl X x)(hm:X.mg x=aw)(hv:bootBuiltins x=!.builtin id)(ha:PA X (e::es) t)(hn:↥(x ≠ "__name__"))(hdb:↥((x==("__debug__" : bc))=false))
  (he:⇑(starEach (e::es) ax=(false,eval e ax)::starEach es X.env))(TD:⇑((backTo pos^starEach es ax).any (·.1)=false)):PE X (.Call (.Name x p) (e::es) [] pos)^tCB r t:=by intro X1 s Y H Q I h;show wpAny_Call_Name_kw^jE I hg hm hv ?_ hn hdb;show PyProof.Rows.callWith_builtin1 (dw (ha pos X1 s Y H _ I h) λus s1 zq=>?_) he TD;let#[vs,H1,I1,r1,q1]:=zq;show hc X1 s1 Y H1 vs us Q I1 r1 q1
def bZ(hc:ef X (.type T) r)(hg:Gl X x)(hm:X.mg x=aw)(hv:bootBuiltins x=!.type T)(ha:PA X (e::es) t)(hn:↥(x ≠ "__name__"))(hdb:↥((x==("__debug__" : bc))=false))
  (he:⇑(starEach (e::es) ax=(false,eval e ax)::starEach es X.env))(TD:⇑((backTo pos^starEach es ax).any (·.1)=false)):PE X (.Call (.Name x p) (e::es) [] pos)^tCB r t:=by intro X1 s Y H Q I h;show wpAny_Call_Name_kw^jE I hg hm hv ?_ hn hdb;show jN (dw (ha pos X1 s Y H _ I h) λus s1 zq=>?_) he TD;let#[vs,H1,I1,r1,q1]:=zq;show hc X1 s1 Y H1 vs us Q I1 r1 q1
end
end L2
variable {H H':L2.Hp}{Q rt:L2.VK}{X:L2.Cx}{g:L2.TG}{kvs:List (L2.Key×L2.V)}{r:L2.V->List L2.V->L2.Hp->L2.VK->eL}{sp:L2.Sp}{ta tb tc td te tv tx:L2.TE}{tt:L2.TT}{v y:L2.V}{xs:List L2.V}
namespace HT
open PySem PyProof.Rows
section
open PySem.SeqAt
open PySem.AutoSeq1 (wpAny_loadPart')
open PySem.MeetsSeq PySem.MeetsSeq2 PySem.MeetsSeq3
end
def Tp{t:ae}{ws:List J}{Q:J->ap->eL}(ht:IsTup am t vs.toArray)(hb:IsTup am b ws.toArray)(hv:vs≠[])
  (h1:ws=[]->Q (¬t) s)(h2:ws≠[]->Q (¬B) { s with heap:=s.heap.push { cls:=.type "tuple", data:=.seq (vs++ws).toArray } })
  (hsz:dA+ws.length<=sizeLine):wpAny (model prog w) A (binaryOp .Add (¬t)^¬b) Q E s:=by
 let#[#[cls,dd,data,sl],ho,hc,n,hd]:=id ht;let#[#[ao2,dd2,data2,sl2],ho2,hc2,n2,Qb]:=id hb;simp only at hc hd hc2 Qb;subst hc hd hc2 Qb;let e:vs.toArray++ws.toArray=(vs++ws).toArray:=by simp
 by_cases hw:ws=[]
 .show concat_meets #[_,ho,Z] #[_,ho2,Z] noFill_tuple_add seq_tuple_add PySem.F.slot_tuple_add PySem.F.entry_tuple_add (PySem.F.args_tuple_add_2 _ _)
   (tuple_addW1 t b vs.toArray ws.toArray n n2 dd dd2 sl sl2 (by simpa using hv)^by simp[hw]) #[ho,ho2,h1 hw]
 .show concat_meets #[_,ho,Z] #[_,ho2,Z] noFill_tuple_add seq_tuple_add PySem.F.slot_tuple_add PySem.F.entry_tuple_add (PySem.F.args_tuple_add_2 _ _)
   (tuple_addW2 t b vs.toArray ws.toArray n n2 dd dd2 sl sl2 (by simpa using hv) (by simpa using hw) (by rw[bB,bB];show hsz)) #[ho,ho2,?_]
  rw[e];show h2 hw
noncomputable def gu(n d:O):Option M->O
 | none=>d
 | some v=>if v<0 then(v+(n:M)).toNat else min v.toNat n
def jq(n d:O):gu n d aw=d:=rfl
theorem iF(n d k:O):gu n d^some (k:M)=min k n:=by change(if(k:M)<0 then((k:M)+(n:M)).toNat else min (k:M).toNat n)=min k n;rw[if_neg ∅,lg]
theorem ZM(n d:O)(hd:d<=n)(o:Option M):gu n d o<=n:=by
 cases o with
 | none=>show hd
 | some v =>
  change(if v<0 then(v+(n:M)).toNat else min v.toNat n)<=n;by_cases hv:v<0;rw[if_pos hv];lia;rw[if_neg hv];show Nat.min_le_right _ _
theorem IW(v:M)(n d:O):(if v<0 then max (v+(n:M)) 0 else min v (n:M))=((gu n d^!v:O):M):=by change(if v<0 then max (v+(n:M)) 0 else min v (n:M))=(((if v<0 then(v+(n:M)).toNat else min v.toNat n):O):M);by_cases hv:v<0;erw[if_pos hv];lia;erw[if_neg hv];lia
theorem GB(lo hi:Option M)(n:O):Builtin.Slice.sliceAdjust lo hi 1 (n:M)=(((gu n 0 lo:O):M),((gu n n hi:O):M)):=by
 let h1:Not ((1:M)<0):=∅;unfold Builtin.Slice.sliceAdjust;erw[h1,if_false];show Prod.ext ?_ ?_
 .cases lo with
  | none=>rfl
  | some v=>show IW v n 0
 .cases hi with
  | none=>rfl
  | some v=>show IW v n n
theorem GC(i j:O):Builtin.Slice.slicePlaces (i:M) (j:M) 1=j-i:=by unfold Builtin.Slice.slicePlaces;let h1:(1:M)>0:=∅;erw[h1,if_true,Int.ediv_one];split<;>lia
def yq{v:J}{o:Option M}{Q:Option M->ap->eL}(p:IsPart v o)(h:Q o s):wpAny (model prog w) A (Builtin.Slice.slicePartIndex v) Q E s:=by
 cases p with
 | none=>show slicePart_none h
 | int i t=>show slicePart_int h
def uR{sl:ae}{vl vu:J}{lo hi:Option M}{Q:M×M×O->ap->eL}(hs:s.heap.IsSliceOf sl vl vu .none)(pl:IsPart vl lo)(pu:IsPart vu hi)
  (h:Q (((gu n 0 lo:O):M),1,gu n n hi-gu n 0 lo) s):wpAny (model prog w) A (Builtin.Slice.sliceApplied (¬sl)^pure (n:M)) Q E s:=by let#[os,hos,hcs,KB]:=id hs;unfold Builtin.Slice.sliceApplied Builtin.Slice.sliceFields;show au^au^wpAny_field hos KB (x:=vl) Z^au^wpAny_field hos KB (x:=vu) Z^au^wpAny_field hos KB (x:=.none) Z^aW ?_;show au^slicePart_none ?_;change wpAny _ _ (if((1:M)==0)=ag then _ else _) _ _ s;rw[if_neg ()];show au^yq pl^au^yq pu^au^aW ?_;change wpAny _ _ (match Builtin.Slice.sliceAdjust lo hi 1 (n:Int) with|(lo,hi)=>pure (lo,(1:Int),Builtin.Slice.slicePlaces lo hi 1)) _ _ s;rw[GB lo hi n];change wpAny _ _ (pure (((gu n 0 lo:O):M),(1:M),Builtin.Slice.slicePlaces ((gu n 0 lo:O):M) ((gu n n hi:O):M) 1)) _ _ s;rw[GC];show aW h
theorem NU(xs:Array J)(i k:O):((List.range k).filterMap λ(m:O)=>xs[((i:M)+(m:M)*1).toNat]?).toArray=((xs.toList.drop i).take k).toArray:=by
 let e:(λ(m:O)=>xs[((i:M)+(m:M)*1).toNat]?)=λm=>xs[i+m]?:=by funext m;have:((i:M)+(m:M)*1).toNat=i+m:=∅;rw[this]
 rw[e];have:=pick_run xs i k;rw[List.filterMap_map] at this;let e2:((λx=>xs[x]?)∘λx=>i+x)=λm=>xs[i+m]?:=rfl;rw[e2] at this;rw[this]
theorem rP{t sl:ae}{XV:Array J}{vl vu:J}{lo hi:Option M}{Q:J->ap->eL}(ht:IsTup am t XV)(hs:s.heap.IsSliceOf sl vl vu .none)(pl:IsPart vl lo)(pu:IsPart vu hi)
  (hw:Not (gu XV.size 0 lo=0/\gu XV.size XV.size hi=XV.size))
  (h:Q (¬B) { s with heap:=s.heap.push { cls:=.type "tuple", data:=.seq ((XV.toList.drop (gu XV.size 0 lo)).take (gu XV.size XV.size hi-gu XV.size 0 lo)).toArray } })
  (hsz:XV.size<=sizeLine):wpAny (model prog w) A (getItem (¬t)^¬sl) Q E s:=by
 let IY:sizeOk^.seq ((XV.toList.drop^gu XV.size 0 lo).take (gu XV.size XV.size hi-gu XV.size 0 lo)).toArray:=by change((XV.toList.drop^gu XV.size 0 lo).take (gu XV.size XV.size hi-gu XV.size 0 lo)).toArray.size<=sizeLine;rw[bB,cC,yc,dU];omega
 let hj:gu XV.size XV.size hi<=XV.size:=ZM _ _ (ay _) hi;let#[os,hos,hcs,KB]:=id hs;let hTs:s.TypeIs (¬sl) "slice" := #[os,hos,hcs];unfold getItem
 try with_reducible show wpAny_holding ?_
 first|show au (aW ?_)|skip
 show au^wpAny_sequenceKey ht.typeIs () ?_;show au (wpAny_callSpecial?_slot (name:=Str.ofString "__getitem__") ht.typeIs PyProof.Rows.slot_tuple_getitem
  (wpAny_call_entry PyProof.Rows.slot_tuple_getitem ht.typeIs entry_tuple_getitem ?_^args_tuple_getitem _ _))
 change wpAny _ _ (Builtin.Tuple.tupleItemsOf (¬t) >>= _) _ _ s;show au^tupleItemsOf_ ht ?_;show au^wpAny_typeOf hTs ?_;rw[if_pos ()];show au^uR hs pl pu ?_;let IH:Not (((((gu XV.size 0 lo:O):M)==0&&(1:M)==1&&(gu XV.size XV.size hi-gu XV.size 0 lo)==XV.size)=ag)):=by intro q;rw[qk,qk] at q;let q1:((gu XV.size 0 lo:O):M)=0:=eq_of_beq q.1.1;let q2:gu XV.size XV.size hi-gu XV.size 0 lo=XV.size:=eq_of_beq q.2;show hw #[by omega,by omega]
 change wpAny _ _ (if(((gu XV.size 0 lo:O):M)==0&&(1:M)==1&&(gu XV.size XV.size hi-gu XV.size 0 lo)==XV.size)=ag then _ else _) _ _ s;rw[if_neg IH,NU]
 first
  | show au (m:=Builtin.Tuple.tupleExact _)^wpAny_newObj_type (aW #[_,Z,aW h]) IY
  | show au (m:=Builtin.Tuple.tupleExact _)^wpAny_newObj_type (au^aW^aW #[_,Z,aW h]) IY
  | show au^au (m:=Builtin.Tuple.tupleExact _)^wpAny_newObj_type (aW^aW #[_,Z,aW h]) IY
  | show au^au (m:=Builtin.Tuple.tupleExact _)^wpAny_newObj_type (aW #[_,Z,aW h]) IY
end HT
namespace L2
variable {XL:List J}{x:V}{v:J}{o:Option V}{kvs:List (List Key×V)}{Q:J->ap->eL}
abbrev TO:=St->Hp->(Option M->Hp->eL)->eL
def PO(X:Cx)(e:Option dr)(t:TO):eL :=
 ∀(X1:List (ae×du))(s:ap)(Y:St)(H:Hp)(Q:Option M->Hp->eL),Inv X X1 Y H s->t Y H Q ->
  wpAny (model bi cq) X.A (evalPart e ax) (λu s'=>∃o H',Inv X X1 Y H' s'/\IsPart u o/\Q o H') X.xe s
def gU:TO:=λz H Q=>Q aw H
def nJ(t:TE):TO:=λY H Q=>t Y H λx H1=>∃i,x=.int i/\Q (!i) H1
section
variable {lo hi:Option dr}{tl th:TO}{p2:Pos}
def cu:PO X aw gU:=by intro X1 s Y H Q I h;rw[evalPart_none];show aW #[none,H,I,.none,h]
def bK(h:PE X e te):PO X (!e)^nJ te:=by intro X1 s Y H Q I hw;rw[evalPart_some];show dw (h X1 s Y H _ I hw) λu s1 zq=>?_;let#[x,H1,I1,r1,q1]:=zq;let#[i,Z,q]:=q1;let#[t,Z]:=r1;show#[!i,H1,I1,.int i t,q]
def SlR(X:Cx)(r:V->Option M->Option M->Hp->VK->eL):eL :=
 ∀(X1:List (ae×du))(s:ap)(Y:St)(H:Hp)(x:V)(v vl vu:J)(lo hi:Option M)(sl:ae)(Q:VK),Inv X X1 Y H s->RelV x v->s.heap.IsSliceOf sl vl vu .none->IsPart vl lo->IsPart vu hi->r x lo hi H Q ->
  ∃T id,typeLookup (.type T) "__getitem__" = pure^!.builtin id/\s.TypeIs v T/\wpAny (model bi cq) X.A (getItem v^¬sl) (EP X X1 Y Q) X.xe s
def Nh(r:V->Option M->Option M->Hp->VK->eL)(te:TE)(tl th:TO):TE:=λY H Q=>te Y H λx H1=>tl Y H1 λl H2=>th Y H2 λu H3=>r x l u H3 Q
def bC{r:V->Option M->Option M->Hp->VK->eL}(hr:SlR X r)(he:PE X e te)(hl:PO X lo tl)(hu:PO X hi th):PE X (.Subscript e (.Slice lo hi aw p2) pos)^Nh r te tl th:=by intro X1 s Y H Q I h;show Subscript_ (dw (he X1 s Y H _ I h) λv s1 zq=>?_);let#[x,H1,I1,r1,q1]:=zq;show wpAny_Slice (dw (hl X1 s1 Y H1 _ I1 q1) λvl s2 zq=>?_);let#[l,H2,I2,pl,q2]:=zq;show dw (hu X1 s2 Y H2 _ I2 q2) λvu s3 zq=>?_;let#[u,H3,I3,pu,q3]:=zq;rw[evalPart_none];show aW ?_;let I4:Inv X X1 Y H3 { s3 with heap:=s3.heap.push { cls:=.type "slice", data:=.fields #v[vl,vu,.none] } }:=I3.kept (t':=s3.toks) λb ob q=>eS _ q;let#[T,id,hT,ht,hg]:=hr X1 { s3 with heap:=s3.heap.push { cls:=.type "slice", data:=.fields #v[vl,vu,.none] } } Y H3 x v vl vu l u s3.heap.objs.size Q I4 r1 (Heap.IsSliceOf.new ..) pl pu q3;change wpAny (model bi cq) X.A (subscriptTail e (.Slice lo hi aw p2) v^¬s3.heap.objs.size) (EP X X1 Y Q) X.xe { s3 with heap:=s3.heap.push { cls:=.type "slice", data:=.fields #v[vl,vu,.none] } };show tail_any (ops:=[¬s3.heap.objs.size,v]) ht hT hg (by with_unfolding_all rfl)
noncomputable def fV(xs:List V)(lo hi:Option M):List V:=(xs.drop^HT.gu ab 0 lo).take (HT.gu ab ab hi-HT.gu ab 0 lo)
theorem oB(xs:List V)(lo hi:Option M):(fV xs lo hi).length<=xs.length:=by unfold fV;rw[cC,yc];lia
def Du(K:aC):V->Option M->Option M->Hp->VK->Prop:=λx lo hi H Q=>∃a xs,x=¬a/\dD K H a xs /\
 Not (HT.gu ab 0 lo=0/\HT.gu ab ab hi=ab)/\∀p,H p=aw->Q (¬p)^upd H p^.tup^fV xs lo hi
def g9:SlR X^Du X.K:=by
 intro X1 s Y H x v vl vu lo hi sl Q I rx hs pl pu h;let#[a,xs,Z,hx,hw,q]:=h;cases rx;let#[XL,r,ht,hz]:=I.tuple hx;let XB:XL.toArray.size=xs.length:=by rw[bB];show r.length.symm
 show#["tuple", _,PyProof.Rows.slot_tuple_getitem.lookup,ht.typeIs,?_];show HT.rP ht hs pl pu (by rw[XB];show hw) ?_ (by rw[XB];show hz);rw[XB];show#[¬B,_,I.laid (t':=s.toks) (o:=.tup^fV xs lo hi) (λb ob q=>eS _ q) (ay _) ?_,Z,q _^I.hok.fresh^ay _];show#[bP (oB xs lo hi) hz,_,(r.drop^HT.gu ab 0 lo).take (HT.gu ab ab hi-HT.gu ab 0 lo),IsTup.new _ _]
def vS(K:aC):R2:=λx y H Q=>∃a b xs ys,x=¬a/\y=¬b/\dD K H a xs/\dD K H b ys/\xs≠[]/\ab+ce<=sizeLine /\
 (ys=[]->Q (¬a) H)/\(ys≠[]->∀p,H p=aw->Q (¬p)^upd H p^.tup (xs++ys))
def Vals.BO(r:Vals xs us):us=[]↔xs=[]:=by
 cases r with
 | nil=>simp
 | cons _ _=>simp
def fk:lE X (binaryOp .Add)^vS X.K:=by intro X1 s Y H x y v u Q I rx ry h;let#[a,b,xs,ys,Z,Z,ha,hb,hx,hz,q1,q2]:=h;cases rx;cases ry;let#[XL,r1,p1,_]:=I.tuple ha;let#[RF,r2,p2,_]:=I.tuple hb;show HT.Tp p1 p2 (λz=>hx^r1.BO.mp z) (λz=>#[¬a,H,I,Z,q1^r2.BO.mp z]) (λz=>?_) (by rw[<- r1.length,<- r2.length];show hz);show#[¬B,_,I.laid (t':=s.toks) (o:=.tup (xs++ys)) (λb ob q=>eS _ q) (ay _) ?_,Z,q2 (λw=>z^r2.BO.mpr w) _^I.hok.fresh^ay _];show#[by rw[aT];show hz,_,r1.append r2,IsTup.new _ _]
end
noncomputable def NV(n:O)(i:M):Option Nat:=if 0<=i then(if i<n then !i.toNat else none) else if -(n:M)<=i then !(i+n).toNat else none
noncomputable def qG{α:Type}(xs:List α)(i:M):Option α:=(NV ab i).bind λj=>xs[j]?
theorem IZ{i:M}(h:NV n i=!j):seqIndex? i n=!j/\j<n /\ -(n:M)<=i/\i<n:=by unfold NV at h;by_cases h0:0<=i;rw[if_pos h0] at h;by_cases h1:i<n;rw[if_pos h1] at h;let e:i.toNat=j:=Option.some.inj h;show#[by rw[seqIndex_of h0 h1,e],∅,∅,h1];rw[if_neg h1] at h;cases h;rw[if_neg h0] at h;by_cases h1:-(n:M)<=i;rw[if_pos h1] at h;let e:(i+n).toNat=j:=Option.some.inj h;show#[by rw[seqIndex_neg ∅ h1,e],∅,h1,∅];rw[if_neg h1] at h;cases h
def BP{α:Type}{xs:List α}{i:M}{v:α}(h:qG xs i=!v):∃j,seqIndex? i ab=!j/\xs[j]?=!v/\j<ab /\ -(ab:M)<=i/\i<xs.length:=by
 unfold qG at h;cases e:NV xs.length i with
 | none=>rw[e] at h;cases h
 | some j =>
  rw[e] at h;let#[h1,h2,h3,h4]:=IZ e;show#[j,h1,h,h2,h3,h4]
theorem dM{α:Type}{xs:List α}{v:α}(h:xs[j]?=!v):qG xs (j:M)=!v:=by
 let hj:j<xs.length:=(gq h).1;let e:NV ab (j:M)=!j:=by unfold NV;rw[if_pos ∅,if_pos ∅];simp
 unfold qG;rw[e];show h
def I0(b:dr):=∀o i,subscripted b bj o i=operate [o,i]^getItem o i
def ZN(X:Cx)(r:R2):eL :=
 ∀(value slice:dr)(X1:List (ae×du))(s:ap)(Y:St)(H:Hp)(x y:V)(v u:J)(Q:VK),Inv X X1 Y H s->RelV x v->RelV y u->r x y H Q ->
  subscripted slice bj v u=operate [v,u]^getItem v u->wpAny (model bi cq) X.A (subscriptTail value slice v u) (EP X X1 Y Q) X.xe s
def MtR(X:Cx)(id:String)(r:V->List V->Hp->VK->eL):eL :=
 ∀(X1:List (ae×du))(s:ap)(Y:St)(H:Hp)(x:V)(xs:List V)(v:J)(us:List J)(Q:VK),Inv X X1 Y H s->RelV x v->Vals xs us->r x xs H Q ->
  wpAny (model bi cq) X.A (call (.builtin id) (v::us)) (EP X X1 Y Q) X.xe s
section
variable {a b:dr}
def ad4{r:R2}(hr:ZN X r)(ha:PE X a ta)(hb:PE X b tb)(hs:I0 b):PE X (.Subscript a b pos)^vP r ta tb:=by intro X1 s Y H Q I h;show Subscript_ (ZC ha hb I h λv u s2 x y H2 I2 rx ry q=>hr a b X1 s2 Y H2 x y v u Q I2 rx ry q^hs _ _)
def ZQ(K:aC):R2:=λx y H Q=>∃p xs i v,x=¬p/\y=.int i/\bI K H p xs/\qG xs i=!v/\Q v H
def NW(K:aC):R2:=λx y H Q=>∃p xs i v,x=¬p/\y=.int i/\dD K H p xs/\qG xs i=!v/\Q v H
def ad5:R2:=λx y H Q=>∃z i c,x=.str z/\y=.int i/\z.length<=sizeLine/\qG z.cps.toList i=!c/\Q (.str #[#v[c]]) H
theorem aK:ZN X^ZQ X.K:=by
 intro value slice X1 s Y H x y v u Q I rx ry h hs;let#[p,xs,i,z,Z,Z,hq,he,q]:=h;cases rx;let#[t,Z]:=ry;let#[XL,r,pl,hz]:=I.list hq;let#[j,h1,h2,h3,h4,h5]:=BP he;let#[w,ew,PH]:=r.get h2;let hl:=eC;let hn:=uP;let fin:EP X X1 Y Q w s:=#[z,H,I,PH,q];by_cases h0:0<=i
 .have hj:i.toNat=j:=by rw[seqIndex_of h0 h5] at h1;show Option.some.inj h1
  show item_listR pl.isList h0 ∅ (by rw[hj];simpa using ew) fin hs
 .have hj:(i+(XL.toArray.size:M)).toNat=j:=by rw[seqIndex_neg ∅ h4] at h1;rw[bB,<- hl];show Option.some.inj h1
  show subscriptTail_builtinR (x:=w) pl.isList.typeIs slot_list_getitem.lookup
   (wpAny_getItem_list_neg (Q:=λr s'=>r=w/\EP X X1 Y Q r s') pl.isList ∅ (by rw[bB]<;>lia) ∅ (by rw[hj];simpa using ew) #[Z,fin]) hs
theorem aA:ZN X^NW X.K:=by
 intro value slice X1 s Y H x y v u Q I rx ry h hs;let#[p,xs,i,z,Z,Z,hq,he,q]:=h;cases rx;let#[t,Z]:=ry;let#[XL,r,pl,hz]:=I.tuple hq;let#[j,h1,h2,h3,h4,h5]:=BP he;let#[w,ew,PH]:=r.get h2;let hl:=eC;let hn:=uP;let fin:EP X X1 Y Q w s:=#[z,H,I,PH,q];show subscriptTail_builtinR (x:=w) pl.typeIs slot_tuple_getitem.lookup
  (getItem_tuple (j:=j) (Q:=λr s'=>r=w/\EP X X1 Y Q r s') pl ∅ ∅ (by rw[bB,<- hl];show h1) (by simpa using ew) #[Z,fin]) hs
theorem GD:ZN X ad5:=by
 intro value slice X1 s Y H x y v u Q I rx ry h hs;let#[z,i,c,Z,Z,hz,he,q]:=h;let#[t,Z]:=rx;let#[t',Z]:=ry;let#[j,h1,h2,h3,h4,h5]:=BP he;let hl:z.cps.toList.length=z.length:=by simp[Str.length]
 rw[hl] at h1 h4 h5;let hn:=uP;show tail_any (typeIs_str s z t) slot_str_getitem.lookup (getItem_str (c:=c) (by
  let e1:decide (i < -(2 ^ 63:M))=false:=decide_eq_false ∅;let e2:decide (i>=2 ^ 63)=false:=decide_eq_false ∅;rw[e1,e2,Bool.or_false]) (by rw[h1];simpa using h2) #[.str #[#v[c]],H,I.tok _,#[_,Z],q]) hs
def GF(XL:List J)(n j:O)(u:J):Obj.mapSeq (·.setIfInBounds j u) { cls:=.type "list", data:=.seq XL.toArray n }={ cls:=.type "list", data:=.seq (XL.set j u).toArray n }:=by simp[Obj.mapSeq]
theorem Inv.lst{X1:List (ae×du)}{Y:St}{H:Hp}{s:ap}{p:ae}{xs:List V}(I:Inv X X1 Y H s)(h:H p=!.lst xs):
  ∃(XL:List J)(n:O),Vals xs XL/\s.heap.get? p=!{ cls:=.type "list", data:=.seq XL.toArray n }/\ab<=sizeLine:=by let#[z,XL,n,r,e]:=I.hok p _ h;show#[XL,n,r,e,z]
def Inv.ZR{Y:St}{p:ae}{ys:List V}{its':List J}{n':O}{f:du->du}(I:Inv X X1 Y H s)(h:H p=!.lst xs)
  (ho:s.heap.get? p=!{ cls:=.type "list", data:=.seq XL.toArray n })(hf:f { cls:=.type "list", data:=.seq XL.toArray n }={ cls:=.type "list", data:=.seq its'.toArray n' })(r:Vals ys its')(hz:ce<=sizeLine)(t:O):
  Inv X X1 Y (upd H p^.lst ys) { s with heap:=s.heap.update p f,toks:=t }:=by
 let e:(s.heap.update p f).get? p=!{ cls:=.type "list", data:=.seq its'.toArray n' }:=by rw[fz f ho (by rw[hf]<;>rfl),hf]
 show I.write (x:=p) (e:=p) (by rw[h];trivial) (.inl Z) (λb u hb q=>(jC _ _^aR hb).trans q) #[_,e] ?_;show#[hz,its',n',r,e]
def WY:V->V->V->Hp->(Hp->eL)->Prop:=λo i v H Q=>∃p xs k j,o=¬p/\i=.int k/\H p=!.lst xs/\NV ab k=!j/\Q^upd H p^.lst^xs.set j v
theorem set_list:adN X WY:=by
 intro X1 s Y H o i v ov iv u Q I ro ri rv h;let#[p,xs,k,j,Z,Z,hp,hj,q]:=h;cases ro;let#[t,Z]:=ri;let#[XL,n,r,ho,hz]:=I.lst hp;let#[h1,h2,h3,h4]:=IZ hj;let hl:=eC;let hn:=uP;let I':Inv X X1 Y (upd H p^.lst^xs.set j v) { s with heap:=s.heap.update p (Obj.mapSeq (·.setIfInBounds j u)) } :=
  I.ZR hp ho (GF XL n j u) (r.set rv j) (by rw[List.length_set];show hz) s.toks
 by_cases h0:0<=k
 .have hk:k.toNat=j:=by rw[seqIndex_of h0 h4] at h1;show Option.some.inj h1
  show PySem.W.ki_setAt ho h0 ∅ (by rw[bB,<- hl];show h4) (by rw[hk];show#[_,I',q])
 .have hk:(k+(XL.toArray.size:M)).toNat=j:=by rw[seqIndex_neg ∅ h3] at h1;rw[bB,<- hl];show Option.some.inj h1
  show PySem.W.ki_setBack ho ∅ (by rw[bB,<- hl];show h3) ∅ (by rw[hk];show#[_,I',q])
theorem BQ(lo hi:Option M)(n:O):(sliceBounds lo hi aw n).1=((HT.gu n 0 lo:O):M)/\(sliceBounds lo hi aw n).2.1=((HT.gu n n hi:O):M)/\(sliceBounds lo hi aw n).2.2=1:=by
 show#[?_,?_,Z]
 .cases lo with
  | none=>simp[sliceBounds,HT.gu]
  | some i =>
   erw[sliceBounds,HT.gu,Option.getD_none,show(1:M)>0 by decide,if_true];by_cases h:i<0;erw[h,if_true]<;>lia;erw[h,if_false]<;>lia
 .cases hi with
  | none=>simp[sliceBounds,HT.gu]
  | some i =>
   erw[sliceBounds,HT.gu,Option.getD_none,show(1:M)>0 by decide,if_true];by_cases h:i<0;erw[h,if_true]<;>lia;erw[h,if_false]<;>lia
def Ae(XL:List J)(lo hi:Option M):slicePick XL.toArray lo hi aw=((XL.drop^HT.gu XL.length 0 lo).take (HT.gu XL.length XL.length hi-HT.gu XL.length 0 lo)).toArray:=by let#[h1,h2,h3]:=BQ lo hi XL.toArray.size;unfold slicePick;rw[h1,h2,h3];erw[sliceRange_one,pick_run,bB]<;>rfl
def K6(K:aC):V->Option M->Option M->Hp->VK->Prop:=λx lo hi H Q=>∃a xs,x=¬a/\bI K H a xs/\∀p,H p=aw->Q (¬p)^upd H p^.lst^fV xs lo hi
theorem fm:SlR X^K6 X.K:=by intro X1 s Y H x v vl vu lo hi sl Q I rx hs pl pu h;let#[a,xs,Z,hx,q]:=h;cases rx;let#[XL,r,ht,hz]:=I.list hx;let XB:=eC;show#["list", _,slot_list_getitem.lookup,ht.isList.typeIs,?_];show wpAny_getItem_list_slice ht.isList hs pl pu .none (by simp) ?_ (by rw[bB]<;>lia);rw[Ae,<- XB];show#[¬B,_,I.laid (t':=s.toks) (o:=.lst^fV xs lo hi) (λb ob q=>eS _ q) (ay _) ?_,Z,q _^I.hok.fresh^ay _];show#[bP (oB xs lo hi) hz,_,0,(r.drop^HT.gu ab 0 lo).take (HT.gu ab ab hi-HT.gu ab 0 lo),jB _ rfl]
noncomputable def nK:V->cf
 | .cB=>true
 | .bl _=>true
 | .int _=>true
 | .str _=>true
 | _=>false
noncomputable def Tq:V->V->cf
 | .cB,.cB=>true
 | .bl a,.bl b=>a==b
 | .bl a,.int b=>(if a then 1 else 0)==b
 | .int a,.bl b=>a==(if b then 1 else 0)
 | .int a,.int b=>a==b
 | .str a,.str b=>a==b
 | _,_=>false
def ZS(ry:RelV y u)(rx:RelV x v)(fy:nK y=ag)(fx:nK x=ag):SeqAt.EqAt A s u v^Tq y x:=by
 cases y with
 | cB =>
  cases ry;cases x with
  | cB=>cases rx;show SeqAt.EqAt.same _
  | bl b=>cases rx;show SeqAt.EqAt.none_bool b
  | int b=>let#[t,Z]:=rx;show SeqAt.EqAt.none_int b t
  | str b=>let#[t,Z]:=rx;show SeqAt.EqAt.none_str b t
  | _=>show absurd (show false=ag from fx) lI
 | bl a =>
  cases ry;cases x with
  | cB=>cases rx;show SeqAt.EqAt.bool_none a
  | bl b=>cases rx;show SeqAt.EqAt.bool_bool a b
  | int b=>let#[t,Z]:=rx;show SeqAt.EqAt.bool_int a b t
  | str b=>let#[t,Z]:=rx;show SeqAt.EqAt.bool_str a b t
  | _=>show absurd (show false=ag from fx) lI
 | int a =>
  let#[t',Z]:=ry;cases x with
  | cB=>cases rx;show SeqAt.EqAt.int_none a t'
  | bl b=>cases rx;show SeqAt.EqAt.int_bool a t' b
  | int b=>let#[t,Z]:=rx;show SeqAt.EqAt.int_int a t' b t
  | str b=>let#[t,Z]:=rx;show SeqAt.EqAt.int_str a t' b t
  | _=>show absurd (show false=ag from fx) lI
 | str a =>
  let#[t',Z]:=ry;cases x with
  | cB=>cases rx;show SeqAt.EqAt.str_none a t'
  | bl b=>cases rx;show SeqAt.EqAt.str_bool a t' b
  | int b=>let#[t,Z]:=rx;show SeqAt.EqAt.str_int a t' b t
  | str b=>let#[t,Z]:=rx;show SeqAt.EqAt.str_str a t' b t
  | _=>show absurd (show false=ag from fx) lI
 | _=>show absurd (show false=ag from fy) lI
noncomputable def GG(x:V)(u:J):Bool:=match u with
 | .none=>Tq .cB x
 | .bool b=>Tq (.bl b) x
 | .int i _=>Tq (.int i) x
 | .str z _=>Tq (.str z) x
 | _=>false
def NX(r:RelV y u)(f:nK y=ag):GG x u=Tq y x:=by
 cases y with
 | cB=>cases r;rfl
 | bl b=>cases r;rfl
 | int i=>let#[t,Z]:=r;rfl
 | str z=>let#[t,Z]:=r;rfl
 | _=>show absurd (show false=ag from f) lI
def xy:∀{xs:List V}{us:List J},Vals xs us->xs.all nK=ag->us.any^GG x=xs.any λy=>Tq y x:=by
 intro xs us h f;induction h with
 | nil=>rfl
 | cons r t ih =>
  rw[List.all_cons,qk] at f;rw[lq,lq,NX r f.1,ih f.2]
def rQ(rx:RelV x v)(fx:nK x=ag):∀{xs:List V}{us:List J},Vals xs us->xs.all nK=ag->∀u∈us,SeqAt.EqAt A s u v^GG x u:=by
 intro xs us h f;induction h with
 | nil=>show λu hu=>nomatch hu
 | cons r t ih =>
  rw[List.all_cons,qk] at f;intro u hu;rcases aP.mp hu with rfl|hu;rw[NX r f.1];show ZS r rx f.1 fx;show ih f.2 u hu
noncomputable def z9(x:V)(xs:List V):Bool:=xs.any λy=>Tq y x
def rIn(K:aC)(neg:cf):R2:=λx y H Q=>∃p xs,y=¬p/\(bI K H p xs\/dD K H p xs)/\nK x=ag/\xs.all nK=ag/\Q (.bl (if neg then not (z9 x xs) else z9 x xs)) H
def dZ:lE X (compareOp .In)^rIn dq false:=by
 intro X1 s Y H x y v u Q I rx ry h;let#[p,xs,Z,hq,fx,fs,q]:=h;cases ry;rcases hq with hq|hq
 .let#[XL,r,pl,hz]:=I.list hq;show SeqAt.in_listAt (GG x) pl.isList (λw hw=>rQ rx fx r fs w^by simpa using hw) #[.bl _,H,I,Z,?_];rw[show XL.toArray.any^GG x=XL.any (GG x) by simp,xy r fs];show q
 .let#[XL,r,pl,hz]:=I.tuple hq;show SeqAt.in_tupleAt (GG x) pl (λw hw=>rQ rx fx r fs w^by simpa using hw) #[.bl _,H,I,Z,?_];rw[show XL.toArray.any^GG x=XL.any (GG x) by simp,xy r fs];show q
def rR:lE X (compareOp .NotIn)^rIn dq true:=by
 intro X1 s Y H x y v u Q I rx ry h;let#[p,xs,Z,hq,fx,fs,q]:=h;cases ry;rcases hq with hq|hq
 .let#[XL,r,pl,hz]:=I.list hq;show SeqAt.notIn_listAt (GG x) pl.isList (λw hw=>rQ rx fx r fs w^by simpa using hw) #[.bl _,H,I,Z,?_];rw[show XL.toArray.any^GG x=XL.any (GG x) by simp,xy r fs];show q
 .let#[XL,r,pl,hz]:=I.tuple hq;show SeqAt.notIn_tupleAt (GG x) pl (λw hw=>rQ rx fx r fs w^by simpa using hw) #[.bl _,H,I,Z,?_];rw[show XL.toArray.any^GG x=XL.any (GG x) by simp,xy r fs];show q
theorem BR:ef X (.builtin "len") (λxs H Q=>∃p ys,xs=[¬p]/\(bI dq H p ys\/dD dq H p ys)/\Q (.int ce) H):=by
 intro X1 s Y H xs us Q I r h;let#[p,ys,Z,hq,q]:=h;let#[u,Z,rx]:=vals1 r;cases rx;let hn:=uP;rcases hq with hq|hq
 .let#[XL,r',pl,hz]:=I.list hq;let XB:=r'.length;show Calls.call_len_list pl.isList (by erw[bB]<;>lia) #[.int ce,H,I.tok _,#[s.toks+1,by rw[bB,XB]],q]
 .let#[XL,r',pl,hz]:=I.tuple hq;let XB:=r'.length;show len_tuple pl (by erw[bB]<;>lia) #[.int ce,H,I.tok _,#[s.toks+1,by rw[bB,XB]],q]
theorem BS:ef X (.type "list") (λxs H Q=>∃p ys,xs=[¬p]/\(bI dq H p ys\/dD dq H p ys)/\∀l,H l=aw->Q (¬l)^upd H l^.lst ys):=by
 intro X1 s Y H xs us Q I r h;let#[p,ys,Z,hq,q]:=h;let#[u,Z,rx]:=vals1 r;cases rx;let fin:∀(XL:List J),Vals ys XL->ce<=sizeLine->∀(h':cv)(c':O),(∀b o',s.heap.get? b=!o'->h'.get? b=!o') ->
   h'.get? B=!{ cls:=.type "list", dict:=none,data:=.seq XL.toArray c',slots:=#[] }->EP X X1 Y Q (¬B) { s with heap:=h' }:=λXL r' hz h' c' kp e =>
  #[¬B,_,I.laid (t':=s.toks) kp (ay _)^show dQ bi cq _ h' _^.lst ys from#[hz,XL,c',r',e],Z,q _^I.hok.fresh^ay _]
 rcases hq with hq|hq;let#[XL,r',pl,hz]:=I.list hq;let XB:=r'.length;let#[o,ho,hc,n,hd]:=pl.isList;show call_list_seq p (.inl Z) ho hc hd (λh' c' kp e=>fin XL r' hz h' c' kp e) (by erw[bB]<;>lia);let#[XL,r',pl,hz]:=I.tuple hq;let XB:=r'.length;let#[o,ho,hc,n,hd]:=pl;show call_list_seq p (.inr Z) ho hc hd (λh' c' kp e=>fin XL r' hz h' c' kp e) (by erw[bB]<;>lia)
theorem Af:ef X (.type "tuple") (λxs H Q=>∃p ys,xs=[¬p]/\((bI dq H p ys/\∀l,H l=aw->Q (¬l)^upd H l^.tup ys)\/(dD dq H p ys/\Q (¬p) H))):=by
 intro X1 s Y H xs us Q I r h;let#[p,ys,Z,h]:=h;let#[u,Z,rx]:=vals1 r;cases rx;rcases h with⟨hq,q⟩|⟨hq,q⟩
 .let#[XL,r',pl,hz]:=I.list hq;let XB:=r'.length;show call_tuple_list pl.isList (λh' kp=>?_) (by erw[bB]<;>lia);let I1:Inv X X1 Y H { s with heap:=h' }:=I.kept (t':=s.toks) kp;let I2:Inv X X1 Y (upd H dC^.tup ys) { s with heap:=h'.push { cls:=.type "tuple", data:=.seq XL.toArray } } :=
   I1.laid (t':=s.toks) (λb o e=>eS _ e) (ay _) (show dQ bi cq _ _ _^.tup ys from#[hz,XL,r',IsTup.new _ _])
  show#[¬dC,_,I2,Z,q _^I1.hok.fresh^ay _]
 .let#[XL,r',pl,hz]:=I.tuple hq;show call_tuple_same pl #[¬p,H,I,Z,q]
def WZ(K:aC)(T:String)(x:V)(H:Hp):Prop:=match x with
 | .str _=>T = "str"
 | .int _=>T = "int"
 | .ref p=>(T = "list" /\ ∃xs,bI K H p xs)\/(T = "tuple" /\ ∃o,K.lookup p=!o/\o.cls=.type "tuple" /\ o.dict=aw) \/
   (T = "dict" /\ ((∃kvs,H p=!.dK kvs)\/∃kvs,H p=!.dT kvs))\/(T = "set" /\ ∃S n,H p=!.set S n)
 | _=>False
def NY{Y:St}(I:Inv X X1 Y H s)(r:RelV x v)(ty:WZ dq T x H):
  s.TypeIs v T/\∀a,v=¬a->∃ob,s.heap.get? a=!ob/\ob.dict=none:=by
 cases x with
 | str z =>
  let#[t,Z]:=r;cases(show T = "str" from ty);show#[typeIs_str s z t,λq e=>nomatch e]
 | int i =>
  let#[t,Z]:=r;cases(show T = "int" from ty);show#[typeIs_int s i t,λq e=>nomatch e]
 | ref p =>
  cases r;rcases ty with⟨rfl,xs,hq⟩|⟨rfl,o,hk,hc,hd⟩|⟨rfl,hk⟩|⟨rfl,S,n,hk⟩
  .let#[XL,_,pl,_]:=I.list hq;show#[pl.isList.typeIs,λa e=>?_];cases e;let#[o,n,e,c,hd,_]:=pl;show#[o,e,hd]
  .show#[#[o,I.rK p o hk,hc],λa e=>?_];cases e;show#[o,I.rK _ o hk,hd]
  .have z:∃o,s.heap.get? p=!o/\o.ExactDict:=by rcases hk with⟨kvs,hk⟩|⟨kvs,hk⟩;let#[_,_,_,_,o,_,_,e,ex,_]:=I.hok p _ hk;show#[o,e,ex];let#[_,_,_,_,o,_,_,e,ex,_]:=I.hok p _ hk;show#[o,e,ex]
   let#[o,e,ex]:=z;show#[#[o,e,ex.1],λa e2=>?_];cases e2;show#[o,e,ex.2.1]
  .let#[o,_,_,_,e,ex,_]:=I.hok p _ hk;show#[#[o,e,ex.1],λa e2=>?_];cases e2;show#[o,e,ex.2.1]
 | _=>show False.elim ty
def ad6(K:aC)(T:String)(r:V->List V->Hp->VK->eL)(to:TE):TE:=λY H Q=>to Y H λx H1=>WZ K T x H1/\r x [] H1 Q
def tBM(K:aC)(T:String)(r:V->List V->Hp->VK->eL)(to:TE)(t:TA):TE:=λY H Q=>to Y H λx H1=>WZ K T x H1/\t Y H1 λxs H2=>r x xs H2 Q
variable {o:dr}{to:TE}{t:TA}{id:String}
def uS(pa:PlainAttrs T)(slot:Slot T name id)(hty:typeOf^.builtin id=pure^.type "method_descriptor")(hm:MtR X id r)(ho:PE X o to)(Pt:attributeBase o name ax^eval o ax=eval o ax)(Ps:(TB.endLine==Uf.line)=ag):PE X (.Call (.Attribute o name TB) [] [] Uf)^ad6 dq T r to:=by intro X1 s Y H Q I h;show wpAny_Call_method0_late Pt Ps (dw (ho X1 s Y H _ I h) λv s1 zq=>?_);let#[x,H1,I1,r1,ty,q1]:=zq;let#[h1,h2]:=NY I1 r1 ty;show#[T,id,pa,slot,hty,h1,h2,xU Z^PySem.evalArgs_none^hm X1 s1 Y H1 x [] v [] Q I1 r1 .nil q1]
def dW(pa:PlainAttrs T)(slot:Slot T name id)(hty:typeOf^.builtin id=pure^.type "method_descriptor")(hm:MtR X id r)(ho:PE X o to)(ha:PA X (e::es) t)
  (Pt:⇑(attributeBase o name ax^eval o ax=eval o X.env))
  (hfew:⇑(((backTo Uf^starEach (e::es) ax).all (λx=>not x.1)&&(backToKw Uf^keywordEach [] ax).all (λx=>x.1.isSome)
   && decide ((e::es).length+([]:List Keyword).length+(if([]:List Keyword).isEmpty then 0 else 1)<30))=true))
  (Ps:⇑((TB.endLine==Uf.line)=true))(hs:⇑(starEach (e::es) ax=(false,eval e ax)::starEach es X.env))(Iy:⇑((backTo Uf^starEach es ax).any (·.1)=false)):
  PE X (.Call (.Attribute o name TB) (e::es) [] Uf)^tBM dq T r to t:=by intro X1 s Y H Q I h;show wpAny_Call_method_late Pt hfew Ps Z (dw (ho X1 s Y H _ I h) λv s1 zq=>?_);let#[x,H1,I1,r1,ty,q1]:=zq;let#[h1,h2]:=NY I1 r1 ty;show#[T,id,pa,slot,hty,h1,h2,?_];let hA:=ha Uf X1 s1 Y H1 _ I1 q1;rw[hs] at hA ⊢;show xU (by change(false||(backTo Uf^starEach es ax).any (·.1))=bj;rw[Iy]<;>rfl)^Calls.evalArgs_plain ?_;show dw hA λus s2 zq=>?_;let#[vs,H2,I2,r2,q2]:=zq;show hm X1 s2 Y H2 x vs v us Q I2 r1 r2 q2
end
def MtM(X:Cx)(id:String)(r:V->List V->Hp->VK->eL):eL :=
 ∀(X1:List (ae×du))(s:ap)(Y:St)(H:Hp)(x:V)(xs:List V)(v:J)(us:List J)(Q:VK),Inv X X1 Y H s->RelV x v->Vals xs us->r x xs H Q ->
  wpAny (model bi cq) X.A (call (.builtin id) (v::us)) (EP X X1 Y Q) X.xe s
theorem Vals.one(h:Vals [x] us):∃u,us=[u]/\RelV x u:=by cases h with | cons r t=>cases t;show#[_,Z,r]
theorem Vals.zero:∀{us:List J},Vals [] us->us=[]
 | _,.nil=>rfl
theorem Vals.dropLast(h:Vals xs us):Vals xs.dropLast us.dropLast:=by
 induction h with
 | nil=>show .nil
 | cons r t ih =>
  cases t with
  | nil=>show .nil
  | cons q t'=>show .cons r ih
theorem Vals.reverse(h:Vals xs us):Vals xs.reverse us.reverse:=by
 induction h with
 | nil=>show .nil
 | cons r t ih=>rw[qA,qA];show Vals.append ih^.cons r .nil
theorem Vals.rep(h:Vals xs us):∀k:O,Vals (List.replicate k xs).flatten (List.replicate k us).flatten
 | 0=>.nil
 | k+1=>by rw[yd,yd,List.flatten_cons,List.flatten_cons];show Vals.append h^Vals.rep h k
theorem GH{α:Type}(l:List α):l.eraseIdx (d4-1)=l.dropLast:=by
 induction l with
 | nil=>rfl
 | cons a r ih =>
  cases r with
  | nil=>rfl
  | cons b r =>
   let e:(a::b::r).length-1=((b::r).length-1)+1:=by let h1:(a::b::r).length=eC+2:=rfl;let h2:(b::r).length=eC+1:=rfl;lia
   rw[e,List.eraseIdx_cons_succ,ih]
   all_goals rfl
theorem foldl_rep(XL:List J):∀(k:O)(Xt:List J),
  List.foldl (λx1 x2=>x1++x2) Xt.toArray^List.replicate k XL.toArray=(Xt++(List.replicate k XL).flatten).toArray
 | 0,Xt=>by simp
 | k+1,Xt=>by
  let e:Xt.toArray++XL.toArray=(Xt++XL).toArray:=by simp
  let e2:(Xt++XL)++(List.replicate k XL).flatten=Xt++(List.replicate (k+1) XL).flatten:=by rw[yd,List.flatten_cons,jD]
  rw[<- e2,<- foldl_rep XL k (Xt++XL),<- e,yd,List.foldl_cons]
section
variable {Y:St}{ys zs:List V}
def Inv.ZT{its':List J}{f:Array J->Array J}(I:Inv X X1 Y H s)(hH:H l=!.lst xs)
  (e:s.heap.get? l=!{ cls:=.type "list", data:=.seq XL.toArray n })(hf:f XL.toArray=its'.toArray)(hv:Vals ys its')(hz:ce<=sizeLine):
  Inv X X1 Y (upd H l^.lst ys) { s with heap:=s.heap.update l (Obj.mapSeq f),toks:=t' }:=by let q:=PySem.IsL.update e f;rw[hf] at q;show I.write (x:=l) (e:=l) (by rw[hH];show trivial) (.inl Z) (λb' u hb hu=>(jC am (Obj.mapSeq f)^aR hb).trans hu) #[_,q] ?_;show#[hz,its',_,hv,q]
def Inv.ad7(I:Inv X X1 Y H s)(hv:Vals ys XL)(hz:ce<=sizeLine):
  Inv X X1 Y (upd H B^.lst ys) { s with heap:=s.heap.push { cls:=.type "list", data:=.seq XL.toArray },toks:=t' } :=
 I.laid (λz z q=>eS _ q) (ay _) #[hz,XL,0,hv,jB _ rfl]
theorem Inv.fresh(I:Inv X X1 Y H s):H B=none:=I.hok.fresh^ay _
def Inv.GI(I:Inv X X1 Y H s)(hH:H l=!.lst xs):ab<=sizeLine/\∃(XL:List J)(n:O),Vals xs XL/\ab=XL.length/\s.heap.get? l=!{ cls:=.type "list", data:=.seq XL.toArray n }:=by let#[z,XL,n,r,e]:=I.hok l _ hH;show#[z,XL,n,r,eC,e]
theorem Dv(h:n<=sizeLine):Builtin.List.listTooLong n=false:=by unfold Builtin.List.listTooLong;show decide_eq_false ∅
end
def I9:V->List V->Hp->VK->Prop:=λx vs H Q=>∃l xs y,x=¬l/\vs=[y]/\H l=!.lst xs/\ab<sizeLine/\Q .cB^upd H l^.lst (xs++[y])
theorem bN:MtM X "list.append" I9:=by intro X1 s Y H x vs v us Q I rx rv h;let#[l,xs,y,Z,Z,hH,hz,q]:=h;cases rx;let#[u,Z,ru]:=rv.one;let#[z,XL,n,r,hl,e]:=I.GI hH;show call_meets F.slot_list_append #[_,e,Z] F.entry_list_append (F.args_list_append_2 _ _) (PySem.list_append l XL.toArray n u (by rw[bB];lia)) #[e,?_];show#[.cB,_,I.ZT (its':=XL++[u]) hH e (by simp) (r.append^.cons ru .nil) ?_,Z,q];rw[aT,iB];lia
def Ja:V->List V->Hp->VK->Prop:=λx vs H Q=>∃l b xs zs,x=¬l/\vs=[¬b]/\H l=!.lst xs/\H b=!.lst zs/\ab+zs.length<=sizeLine/\Q .cB^upd H l^.lst (xs++zs)
theorem iX:MtM X "list.extend" Ja:=by
 intro X1 s Y H x vs v us Q I rx rv h;let#[l,b,xs,zs,Z,Z,hH,hB,hz,q]:=h;cases rx;let#[u,Z,ru]:=rv.one;cases ru;let#[z,XL,n,r,hl,e]:=I.GI hH;let#[z2,RF,n2,r2,Pm,e2]:=I.GI hB;let hsz:XL.toArray.size+RF.toArray.size<=sizeLine:=by rw[bB,bB];lia
 let NZ:Not ((not XL.toArray.isEmpty&&Builtin.List.listTooLong (XL.toArray.size+RF.toArray.size))=ag):=by rw[Dv hsz,Bool.and_false];show lI
 show call_meets F.slot_list_extend #[_,e,Z] F.entry_list_extend (F.args_list_extend_2 _ _)
  (AutoSeq1.list_extend_list_list_0 l XL.toArray n b RF.toArray n2 NZ (by rw[bB];lia) ∅) #[e,e2,?_]
 show#[.cB,_,I.ZT (its':=XL++RF) hH e (by simp) (r.append r2) ?_,Z,q];rw[aT];lia
def ad8:V->List V->Hp->VK->Prop:=λx vs H Q=>∃l xs y,x=¬l/\vs=[]/\H l=!.lst xs/\xs[ab-1]?=!y/\Q y^upd H l^.lst xs.dropLast
theorem yr:MtM X "list.pop" ad8:=by
 intro X1 s Y H x vs v us Q I rx rv h;let#[l,xs,y,Z,Z,hH,hy,q]:=h;cases rx;let uT:=rv.zero;subst uT;let#[z,XL,n,r,hl,e]:=I.GI hH;let#[u,hu,ru]:=r.get hy;let hy':XL.toArray[XL.toArray.size-1]?=!u:=by change XL.toArray[XL.length-1]?=!u;rw[<- gG,<- hl];show hu
 show call_meets F.slot_list_pop #[_,e,Z] F.entry_list_pop (F.args_list_pop_1 _) (MeetsSeq.list_pop_last l XL.toArray n u hy' (by rw[bB];lia)) #[e,?_];show#[y,_,I.ZT (its':=XL.dropLast) hH e ?_ r.dropLast ?_,ru,q];change XL.toArray.eraseIdxIfInBounds (XL.toArray.size-1)=XL.dropLast.toArray;rw[bB,List.eraseIdxIfInBounds_toArray,GH];rw[List.length_dropLast];lia
def Dw:R2:=λx y H Q=>∃l b xs zs,x=¬l/\y=¬b/\H l=!.lst xs/\H b=!.lst zs/\ab+zs.length<=sizeLine/\∀p,H p=aw->Q (¬p)^upd H p^.lst (xs++zs)
theorem ia:lE X (binaryOp .Add) Dw:=by
 intro X1 s Y H x y v u Q I rx ry h;let#[l,b,xs,zs,Z,Z,hH,hB,hz,q]:=h;cases rx;cases ry;let#[z,XL,n,r,hl,e]:=I.GI hH;let#[z2,RF,n2,r2,Pm,e2]:=I.GI hB;show PySem.P.add_list e e2 ?_ (by rw[bB,bB];lia);let ea:XL.toArray++RF.toArray=(XL++RF).toArray:=by simp
 rw[ea];show#[¬_,_,I.ad7 (t':=s.toks) (r.append r2) (by rw[aT];lia),Z,q _ I.fresh]
def ad9:R2:=λx y H Q=>∃l k xs,x=¬l/\y=.int k/\H l=!(.lst xs) /\ -(2 ^ 63)<=k/\k<2 ^ 63/\ab*k.toNat<=sizeLine /\
 ∀p,H p=aw->Q (¬p)^upd H p^.lst (List.replicate k.toNat xs).flatten
def len_rep{α:Type}(xs:List α)(k:O):(List.replicate k xs).flatten.length=k*xs.length:=by
 induction k with
 | zero=>simp
 | succ k ih=>rw[yd,List.flatten_cons,aT,ih,Nat.succ_mul,Nat.add_comm]
theorem ZU:lE X (binaryOp .Mult) ad9:=by
 intro X1 s Y H x y v u Q I rx ry h;let#[l,k,xs,Z,Z,hH,h1,h2,hz,q]:=h;cases rx;let#[t,Z]:=ry;let#[z,XL,n,r,hl,e]:=I.GI hH;let XB:XL.toArray.size*k.toNat<=sizeLine:=by rw[bB,<- hl];show hz
 let hcap:Not (XL.toArray.size*k.toNat>(2 ^ 63-1) / 8):=by
  have:(sizeLine:O)<=(2 ^ 63-1) / 8:=()
  lia
 let Tb:Not ((not (Builtin.List.listFitsIndex k))=ag):=by rw[fitsIndex_both h1 h2];show lI
 let NZ:Not (Builtin.List.listTooLong (XL.toArray.size*k.toNat)=ag):=by rw[Dv XB];show lI
 let hnew:List.foldl (λx1 x2=>x1++x2) #[]^List.replicate (if XL.toArray.isEmpty=ag then 0 else k.toNat) XL.toArray=(List.replicate k.toNat XL).flatten.toArray:=by
  let f0:∀m:O,List.foldl (λx1 x2=>x1++x2) #[]^List.replicate m XL.toArray=(List.replicate m XL).flatten.toArray:=λm=>by have:=foldl_rep XL m [];rw[List.nil_append] at this;show this
  rw[f0];cases XL with
  | nil=>simp
  | cons a r'=>rw[if_neg^by simp]
 show wpAny_binaryOp_repeat_ref (T := "list") (U := "int") () #[_,e,Z] (λs'=>typeIs_int s' k t) noFill_list_mul F.fills_int_mul F.slot_int_rmul repeat_list F.slot_int_index.lookup
  (call_meets F.slot_int_rmul (typeIs_int s k t) F.entry_int_rmul (F.args_int_rmul_2 _ _) (int___rmul___int_list k t l XL.toArray n)
   #[e,Z,#[_,e,Z],call_meets F.slot_list_mul #[_,e,Z] F.entry_list_mul (F.args_list_mul_2 _ _) (AutoListH.list___mul___list_int_3 l XL.toArray n k t Tb hcap NZ) #[e,?_]])
 rw[hnew];show#[¬_,_,I.ad7 (t':=s.toks) (r.rep k.toNat) (by rw[len_rep,Nat.mul_comm];show hz),Z,q _ I.fresh]
section
variable {κ:Type} [DecidableEq κ]
noncomputable def c9(kvs:List (κ×V))(k:κ):Option V:=(kvs.find? λkv=>decide (kv.1=k)).map (·.2)
noncomputable def putK(kvs:List (κ×V))(k:κ)(v:V):List (κ×V) :=
 if(kvs.any λkv=>decide (kv.1=k))=ag then kvs.map (λkv=>if kv.1=k then(kv.1,v) else kv) else kvs++[(k,v)]
def gh{p:κ×V}{r:List (κ×V)}{k:κ}(e:p.1=k):c9 (p::r) k=!p.2:=by simp[c9,j6,e]
def gk{p:κ×V}{r:List (κ×V)}{k:κ}(e:Not (p.1=k)):c9 (p::r) k=c9 r k:=by simp[c9,j6,e]
theorem kh(k:κ):∀kvs:List (κ×V),(kvs.any λkv=>decide (kv.1=k))=(c9 kvs k).isSome
 | []=>rfl
 | p::r=>by rw[lq];by_cases e:p.1=k;erw[gh e,decide_eq_true e,Bool.true_or,Option.isSome_some];rw[gk e,decide_eq_false e,Bool.false_or];show kh k r
theorem Dy(k j:κ)(y:V):∀kvs:List (κ×V),c9 (kvs.map λkv=>if kv.1=k then(kv.1,y) else kv) j=(c9 kvs j).map λx=>if j=k then y else x
 | []=>rfl
 | p::r=>by let ih:=Dy k j y r;rw[cN];by_cases h:p.1=k;rw[if_pos h];by_cases e:p.1=j;rw[gh (p:=(p.1,y)) e,gh e,Option.map_some,if_pos^e.symm.trans h];rw[gk (p:=(p.1,y)) e,gk e,ih];rw[if_neg h];by_cases e:p.1=j;rw[gh (p:=p) e,gh e,Option.map_some,if_neg (λz=>h^e.trans z)];rw[gk (p:=p) e,gk e,ih]
theorem AD(k j:κ)(y:V):∀kvs:List (κ×V),c9 kvs k=aw->c9 (kvs++[(k,y)]) j=if j=k then !y else c9 kvs j
 | [],_=>by
  by_cases e:k=j;rw[if_pos e.symm];show gh (p:=(k,y)) e;rw[if_neg (λz=>e z.symm)];show gk (p:=(k,y)) e
 | p::r,hn=>by
  rw[mK];let hk:Not (p.1=k):=λz=>by rw[gh z] at hn;cases hn
  rw[gk hk] at hn;let ih:=AD k j y r hn;by_cases e:p.1=j;rw[gh e,gh e,if_neg (λz=>hk^e.trans z)];rw[gk e,gk e,ih]
def ki(kvs:List (κ×V))(k j:κ)(y:V):c9 (putK kvs k y) j=if j=k then !y else c9 kvs j:=by
 unfold putK;by_cases a:(kvs.any λkv=>decide (kv.1=k))=ag
 .rw[if_pos a,Dy];rw[kh] at a;by_cases e:j=k;let#[x,hx]:=Option.isSome_iff_exists.mp a;rw[if_pos e,e,hx,Option.map_some,if_pos Z]
  .rw[if_neg e];cases c9 kvs j with
   | none=>rfl
   | some x=>rw[Option.map_some,if_neg e]
 .rw[if_neg a];show AD k j y kvs ?_;rw[kh] at a;cases q:c9 kvs k with
  | none=>rfl
  | some x=>rw[q] at a;show(a Z).elim
theorem fF(kvs:List (κ×V))(k:κ)(v:V):(putK kvs k v).length<=bo+1:=by unfold putK;split;rw[aq];lia;rw[aT,ck,List.length_nil];lia
def N1{kvs:List (κ×V)}{k:κ}(v:V)(h:c9 kvs k=aw):putK kvs k v=kvs++[(k,v)]:=by unfold putK;rw[kh,h];show if_neg ()
def lC.jX{u:Option J}(r:lC o u):o.isSome=u.isSome:=by
 cases o with
 | none=>cases u with
  | none=>rfl
  | some _=>show(show False from r).elim
 | some _=>cases u with
  | none=>show(show False from r).elim
  | some _=>rfl
theorem lC.getD{u:Option J}{d:V}{d':J}(r:lC o u)(rd:RelV d d'):RelV (o.getD d)^u.getD d':=by
 cases o with
 | none=>cases u with
  | none=>show rd
  | some _=>show(show False from r).elim
 | some _=>cases u with
  | none=>show(show False from r).elim
  | some _=>show r
def KV.val{kvs:List (κ×V)}{vs:List (κ×J)}(r:KV kvs vs)(k:κ):lC (c9 kvs k)^valueAt vs k:=by
 unfold KV at r;induction r with
 | nil=>show gw
 | @cons p q ps qs h t ih =>
  let#[h1,h2]:=h;by_cases e:p.1=k
  .have e':q.1=k:=h1.symm.trans e;let b:valueAt (q::qs) k=!q.2:=by simp[valueAt,j6,e']
   rw[gh e,b];show h2
  .have e':Not (q.1=k):=λz=>e^h1.trans z;let b:valueAt (q::qs) k=valueAt qs k:=by simp[valueAt,j6,e']
   rw[gk e,b];show ih
theorem KV.any{kvs:List (κ×V)}{vs:List (κ×J)}(r:KV kvs vs)(k:κ):(kvs.any λkv=>decide (kv.1=k))=vs.any λkv=>decide (kv.1=k):=by
 unfold KV at r;induction r with
 | nil=>rfl
 | cons h t ih=>rw[lq,lq,ih,h.1]
def KV.repl{kvs:List (κ×V)}{vs:List (κ×J)}(r:KV kvs vs)(k:κ)(ry:RelV y u):
  KV (kvs.map λkv=>if kv.1=k then(kv.1,y) else kv) (vs.map λkv=>if kv.1=k then(kv.1,u) else kv):=by
 unfold KV at r ⊢;induction r with
 | nil=>show .nil
 | @cons p q ps qs h t ih =>
  rw[cN,cN];show .cons ?_ ih;let#[h1,h2]:=h;by_cases e:p.1=k;rw[if_pos e,if_pos^h1.symm.trans e];show#[h1,ry];rw[if_neg e,if_neg (λz=>e^h1.trans z)];show#[h1,h2]
def KV.put{kvs:List (κ×V)}{vs:List (κ×J)}(r:KV kvs vs)(k:κ)(ry:RelV y u):KV (putK kvs k y)^stored vs k u:=by unfold putK stored;rw[r.any k];by_cases e:(vs.any λkv=>decide (kv.1=k))=ag;rw[if_pos e,if_pos e];show r.repl k ry;rw[if_neg e,if_neg e];show eU r #[Z,ry]
theorem KV.length{kvs:List (κ×V)}{vs:List (κ×J)}(r:KV kvs vs):bo=vs.length:=kM r
end
def qm{k:Key}(r:RelV (kV k) u):(bT P w).is k u=true:=by
 cases k with
 | inl i=>let#[t,e]:=(show ∃t,u=Value.int i t from r);subst e;show Dl P w i t
 | inr x=>let#[t,e]:=(show ∃t,u=Value.str x t from r);subst e;show oj P w x t
theorem AE{P:de}{w:cw}:∀{ks:List Key}{us:List J},Vals (ks.map kV) us->ItemsAre (bT P w) ks us
 | [],_,r=>by rw[List.map_nil] at r;cases r;show .nil
 | k::ks,_,r=>by
  rw[cN] at r;cases r with
  | cons h t=>show .cons (qm h)^AE t
abbrev KT(H:Hp):List (List Key×V)->List (List Key×ae×J)->Prop:=Paired λp q=>p.1=q.1/\H q.2.1=!.tup^p.1.map kV/\RelV p.2 q.2.2
def KT.val{xs:List (List Key×ae×J)}(r:KT H kvs xs)(k:List Key):lC (c9 kvs k)^(atKey xs k).map (·.2):=by
 induction r with
 | nil=>show gw
 | @cons p q ps qs h t ih =>
  let#[h1,_,h2]:=h;by_cases e:p.1=k
  .have e':q.1=k:=h1.symm.trans e;let b:atKey (q::qs) k=!q.2:=by simp[atKey,j6,e']
   rw[gh e,b];show h2
  .have e':Not (q.1=k):=λz=>e^h1.trans z;let b:atKey (q::qs) k=atKey qs k:=by simp[atKey,j6,e']
   rw[gk e,b];show ih
def KT.repl{xs:List (List Key×ae×J)}(r:KT H kvs xs)(k:List Key)(ry:RelV y u):
  KT H (kvs.map λkv=>if kv.1=k then(kv.1,y) else kv)^xs.map^putAt k u:=by
 induction r with
 | nil=>show .nil
 | @cons p q ps qs h t ih =>
  rw[cN,cN];show .cons ?_ ih;let#[h1,h2,h3]:=h;unfold putAt;by_cases e:p.1=k;rw[if_pos e,if_pos^h1.symm.trans e];show#[h1,h2,ry];rw[if_neg e,if_neg (λz=>e^h1.trans z)];show#[h1,h2,h3]
def KT.put{xs:List (List Key×ae×J)}(r:KT H kvs xs)(k:List Key)(hb:H b=!.tup^k.map kV)(ry:RelV y u):
  KT H (putK kvs k y)^storedH xs k b u:=by
 let e:(kvs.any λkv=>decide (kv.1=k))=(atKey xs k).isSome:=by rw[kh,(r.val k).jX,Option.isSome_map]
 unfold putK storedH;rw[e];by_cases q:(atKey xs k).isSome=ag;rw[if_pos q,if_pos q];show r.repl k ry;rw[if_neg q,if_neg q];show eU r #[Z,hb,ry]
def KT.keeps{xs:List (List Key×ae×J)}(r:KT H kvs xs)(ht:∀b ys,H b=!.tup ys->H' b=!.tup ys):KT H' kvs xs :=
 Paired.KP r λq q z=>#[z.1,ht _ _ z.2.1,z.2.2]
def W2{u:HO}(ok:qC P w H h)(e:Rd H a u):dQ P w H h a u:=e.ok ok
def vU{kvs:List (Key×V)}(ok:qC P w H h)(e:Rd H a^.dK kvs):bo<=sizeLine/\(a==sysModules)=bj/\∃vs,KV kvs vs/\h.DictOf (bT P w) a vs :=
 show dQ P w H h a^.dK kvs from W2 ok e
def W3{kvs:List (Key×V)}(ok:qC P w H h)(e:H a=!.dK kvs):bo<=sizeLine/\(a==sysModules)=bj/\∃vs,KV kvs vs/\h.DictOf (bT P w) a vs:=vU ok^.inl e
def uU{ks:List Key}(ok:qC P w H h)(e:H a=!.tup^ks.map kV):(tupleKind^bT P w).is h ks a:=by let#[_,XL,r,o,h1,h2,n,h3]:=(show dQ P w H h a^.tup^ks.map kV from ok a _ e);show#[o,XL.toArray,n,h1,h2,h3,by simpa using AE r]
def yt(ok:qC P w H h)(e:Rd H a^.dT kvs):bo<=sizeLine/\(a==sysModules)=bj /\
  ∃xs,KT H kvs xs/\h.DictOfH (tupleKind^bT P w) a xs:=by
 let#[z,y,xs,r,o,es,ep,h1,h2,h3,h4,h5]:=(show dQ P w H h a^.dT kvs from W2 ok e);show#[z,y,xs,r,o,es,ep,h1,h2,h3,h4,λx hx=>?_,h5];let all:∀{l:List (List Key×V)}{m:List (List Key×ae×J)},KT H l m->∀x∈m,(tupleKind^bT P w).is h x.1 x.2.1:=by
  intro l m q;induction q with
  | nil=>intro x hx;show nomatch hx
  | @cons p q ps qs hq t ih =>
   intro x hx;rcases aP.mp hx with e|hx
   .subst e;show uU ok (by rw[<- hq.1];show hq.2.1)
   .show ih x hx
 show all r x hx
def aea(ok:qC P w H h)(e:H a=!.dT kvs):bo<=sizeLine/\(a==sysModules)=bj /\
  ∃xs,KT H kvs xs/\h.DictOfH (tupleKind^bT P w) a xs:=yt ok^.inl e
def rS(H:Hp)(a:ae)(y:V)(r:Option V):eL :=
 (∃kvs k,Rd H a^.dK kvs/\y=kV k/\r=c9 kvs k)\/∃kvs k b,Rd H a^.dT kvs/\y=¬b/\H b=!.tup^k.map kV/\r=c9 kvs k
def K7(H:Hp)(a:ae)(y v:V)(H':Hp):eL :=
 (∃kvs k,H a=!.dK kvs/\y=kV k/\bo<sizeLine/\H'=upd H a^.dK^putK kvs k v) \/
 ∃kvs k b,H a=!.dT kvs/\y=¬b/\H b=!.tup^k.map kV/\bo<sizeLine/\H'=upd H a^.dT^putK kvs k v
def K7.t{k:List Key}{v:V}(e:H a=!.dT kvs)(eb:H b=!.tup^k.map kV)(hl:bo<sizeLine):
  K7 H a (¬b) v^upd H a^.dT^putK kvs k v:=.inr #[kvs,k,b,e,Z,eb,hl,Z]
section
variable {Y:St}{v:V}{r:J}{o:Option V}
def Inv.big(I:Inv X X1 Y H s):sysModules<s.heap.objs.size:=by let h:mainGlobals<s.heap.objs.size:=(I.mod.glob.keeps I.bk).lt;show Nat.lt_trans () h
def K8(hu:A.units+1<cLine)(I:Inv X X1 Y H s)(g:rS H a y^!v)(ry:RelV y u)(h:∀w' s',Inv X X1 Y H s'->RelV v w'->Q w' s'):
  wpAny (model bi cq) A (getItem (¬a) u) Q E s:=by rcases g with⟨kvs,k,e,ey,l⟩|⟨kvs,k,b,e,ey,eb,l⟩;subst ey;let#[z,hd,vs,W1,dd]:=vU I.hok e;let#[w',hw,PH]:=lC.some_of (v:=v) (o:=valueAt vs k) (by rw[l];show W1.val k);show wpAny_getItem_of (qm ry) dd.mapOf hw^h w' _ (I.tok _) PH;subst ey;cases(show u=Value.ref b from ry);let#[z,hd,xs,W1,dd]:=yt I.hok e;let#[w',hw,PH]:=lC.some_of (v:=v) (o:=(atKey xs k).map (·.2)) (by rw[l];show W1.val k);let#[p,hp,hp2]:=cU.mp hw;show wpAny_getItem_heap (tupleKind_room_in1 hu) (uU I.hok eb) dd hp ?_;rw[hp2];show h w' _ (I.tok _) PH
def ajo(hu:A.units+1<cLine)(I:Inv X X1 Y H s)(g:rS H a y o)(ry:RelV y u)(h:∀s',Inv X X1 Y H s'->Q (.bool o.isSome) s'):
  wpAny (model bi cq) A (compareOp .In u^¬a) Q E s:=by rcases g with⟨kvs,k,e,ey,l⟩|⟨kvs,k,b,e,ey,eb,l⟩;subst ey;let#[z,hd,vs,W1,dd]:=vU I.hok e;show wpAny_in_of (qm ry) hd dd.mapOf ?_;rw[<- (W1.val k).jX,<- l];show h _^I.tok _;subst ey;cases(show u=Value.ref b from ry);let#[z,hd,xs,W1,dd]:=yt I.hok e;show wpAny_in_heap (tupleKind_room_in1 hu) (uU I.hok eb) hd dd ?_;let q:=(W1.val k).jX;rw[Option.isSome_map] at q;rw[<- q,<- l];show h _^I.tok _
def Tr(hu:A.units+1<cLine)(I:Inv X X1 Y H s)(g:rS H a y o)(ry:RelV y u)(h:∀s',Inv X X1 Y H s'->Q (.bool (not o.isSome)) s'):
  wpAny (model bi cq) A (compareOp .NotIn u^¬a) Q E s:=by rcases g with⟨kvs,k,e,ey,l⟩|⟨kvs,k,b,e,ey,eb,l⟩;subst ey;let#[z,hd,vs,W1,dd]:=vU I.hok e;show wpAny_notIn_of (qm ry) hd dd.mapOf ?_;rw[<- (W1.val k).jX,<- l];show h _^I.tok _;subst ey;cases(show u=Value.ref b from ry);let#[z,hd,xs,W1,dd]:=yt I.hok e;show wpAny_notIn_heap (tupleKind_room_in1 hu) (uU I.hok eb) hd dd ?_;let q:=(W1.val k).jX;rw[Option.isSome_map] at q;rw[<- q,<- l];show h _^I.tok _
def BU{ob:HO}(I:Inv X X1 Y H s)(mu:Mut^H a)(hs:Heap.SameBut a am h')(he:∃q,h'.get? a=!q)(new:dQ bi cq (upd H a ob) h' a ob):
  Inv X X1 Y (upd H a ob) { s with heap:=h',toks:=t' } :=
 I.write (x:=a) (e:=a) mu (.inl Z) (λb q hb z=>(hs.2 b hb).trans z) he new
def ZV{kvs:List (Key×V)}{vs:List (Key×J)}(z:bo<=sizeLine)(hd:(a==sysModules)=bj)(W1:KV kvs vs)(dd:h'.DictOf (bT P w) a vs):
  dQ P w H' h' a^.dK kvs:=#[z,hd,vs,W1,dd]
theorem K9{Q:Unit->ap->eL}(hu:A.units+1<cLine)(I:Inv X X1 Y H s)(g:K7 H a y v H')(ry:RelV y u)(rv:RelV v r)(h:∀s',Inv X X1 Y H' s'->Q Unit.unit s'):
  wpAny (model bi cq) A (setItem (¬a) u r) Q E s:=by
 rcases g with⟨kvs,k,e,ey,l,eH⟩|⟨kvs,k,b,e,ey,eb,l,eH⟩
 .subst ey eH;let#[z,hd,vs,W1,dd]:=W3 I.hok e;let hz:dA<=sizeLine:=by rw[<- W1.length];show z
  let hl:(putK kvs k v).length<=sizeLine:=by have:=fF kvs k v;lia
  show wpAny_setItem_pairs (hsz:=hz) (qm ry) dd λh' dd' hs=>h _ ?_;let he:∃q,h'.get? a=!q:=let⟨q,_,_,hq,_⟩:=dd';#[q,hq];show BU I (by rw[e];show gw) hs he^ZV hl hd (W1.put k rv) dd'
 .subst ey eH;cases(show u=Value.ref b from ry);let#[z,hd,xs,W1,dd]:=aea I.hok e;let hz:ab<=sizeLine:=by rw[<- kM W1];show z
  let hl:(putK kvs k v).length<=sizeLine:=by have:=fF kvs k v;lia
  show wpAny_setItem_heap (hsz:=hz) (tupleKind_room_in1 hu) (uU I.hok eb) dd λh' dd' hs=>h _ ?_;let#[q,es,ep,hq,h2,h3,h4,_,h5]:=dd';show BU I (by rw[e];show gw) hs #[q,hq] #[hl,hd,_,(W1.put k eb rv).keeps λc ys ec=>?_,q,es,ep,hq,h2,h3,h4,h5];rw[cg^cJ ec e (λz=>nomatch z)];show ec
end
section
variable {Y:St}{kvs:List (Key×V)}{k:Key}
theorem aeb(I:Inv X X1 Y H s)(e:Rd H a^.dK kvs)(h:∀t s',Inv X X1 Y H s'->Q (.int bo t) s'):wpAny (model bi cq) A (call (.builtin "len") [¬a]) Q E s:=by let#[z,hd,vs,W1,dd]:=vU I.hok e;show call_len_dict hd dd (by rw[<- W1.length];rw[sizeLine_eq] at z;lia) ?_;rw[<- W1.length];show h _ _^I.tok _
end
def N2(i:dr):=∀ov iv,subscripted i bj ov iv=operate [ov,iv]^getItem ov iv
def BV{env:Env}{slice:dr}{id:String}
  (hl:typeLookup (.type T) "__getitem__" = pure^!.builtin id)(hs:N2 slice)
  (h:wpAny (model prog w) A (eval value env) (λo s₁=>wpAny (model prog w) A (eval slice env) (λi s₂=>s₂.TypeIs o T/\wpAny (model prog w) A (getItem o i) Q E s₂) E s₁) E s):
  wpAny (model prog w) A (eval (.Subscript value slice pos) env) Q E s:=by
 show Subscript_ (wpAny_mono h (λo s₁ h₁=>wpAny_mono h₁ (λi s₂ h₂=>?_) λz z x=>x) λz z x=>x);let#[hT,h₂]:=h₂;unfold subscriptTail;show au ?_;rw[getitemInPython_of_ne hT.not_modules];show au^wpAny_specialOf hT hl ?_;let fin:wpAny (model prog w) A (subscripted slice bj o i) (λr s₃=>wpAny (model prog w) A (letTemporaryGo value o r >>= λz=>pure r) Q E s₃) E s₂:=by rw[hs o i];show wpAny_operating (wpAny_mono h₂ (λr s₃ h₃=>au^wpAny_letTemporaryGo^aW h₃) λz z x=>x)
 first
  | show aW^au fin
  | show au^aW^au fin
  | show au fin
def Dz{Y:St}(I:Inv X X1 Y H s)(g:rS H a y o):s.TypeIs (¬a) "dict" := by rcases g with⟨kvs,k,e,_,_⟩|⟨kvs,k,b,e,_,_,_⟩;let#[_,_,vs,_,dd]:=vU I.hok e;show dd.typeIs;let#[_,_,xs,_,dd]:=yt I.hok e;show dd.typeIs
def N3(td ty:TE):TE:=λY H Q=>td Y H λx H1=>ty Y H1 λy H2=>∃a v,x=¬a/\rS H2 a y^!v/\Q v H2
def ZW(ty td:TE):TE:=λY H Q=>ty Y H λy H1=>td Y H1 λx H2=>∃a o,x=¬a/\rS H2 a y o/\Q (.bl o.isSome) H2
def Jb(ty td:TE):TE:=λY H Q=>ty Y H λy H1=>td Y H1 λx H2=>∃a o,x=¬a/\rS H2 a y o/\Q (.bl (not o.isSome)) H2
def W4(td ty tv:TE):TS:=λD Y H=>tv Y H λv H1=>td Y H1 λx H2=>ty Y H2 λy H3=>∃a H4,x=¬a/\K7 H3 a y v H4/\D.nx Y H4
section
variable {o i:dr}{ty:TE}
def iG(hu:X.A.units+1<cLine)(ho:PE X o td)(hi:PE X i ty)(hs:N2 i):PE X (.Subscript o i pos)^N3 td ty:=by intro X1 s Y H Q I h;show BV PySem.F.slot_dict_getitem.lookup hs (dw (ho X1 s Y H _ I h) λu s1 zq=>?_);let#[x,H1,I1,rx,q1]:=zq;show dw (hi X1 s1 Y H1 _ I1 q1) λiv s2 zq=>?_;let#[y,H2,I2,ry,a,v,ex,g,q2]:=zq;subst ex;obtain rfl:u=Value.ref a:=rx;show#[Dz I2 g,K8 hu I2 g ry λw' s3 I3 PH=>#[v,H2,I3,PH,q2]]
def GJ(hu:X.A.units+1<cLine)(hi:PE X i ty)(ho:PE X o td):PC X .In i o^ZW ty td:=by intro X1 s Y H Q I h;show dw (hi X1 s Y H _ I h) λiv s1 zq=>?_;let#[y,H1,I1,ry,q1]:=zq;show dw (ho X1 s1 Y H1 _ I1 q1) λu s2 zq=>?_;let#[x,H2,I2,rx,a,ov,ex,g,q2]:=zq;subst ex;obtain rfl:u=Value.ref a:=rx;show ajo hu I2 g ry λs3 I3=>#[.bl ov.isSome,H2,I3,Z,q2]
def La(hu:X.A.units+1<cLine)(hi:PE X i ty)(ho:PE X o td):PC X .NotIn i o^Jb ty td:=by intro X1 s Y H Q I h;show dw (hi X1 s Y H _ I h) λiv s1 zq=>?_;let#[y,H1,I1,ry,q1]:=zq;show dw (ho X1 s1 Y H1 _ I1 q1) λu s2 zq=>?_;let#[x,H2,I2,rx,a,ov,ex,g,q2]:=zq;subst ex;obtain rfl:u=Value.ref a:=rx;show Tr hu I2 g ry λs3 I3=>#[.bl (not ov.isSome),H2,I3,Z,q2]
def jh(hu:X.A.units+1<cLine)(ho:PE X o td)(hi:PE X i ty)(hv:PE X value tv)(hs:swapsWith value (!.Subscript o i QP) pos.line ax=pure bj):
  PS X (.Assign [.Subscript o i QP] value pos)^W4 td ty tv:=by intro X1 s Y H D I h;show wpAny_Assign_Subscript (dw (hv X1 s Y H _ I h) λr s1 zq=>?_) hs;let#[v,H1,I1,rv,q1]:=zq;show dw (ho X1 s1 Y H1 _ I1 q1) λu s2 zq=>?_;let#[x,H2,I2,rx,q2]:=zq;show dw (hi X1 s2 Y H2 _ I2 q2) λiv s3 zq=>?_;let#[y,H3,I3,ry,a,H4,ex,g,q3]:=zq;subst ex;obtain rfl:u=Value.ref a:=rx;show K9 hu I3 g ry rv λs4 I4=>#[Y,H4,I4,q3]
end
def N4(h:cv)(hb:sysModules<dE):dQ P w H (h.push { cls:=.type "dict", data:=.dict #[] }) dE (.dK []) :=
 #[aV _,beq_eq_false_iff_ne.mpr^aR^aU hb,[],.nil,Heap.DictOf.new h]
def N5(h:cv)(hb:sysModules<dE):dQ P w H (h.push { cls:=.type "dict", data:=.dict #[] }) dE (.dT []) :=
 #[aV _,beq_eq_false_iff_ne.mpr^aR^aU hb,[],.nil,_,#[],0,jB _ rfl,#[Z,Z,Z],Z,Z,lB]
def N6:TE:=λz H Q=>∀p,H p=aw->Q (¬p)^upd H p^.dK []
def N7:TE:=λz H Q=>∀p,H p=aw->Q (¬p)^upd H p^.dT []
def rT:PE X (.Dict [] [] pos) N6:=λX1 s Y H Q I h =>
 wpAny_Dict_empty #[¬B,_,I.laid (a:=B) (o:=.dK []) (t':=s.toks) (λz z q=>eS _ q) (ay _)^N4 am I.big,Z,h _^I.hok.fresh^ay _]
def N8:PE X (.Dict [] [] pos) N7:=λX1 s Y H Q I h =>
 wpAny_Dict_empty #[¬B,_,I.laid (a:=B) (o:=.dT []) (t':=s.toks) (λz z q=>eS _ q) (ay _)^N5 am I.big,Z,h _^I.hok.fresh^ay _]
structure M2 (X:Cx) (o:Expr) (m:Str) (TB:Pos) (e f:Expr) (Uf:Pos):Prop where
 base:attributeBase o m X.env^eval o X.env=eval o X.env
 few:((backTo Uf^starEach [e,f] X.env).all (λx=>not x.1)&&(backToKw Uf^keywordEach [] X.env).all (λx=>x.1.isSome)
  && decide (([e,f]:List Expr).length+([]:List Keyword).length+(if([]:List Keyword).isEmpty then 0 else 1)<30))=true
 line:(TB.endLine==Uf.line)=true
 trees:backTo Uf^starEach [e,f] X.env=[(false,eval e X.env),(false,eval f X.env)]
def IsD(H:Hp)(a:ae):=(∃kvs,Rd H a^.dK kvs)\/∃kvs,Rd H a^.dT kvs
def ZX{Y:St}(I:Inv X X1 Y H s)(d:IsD H a):
  s.TypeIs (¬a) "dict" /\ (∀b,Value.ref a=¬b->∃ob,s.heap.get? b=!ob/\ob.dict=aw)/\(a==sysModules)=false:=by rcases d with⟨kvs,e⟩|⟨kvs,e⟩;let#[_,hd,vs,_,dd]:=vU I.hok e;show#[dd.typeIs,λb q=>?_,hd];cases q;let#[ob,_,_,h1,h2,_]:=dd;show#[ob,h1,h2.2.1];let#[_,hd,xs,_,dd]:=yt I.hok e;show#[dd.typeIs,λb q=>?_,hd];cases q;let#[ob,_,_,h1,h2,_]:=dd;show#[ob,h1,h2.2.1]
section
variable {Y:St}{d:V}{r:J}{o:Option V}
def ZY(hu:A.units+1<cLine)(I:Inv X X1 Y H s)(g:rS H a y o)(ry:RelV y u)(rd:RelV d r)(h:∀w' s',Inv X X1 Y H s'->RelV (o.getD d) w'->Q w' s'):
  wpAny (model bi cq) A (call (.builtin "dict.get") [¬a,u,r]) Q E s:=by rcases g with⟨kvs,k,e,ey,l⟩|⟨kvs,k,b,e,ey,eb,l⟩;subst ey;let#[z,hd,vs,W1,dd]:=vU I.hok e;show call_meetsIn rG dd.typeIs PySem.F.entry_dict_get (PySem.F.args_dict_get_3 _ _ _) (meets_dict_get_default (bT bi cq) a (qm ry) hd r) #[_,dd.mapOf,h _ _ (I.tok _) ?_];rw[l];show(W1.val k).getD rd;subst ey;cases(show u=Value.ref b from ry);let#[z,hd,xs,W1,dd]:=yt I.hok e;show call_meetsIn rG dd.typeIs PySem.F.entry_dict_get (PySem.F.args_dict_get_3 _ _ _) (meetsH_dict_get_default (tupleKind^bT bi cq) a b hd r) #[tupleKind_room_in1 hu,k,xs,uU I.hok eb,dd,h _ _ (I.tok _) ?_];rw[l];show(W1.val k).getD rd
end
def N9(td ty tx:TE):TE:=λY H Q=>td Y H λx H1=>∃a,x=¬a/\IsD H1 a/\ty Y H1 λy H2=>tx Y H2 λz H3=>∃o,rS H3 a y o/\Q (o.getD z) H3
section
variable {o f:dr}{ty:TE}
def lM(hu:X.A.units+1<cLine)(ho:PE X o td)(he:PE X e ty)(hf:PE X f tx)(m:M2 X o "get" TB e f Uf):PE X (.Call (.Attribute o "get" TB) [e,f] [] Uf)^N9 td ty tx:=by intro X1 s Y H Q I h;show wpAny_Call_method m.base m.few m.line PySem.F.plainAttrs_dict rG PySem.F.type_dict_get (dw (ho X1 s Y H _ I h) λu s1 zq=>?_);let#[x,H1,I1,rx,a,ex,d,q1]:=zq;subst ex;obtain rfl:u=Value.ref a:=rx;let#[t1,t2,_]:=ZX I1 d;show#[t1,t2,?_];rw[m.trees];show xU Z^Calls.evalArgs_plain^mH (dw (he X1 s1 Y H1 _ I1 q1) λiv s2 zq=>?_);let#[y,H2,I2,ry,q2]:=zq;show mH (dw (hf X1 s2 Y H2 _ I2 q2) λfv s3 zq=>?_);let#[z,H3,I3,rz,ov,g,q3]:=zq;show nW ?_;show ZY hu I3 g ry rz λw' s4 I4 PH=>#[_,H3,I4,PH,q3]
end
section
variable {Y:St}{kvs:List (Key×V)}
end
section
variable {Y:St}
end
end L2
namespace Att
open PySem PySem.W PySem.Calls PyProof.Rows
def wY{P:Params}:∀(ns:List M)(vs:List J),WellAll P h vs^ns.map WData.int->IntsAre vs ns:=by
 intro ns;induction ns with
 | nil =>
  intro vs w;rw[List.map_nil] at w;cases w;show .nil
 | cons n ns ih =>
  intro vs w;rw[cN] at w;cases w with
  | cons a b =>
   cases a;show .cons _ _^ih _ b
theorem Lb{l:OpenLaw}(hn:l.most=!n){P:Params}{args:List WData}{vals:List J}
  (Mo:l.row.toRowW.claim.pre args=ag)(hwl:WellAll P h vals args):
  ∃a vs ns,vals=[Value.ref a]/\args=[WData.list^ns.map WData.int]/\h.get? a=!{ cls:=.type "list", data:=.seq vs.toArray }/\IntsAre vs ns/\ns.length<=n:=by
 let hsh:WShape.hasAll [] args [.list .int]=true:=(pre_splitW Mo).1;let hc:l.pre.holds [] { args:=args }=true:=(pre_splitW Mo).2;let#[d,r,Z,h1,h2]:=hasAllW_cons hsh;obtain rfl:=hasAllW_nil h2;let#[xs,Z,h3]:=hasW_list h1;let#[ns,Z]:=items_int h3;let XB:ns.length<=n:=by
  unfold OpenLaw.pre at hc;let h4:(WTm.not^.lt (.lit^.int (n:M))^.len^.arg 0).holds [] { args:=[.list^ns.map .int] }=true:=by let h4:=(holds_andW hc).1;rw[hn] at h4;show h4
  let h5:=condW_of h4^w_not^w_lt w_lit^w_len_list^w_arg Z;rw[aq] at h5;show Nat.le_of_not_lt λq=>?_;let q':(n:M)<((ns.length:O):M):=∅
  first
   | (rw[decide_eq_true q'] at h5;show absurd h5 ())
   | (simp at h5;lia)
 cases hwl with
 | cons w1 w2 =>
  cases w2;cases w1 with
  | list ho Wp=>show#[_,_,ns,Z,Z,ho,wY ns _ Wp,XB]
def Lc(l:OpenLaw)(args:List WData):l.row.toRowW.claim.post args (.bool ag) args=ag :=
 postW_of (r:=l.row.toRowW) (X:=(true==ag))
  (show WShape.has [] (.bool ag) .bool=ag by first|rfl|decide|simp[WShape.has,WShape.arms,WShape.armsAll])
  (show(WTm.eq .res^.lit^.bool ag).value [] { args:=args,res:=!.bool ag,after:=args }=!.bool (true==ag) from w_eq_bool (w_res Z) w_lit) Z
def DA{l:OpenLaw}{q:de}{NA:List bc}{XP:(bc->Option J)->cv->eL}{YP:cw->cv->eL}{d:DefRec}
  (hn:l.most=!n)(hdf:d.params.defaults=[])
  (call:∀(w:cw)(s₀ s₁:ap)(mg mb:bc->Option J)(fa:ae)(o:du)(pm cd SB:J)(a:ae)(vs:List J)(ns:List M),
   Ground q NA [] XP w s₀ mg mb s₁.heap->YP w s₁.heap ->
   s₁.heap.get? fa=!o->o.data=.func^docDef d.name d.params d.body d.scope pm cd SB->s₁.heap.CodeRec cd d.name->mg d.name=!(¬fa) ->
   s₁.heap.get? a=!{ cls:=.type "list", data:=.seq vs.toArray }->IntsAre vs ns->ns.length<=n->s₁.gens=#[] ->
   codeAny (model l.prog w) callerA (.call (¬fa) #[[¬a],[]]) (λr s'=>r=.ok^.ret^.bool ag/\OldK s₁.heap d6/\s'.os=s₁.os/\AllBare s'.gens) s₁):
  WalkO q NA XP YP l.row.toRowW d [] (λf vs=>PySem.call f vs):=by intro w s₀ s₁ mg mb G ZB fa o pm cd SB dV kV ho hd Kt hD hmg hg args vals as Mo hlay hrd hwl hlo;obtain rfl:dV=.none:=Dflts.none hD hdf;obtain rfl:kV=.none:=Dflts.noKw hD;let#[a,vs,ns,Z,Z,hobj,hints,XB]:=Lb hn Mo hwl;show enter_call (codeAny_mono (call w s₀ s₁ mg mb fa o pm cd SB a vs ns G ZB ho (fd_plain hd) Kt hmg hobj hints XB hg) λr s' hq=>?_);let#[Z,h2,h3,h4]:=hq;show#[.inl #[.bool ag,.bool ag,[],Z,λz=>rfl,.bool ag,Lc l _,λz=>#[List.Pairwise.nil,λz hm=>(nomatch hm)]],h2,h3,h4]
section
variable {K:Frag}
end
end Att
namespace L2
variable {qual:bc}
def Ld:∀{vs:List J}{ns:List M},IntsAre vs ns->Vals (ns.map V.int) vs:=by
 intro vs ns h;induction h with
 | nil=>show .nil
 | cons n t h ih=>show .cons #[t,Z] ih
def ZZ(H:Hp):=∀b,H b=aw\/∃o xs,H b=!.IK o^.lst xs
def Oa{mb:bc->Option J}{CX:Ng}{fa:ae}{s₁:ap}
  (KX:K.In s₁.heap)(Qr:s₁.heap.Ns mainGlobals mg)(hb:s₁.heap.Ns builtinsNs mb)(hbb:∀x:bc,x ≠ "__name__" -> mb x=bootBuiltins x)(hlim:s₁.heap.NoLimit)(hg:s₁.gens=#[])
  (ha:s₁.heap.get? a=!{ cls:=.type "list", data:=.seq vs.toArray })(hi:IntsAre vs ns)(hl:ns.length<=sizeLine)(hr:iW k callerA)
  (F:∀base:cv,K.In base->base.Ns mainGlobals mg->bS P w K mg base CX k fa fd [x] sp)(hbind:∀(s:ap)(u:J),BindsTo s fd #[[u],[]] [(x,u)])
  (SH:∀H:Hp,ZZ H->bI K H a^ns.map V.int->sp [¬a] H (λv j=>v=.bl ag) λj j j=>False)
  (hCX:∀H e s',CX [] H s₁ (λj j j=>False) e s'->False):
  codeAny (model P w) callerA (.call (¬fa) #[[¬a],[]]) (λr s'=>r=.ok^.ret^.bool ag/\OldK s₁.heap d6/\s'.os=s₁.os/\AllBare s'.gens) s₁:=by
 let rv:=Ld hi;let ajr:=hi.length;let core:∀H:Hp,ZZ H->bI K H a^ns.map V.int->qC P w H s₁.heap->(∀b,H b≠none->b=a)->(H a≠none->K.lookup a=aw) ->
   codeAny (model P w) callerA (.call (¬fa) #[[¬a],[]]) (λr s'=>r=.ok^.ret^.bool ag/\OldK s₁.heap d6/\s'.os=s₁.os/\AllBare s'.gens) s₁:=by
  intro H hO hS hok hA hK;let Jc:∀{b:ae}{o:du},s₁.heap.get? b=!o->H b=aw->(BI s₁.heap H).get? b=!o:=λe n=>Nt e n;let noA:∀{b:ae}{o:du}{es:Array DictEntry}{ep:O},s₁.heap.get? b=!o->o.data=.dict es ep->H b=none:=λ{b o es ep} e d=>by
   cases q:H b with
   | none=>rfl
   | some u =>
    let e':b=a:=hA b (by rw[q];simp);subst e';rw[ha] at e;cases e;let d':Data.seq vs.toArray _=Data.dict es ep:=d;cases d'
  let nsK:∀{b:ae}{m:bc->Option J},s₁.heap.Ns b m->(BI s₁.heap H).Ns b m:=λ{b m} ⟨o,es,ep,e,d,r⟩=>#[o,es,ep,Jc e^noA e d,d,r];let hKb:K.In^BI s₁.heap H:=λb o e=>Jc (KX b o e) (by
   cases q:H b with
   | none=>rfl
   | some u =>
    let e':b=a:=hA b (by rw[q];simp);subst e';rw[hK (by rw[q];simp)] at e;cases e)
  let hM:Mod K mg^BI s₁.heap H:=#[hKb,nsK Qr,#[mb,nsK hb,hbb],let⟨mc,h1,h2⟩:=hlim;#[mc,nsK h1,h2]];let e0:Gz P w K mg (BI s₁.heap H) callerA [] s₁ H:=#[Z,hM,λb o e=>S5 e,Nat.le_of_eq^KQ _ _,trivial,λb hb=>absurd (show b∈([]:List ae) from hb)^by simp,hok,.of_eq hg];show codeAny_mono ((F _ hKb^nsK Qr).run callerA [] s₁ H #[[¬a],[]] [¬a] [¬a] _ _ hr e0 (hbind s₁^¬a) (.cons Z .nil)^SH H hO hS) λr s' h=>?_;cases r with
  | error e=>show(hCX H e s' h).elim
  | ok fl =>
   cases fl with
   | next=>show False.elim h
   | brk=>show False.elim h
   | cont=>show False.elim h
   | ret u =>
    let#[v,H',os,bare,un,Z0,r',q]:=h;let q':v=.bl true:=q;subst q';obtain rfl:u=Value.bool true:=r';show#[Z,OldK.of_keep λb o e=>?_,os,bare];cases q:H b with
    | none=>show un.keep b o e q (by intro z;show absurd (show b∈([]:List ae) from z)^by simp) (by simp)
    | some u =>
     rcases hO b with z|⟨ob,xs,z⟩;rw[q] at z;cases z;let z2:=un.BH b ob _ z;let#[e1,_]:=hok b _ z;let#[e2,_]:=Z0 b _ z2;rw[e] at e1;cases e1;show e2
 cases hk:K.lookup a with
 | some o =>
  let e:=KX a o hk;rw[ha] at e;cases e;show core (λj=>none) (λj=>.inl Z) (.inr #[_,vs.toArray,_,hk,Z,Z,Z,by rw[bB,ajr];show hl,by simpa using rv]) (λb u z=>by let z':(none:Option HO)=!u:=z;cases z') (λb z=>absurd rfl z) λz=>absurd rfl z
 | none =>
  show core (λb=>if b=a then !(.IK { cls:=.type "list", data:=.seq vs.toArray } (.lst^ns.map V.int)) else none) (λb=>?_) (.inl^.inr #[{ cls:=.type "list", data:=.seq vs.toArray },if_pos Z]) (λb u z=>?_) (λb z=>?_) λj=>hk;by_cases hb:b=a;show .inr #[_,_,if_pos hb];show .inl^if_neg hb;by_cases hb:b=a;let z':=(if_pos hb).symm.trans z;cases z';subst hb;show#[ha,by rw[aq];show hl,vs,_,rv,ha];let z':=(if_neg hb).symm.trans z;cases z';by_cases hb:b=a;show hb;show absurd (if_neg hb) z
noncomputable abbrev KOf(_:K.In h):aC:=K
def Tt{l:PySem.W.OpenLaw}{q:de}{NA:List bc}{XP:(bc->Option J)->cv->eL}{YP:cw->cv->eL}{d:DefRec}{K:Params->aC}{CX:cw->Ng}{sp:cw->Sp}
  (hn:l.most=!n)(hn2:n<=sizeLine)(hdf:d.params.defaults=[])(hr:iW k callerA)
  (hY:∀(w:cw)(h:cv),YP w h->(K w.params).In h)
  (F:∀(w:cw)(mg:bc->Option J)(fa:ae)(h:cv),(K w.params).In h->h.Ns mainGlobals mg->mg d.name=!(¬fa) ->
   ∃fd:FuncData,(∀(s:ap)(u:J),BindsTo s fd #[[u],[]] [(x,u)]) /\
    ∀base:cv,(K w.params).In base->base.Ns mainGlobals mg->bS l.prog w (K w.params) mg base (CX w) k fa fd [x]^sp w)
  (SH:∀(w:cw)(H:Hp)(a:ae)(ns:List M),ns.length<=n->ZZ H->bI (K w.params) H a^ns.map V.int->sp w [¬a] H (λv z=>v=.bl ag) λz z z=>False)
  (hCX:∀(w:cw)(H:Hp)(s:ap)(e:J)(s':ap),CX w [] H s (λz z z=>False) e s'->False):
  PySem.W.WalkO q NA XP YP l.row.toRowW d [] (λf vs=>PySem.call f vs):=by show Att.DA hn hdf λw s₀ s₁ mg mb fa o pm cd SB a vs ns G ZB ho hd Kt hmg hobj hints XB hg=>?_;let KX:=hY w _ ZB;let#[fd,hb,hF]:=F w mg fa _ KX G.T.g hmg;show Oa KX G.T.g G.T.b G.T.builtins G.T.nolimit hg hobj hints (bP XB hn2) hr hF hb (λH hO hS=>SH w H a ns XB hO hS) λH e s'=>hCX w H s₁ e s'
def inClass(s:Stmt)(j:O):Stmt:=match s with
 | .ClassDef _ _ _ body _ _ _ _ _ _ _=>body.getD j^.Pass #[0,0,0,0]
 | _=>.Pass #[0,0,0,0]
noncomputable def gz(s:Stmt):Arguments:=match s with
 | .FunctionDef _ a _ _ _ _ _ _ _ _=>a
 | _=>{ posonlyargs:=[],args:=[],vararg:=none,kwonlyargs:=[],kw_defaults:=[],kwarg:=none,defaults:=[] }
noncomputable def fK(s:Stmt):List Stmt:=match s with
 | .FunctionDef _ _ b _ _ _ _ _ _ _=>b
 | _=>[]
noncomputable def av(s:Stmt):Scope:=match s with
 | .FunctionDef _ _ _ _ _ _ sc _ _ _=>sc
 | _=>{ kind:=.function,names:=[],isGenerator:=false,isCoroutine:=false }
abbrev fW:Ng:=λz z z z z z=>False
abbrev E0:XK:=λz z z=>False
def jr:Passes fW X E0:=λz z z z z z z h=>h.elim
structure Z1 (K:aC) (x qual:Str) (st:Stmt) (f:Addr) (fd:FuncData):Prop where
 ex:∃(oc:Value)(od:Option Addr)(kV SB pm:Value)(an:Option Addr)(cdv ct:Value)(Hc:Array^Option Value),
  fd=PySem.W.fnOf x qual (gz st) (fK st) (av st) .none kV SB pm an cdv ct/\K.lookup f=some #[oc,od,.func fd,Hc]/\PySem.W.codeIn K cdv qual=true
 kp:PySem.W.keepIn K^.ref f=true
def Z1.ok{N:List bc}(F:Z1 K x qual st f fd)(S:aI N ps^av st)(len:∀vs H Q E,sp vs H Q E->dA=ci)
  (Kj:∀(cdv:J)(A:Around)(outer:List Env)(s:ap)(H:Hp)(vs:List V)(Q:VK)(E:XK),iW k^A.deeper^envOfC qual (av st) B f cdv->sp vs H Q E ->
   ∃t,z8 (Ds fW P w K mg base N qual (av st) f cdv A outer s H E).Zv (fK st) t/\t { nx:=λz H'=>Q .cB H',rt:=Q } (start N vs) H):bS P w K mg base fW (k+1) f fd ps sp:=by let#[oc,od,kV,SB,pm,an,cdv,ct,Hc,Z,lk,Kt]:=F.ex;show WX lk Kt S len λA outer s H vs Q E hr SH=>?_;let#[t,h,q]:=Kj cdv A outer s H vs Q E hr SH;show#[t,h.Zv,q]
def Z1.binds(F:Z1 K x qual st f fd)
  (h:∀(kV SB pm:J)(an:Option ae)(cdv ct:J)(us:List J),dv=ci->bindArgs (PySem.W.fnOf x qual (gz st) (fK st) (av st) .none kV SB pm an cdv ct) #[us,[]]=pure^ps.zip us):Binds K fd ps []:=by let#[oc,od,kV,SB,pm,an,cdv,ct,Hc,Z,lk,Kt]:=F.ex;show .all^h kV SB pm an cdv ct
def BW{Hc:Array^Option J}{kV SB cdv:J}(l:K.lookup f=some #[oc,od,.func^PySem.W.fnOf x qual (gz st) (fK st) (av st) .none kV SB pm an cdv ct,Hc])
  (c:PySem.W.codeIn K cdv qual=ag)(k:PySem.W.keepIn K^.ref f=ag):Z1 K x qual st f^PySem.W.fnOf x qual (gz st) (fK st) (av st) .none kV SB pm an cdv ct:=#[#[oc,od,kV,SB,pm,an,cdv,ct,Hc,Z,l,c],k]
def eB(hr:iW k A):A.units+1<cLine:=qB (Nat.add_le_add_left (by decide:1<=64) _) hr.units
def pv(i:O)(hN:⇑(X.N[i]?=!x))(hv:Vis X.env.scope x:=by first|exact Or.inl rfl|exact Or.inr (Or.inl rfl)|exact Or.inr (Or.inr rfl))(hd:↥((x==("__debug__" : bc))=false))
  (Kt:↥((x==("__classdict__" : bc))=false)):PE X (.Name x pos)^eZ i:=Zt hN hv hd Kt
def ajs{A Y1:eL}(h:Y1):if false=ag then A else Y1:=by rw[if_neg lI];show h
def Tu{A Y1:eL}(h:A):if true=ag then A else Y1:=by rw[if_pos Z];show h
def az(H H':Hp):=∀b o,H b=!o->H' b=!o
def az.refl(H:Hp):az H H:=λz z h=>h
def az.trans{H1 H2:Hp}(a:az H H1)(b:az H1 H2):az H H2:=λc o h=>b c o^a c o h
def az.free(e:az H H')(h:H' l=Option.none):H l=Option.none:=by
 cases q:H l with
 | none=>rfl
 | some o =>
  rw[e l o q] at h;cases h
def az.seq(e:az H H')(h:bI K H a xs):bI K H' a xs:=by rcases h with(h|⟨o,h⟩)|h;show .inl^.inl^e _ _ h;show .inl^.inr #[o,e _ _ h];show .inr h
def Le:ef X (.builtin "len") (λxs H Q=>∃a kvs,xs=[V.ref a]/\H a=!.dK kvs/\Q (.int bo) H):=by intro X1 s Y H xs us Q I r h;let#[a,kvs,Z,ha,q]:=h;let#[u,Z,ru]:=vals1 r;cases ru;show aeb I (.inl ha) λt s' I'=>#[.int bo,H,I',#[t,Z],q]
section
variable {κ:Type} [DecidableEq κ]
end
end L2
namespace BT
open PySem
def dX:bootBuiltins "len" = !.builtin "len":=()
def iH:bootBuiltins "isinstance" = !.builtin "isinstance":=()
def aec:bootBuiltins "str" = !.type "str":=()
def W5:bootBuiltins "int" = !.type "int":=()
def Z2:bootBuiltins "bool" = !.type "bool":=()
def qH:bootBuiltins "list" = !.type "list":=()
def kR:bootBuiltins "tuple" = !.type "tuple":=()
def yv:bootBuiltins "dict" = !.type "dict":=()
def Jd:bootBuiltins "set" = !.type "set":=()
def yw:bootBuiltins "reversed" = !.type "reversed":=()
end BT
namespace L2
variable {px:Pos}{ST iter:dr}{ifs:List dr}{fr:List bc}
def Lf(t u:TS):TS:=λD Y H=>∃Ya:St->Hp->eL,t { D with nx:=Ya } Y H/\∀Y' H',Ya Y' H'->u D Y' H'
def gW{rest:List Stmt}{t u:TS}(h1:PS X st t)(h2:z8 X rest u):z8 X (st::rest)^Lf t u:=by
 intro X1 s Y H D I h;let#[Ya,h,k]:=h;show wpAny_execs_cons (dw (h1 X1 s Y H _ I h) λf s1 q=>?_);cases f with
 | next =>
  let#[Y1,H1,I1,j]:=q;show h2 X1 s1 Y1 H1 D I1^k Y1 H1 j
 | brk=>show q
 | cont=>show q
 | ret u=>show q
def aed(c:TT)(t u:TS):TS:=λD Y H=>∃Jt Jf:Hp->eL,(c Y H λb H1=>if b=ag then Jt H1 else Jf H1)/\(∀H1,Jt H1->t D Y H1)/\∀H1,Jf H1->u D Y H1
def BX{a b:List Stmt}{tc:TT}{t u:TS}(hc:PT X c tc)(ha:z8 X a t)(hb:z8 X b u):PS X (.If c a b pos)^aed tc t u:=by
 intro X1 s Y H D I h;let#[Jt,Jf,h,h1,h2]:=h;show wpAny_If (dw (hc X1 s Y H _ I h) λv s1 zq=>?_);let#[H1,I1,q1]:=zq;cases v with
 | true=>show ha X1 s1 Y H1 D I1^h1 H1 q1
 | false=>show hb X1 s1 Y H1 D I1^h2 H1 q1
theorem BY{target:dr}{it Xt:J}{env:Env}(I:O->ap->eL)
  (turn:∀n s,I n s->wpAny (model prog w) A (pyNext it) (λr s₁=>match r with
   | none=>R (.ok .next) s₁
   | some v=>wpAny (model prog w) A (letOwnedTupleGo target it v) (λz s₀=>wpAny (model prog w) A (assign target env v) (λz s₂ =>
     wpAny (model prog w) A (forIn ifs ag λc r=>if r=ag then do let ok <- isTrue c env (eval c env);pure^ForInStep.yield ok else pure^ForInStep.yield r) (λok s₃ =>
      if ok=ag then wpAny (model prog w) A (eval ST env) (λx s₄ =>
       wpAny (model prog w) A (call (.builtin "list.append") [Xt,x]) (λz s₅=>∃m,m<n/\I m s₅) (notedBy (model prog w) A env λe s'=>R (.error e) s') s₄) (notedBy (model prog w) A env λe s'=>R (.error e) s') s₃
      else ∃m,m<n/\I m s₃) (notedBy (model prog w) A env λe s'=>R (.error e) s') s₂) (notedBy (model prog w) A env λe s'=>R (.error e) s') s₀) (notedBy (model prog w) A env λe s'=>R (.error e) s') s₁) (notedBy (model prog w) A env λe s'=>R (.error e) s') s)
  (n:O)(h:I n s):
  codeAny (model prog w) A (.compLoop (.ListComp ST [#[target,iter,ifs,0]] scope pos) 0 it Xt env) R s:=by
 show codeAny_loop Z I (λn s hI=>?_) n h;change wpAny _ A ((compTurn (.ListComp ST [#[target,iter,ifs,0]] scope pos) 0 it Xt env).onRaise (λx=>do noteFrame x env;theTreesLotGoes x)) _ _ s;show wpAny_noted ?_;rw[compTurn_list];show au^wpAny_standAt^au (wpAny_mono (turn n s hI) (λr s₁ h₁=>?_) λz z h'=>h');cases r with
 | none=>show aW h₁
 | some v =>
  show au (wpAny_mono h₁ (λz s₀ h₀=>?_) λz z h'=>h');show au (wpAny_mono h₀ (λz s₂ h₂=>au (wpAny_mono h₂ (λok s₃ h₃=>?_) λz z h'=>h')) λz z h'=>h');cases ok with
  | false=>show aW #[Z,h₃]
  | true =>
   show au^au (wpAny_mono h₃ (λx s₄ h₄=>au (wpAny_mono h₄ (λz s₅ h₅=>aW^aW #[Z,h₅]) λz z h'=>h')) λz z h'=>h')
noncomputable def ux(X:Cx)(N:List bc)(scope:Scope)(cl:List (bc×ae))(C:ae)(fp:List ae)(s:ap)(H:Hp):Cx where
 prog:=bi
 w:=cq
 K:=dq
 mg:=X.mg
 base:=X.base
 A:=X.A
 N:=N
 s₀:=s
 H₀:=H
 env:=compEnvC scope cl C ax
 outer:=X.stack
 stack:=X.stack
 ex:=fp
 fn:=λz=>false
 calm:=X.calm
 pn:=[]
 xe:=λz z=>False
structure bQ (X:Cx) (scope:Scope) (cl:List (Str×Addr)) (x:Str) (fr:List Str) (ix:List Nat):Prop where
 calm:X.calm=true
 clos:closureFor scope X.env=pure cl
 cell:∀y∈scope.names,y.2≠.cell
 kind:scope.kind=.function
 names:∀y∈scope.names,y.2=.local->scope.names.lookup y.1=!.local
 loc:scope.names.lookup x=!.local
 nd:(x::fr).Nodup
 cl1:∀y c,cl.lookup y=!c->X.env.cells.lookup y=!c
 cl2:∀y,((relabel scope X.env).names.lookup y=!.cell\/(relabel scope X.env).names.lookup y=!.free)->∃c,cl.lookup y=!c
 fx:∀(j:Nat) y,fr[j]?=!y->∃i:Nat,ix[j]?=!i/\X.N[i]?=!y/\(X.env.kindOf y=!.cell\/X.env.kindOf y=!.free)/\((relabel scope X.env).names.lookup y=!.cell\/(relabel scope X.env).names.lookup y=!.free)
 len:fr.length=ix.length
def PF(X:Cx)(ifs:List dr)(t:TT):eL :=
 ∀(X1:List (ae×du))(s:ap)(Y:St)(H:Hp)(Q:cf->Hp->eL),Inv X X1 Y H s->t Y H Q ->
  wpAny (model bi cq) X.A (forIn ifs ag λc r=>if r=ag then do let ok <- isTrue c ax (eval c ax);pure^ForInStep.yield ok else pure^ForInStep.yield r) (TP X X1 Y Q) X.xe s
def Z3:TT:=λz H Q=>Q ag H
def fL:PF X [] Z3:=λz z z H z I h=>wpAny_tests_nil #[H,I,h]
def qI{t:TT}(h:PT X c t):PF X [c] t:=λX1 s Y H Q I q=>wpAny_tests_one^h X1 s Y H Q I q
noncomputable def cut(ix:List O)(Y:St):St:=ix.map λi=>(Y[i]?).join
section
variable {Y:St}
def Inv.AF{D:ae}{o:HO}(I:Inv X X1 Y H s)(f:lD X X1 H D)(new:dQ bi cq (upd H D o) am D o):Inv X X1 Y (upd H D o) s:=by
 let hn:H D=none:=f.1;let ne:∀b u,H b=!u->b≠D:=λb u e=>aH e hn;let hok:qC bi cq (upd H D o) s.heap:=λb u e=>by
  by_cases hb:b=D;subst hb;rw[j9] at e;cases e;show new
  .rw[cg hb] at e;show(I.hok b u e).stay (λj j j q=>q) (λc q=>by rw[cg^ne _ _ q];show q) λc xs q=>by rw[cg^ne _ _ q];show q
 show I.step (H':=upd H D o) (h':=am) (g':=s.gens) (t':=s.toks) (d':=s.drawn) (ch:=[D]) (λb hb=>by
   let e:b=D:=by simpa using hb
   subst e;show#[f.2.2.2.1,f.2.1,f.2.2.2.2.1,f.2.2.2.2.2])
  (λb o j j j e j=>e) (λb o j j j e j=>#[o.slots,e]) (λb o hb e n=>by rw[cg (λz=>hb^by simp[z])];show n)
  (λb o j e=>#[o,e]) (λb xs e=>by rw[cg^ne _ _ e];show e) (λb o u e=>by rw[cg^ne _ _ e];show e) (λb ps e=>#[#[],by rw[cg^ne _ _ e,e];simp])
  (λm hm=>hm) hok I.bare
structure f6 (X:Cx) (scope:Scope) (cl:List (Str×Addr)) (xs fr:List Str) (ix:List Nat):Prop where
 calm:X.calm=true
 clos:closureFor scope X.env=pure cl
 cell:∀y∈scope.names,y.2≠.cell
 kind:scope.kind=.function
 names:∀y∈scope.names,y.2=.local->scope.names.lookup y.1=!.local
 nd:(xs++fr).Nodup
 cl1:∀y c,cl.lookup y=!c->X.env.cells.lookup y=!c
 cl2:∀y,((relabel scope X.env).names.lookup y=!.cell\/(relabel scope X.env).names.lookup y=!.free)->∃c,cl.lookup y=!c
 fx:∀(j:Nat) y,fr[j]?=!y->∃i:Nat,ix[j]?=!i/\X.N[i]?=!y/\(X.env.kindOf y=!.cell\/X.env.kindOf y=!.free)/\((relabel scope X.env).names.lookup y=!.cell\/(relabel scope X.env).names.lookup y=!.free)
 len:fr.length=ix.length
def f6.of{xs:List bc}(X2:bQ X scope cl x fr ix)(nd:(xs++fr).Nodup):f6 X scope cl xs fr ix:=#[X2.calm,X2.clos,X2.cell,X2.kind,X2.names,nd,X2.cl1,X2.cl2,X2.fx,X2.len]
theorem oE{xs:List bc}{RR:J->ae->Result->ap->eL}
  (X2:f6 X scope cl xs fr ix)(hg:∀C fp s H,PG (ux X (xs++fr) scope cl C fp s H) tg g)(ht:∀C fp s H,PF (ux X (xs++fr) scope cl C fp s H) ifs tt)(he:∀C fp s H,PE (ux X (xs++fr) scope cl C fp s H) ST te)
  {tn:O->cv->eL}{Ya:It}{H2:Hp}{s2:ap}(I2:Inv X X1 Y H2 s2)(T:Turn bi cq dq tg Ya fp it tn)(Kk:tn 0 s2.heap)(f2:∀b∈fp,lD X X1 H2 b)
  (Y2:List V->Hp->eL)(W:O->O->List V->St->Hp->eL)(m0:O)(w0:W 0 m0 [] (List.replicate ab aw++cut ix Y) H2)
  (turn:∀i m ys τ H,W i m ys τ H->(Ya.stop i H/\Y2 ys H)\/(Ya.go i H/\ce<sizeLine/\∃N:List V->St->Hp->eL,(∀Sc τ' H',N Sc τ' H'->∃m',m'<m/\W (i+1) m' Sc τ' H') /\
   ∀v H',Ya.Nf i H v H'->g v τ H' λτ2 H2=>tt τ2 H2 λb H3=>if b=ag then te τ2 H3 λy H4=>N (ys++[y]) τ2 H4 else N ys τ2 H3))
  (hRR:∀D C s' ys H',Inv X X1 Y (upd H' D^.lst ys) s'->(∃m,s'.heap.Ns C m)->lD X X1 (upd H' D^.lst ys) C->H' D=aw->Y2 ys H'->RR (¬D) C (.ok .next) s'):
  wpAny (model bi cq) X.A (newList []) (λXt s₃=>wpAny (model bi cq) X.A (newFunctionEnv scope X.env.globals cl [] X.env.qual aw .none^!X.env) (λcenv s₄ =>
   codeAny (model bi cq) X.A (.compStart (.ListComp ST [#[tg,iter,ifs,0]] scope pos) 0 (¬it) Xt { cenv with scope:=relabel scope ax }) (RR Xt cenv.locals) s₄) E s₃) E s2:=by
 show wpAny_newObj_type^wpAny_newFunctionEnv X2.cell (by intro y hy;simp at hy) (λh₁ Z4 Tv=>?_) X2.kind;dsimp only at Z4 Tv ⊢;generalize hG:s2.heap.push { cls:=.type "list", dict:=none,data:=.seq ([]:List J).toArray }=G at Z4 Tv ⊢;let hC:dL=dt+1:=by rw[<- hG,fJ]
 let hDC:dt≠G.objs.size:=by rw[hC];show aU^fZ _
 let Z5:dt<=G.objs.size:=by rw[hC];show gf _
 let below:∀b,b<dt->b≠dL/\b≠s2.heap.objs.size:=λb hb=>#[by rw[hC];show aU^je hb,aU hb];let Tl:∀b o,s2.heap.get? b=!o->h₁.get? b=!o:=λb o e=>Tv.extBut b o (below b^aO e).1^eS _ (hG▸eS _ e);let TC:h₁.get? dt=!{ cls:=.type "list", data:=.seq ([]:List J).toArray }:=Tv.extBut _ _ hDC^eS _ (hG▸jB _ rfl);let hD2:H2 dt=none:=I2.hok.fresh^ay _;let hC2:H2 dL=none:=I2.hok.fresh Z5;let fD:lD X X1 H2 s2.heap.objs.size:=I2.rM (ay _) hD2;let fC:lD X X1 H2 G.objs.size:=I2.rM Z5 hC2;let Z6:∀b∈fp,b<s2.heap.objs.size:=λb hb=>by let#[o,e,_]:=T.obj _ _ Kk b hb;show aO e
 let W6:∀b∈frs X.stack,b∈X.env.locals::X.fs:=I2.Gf;let oF:=X2.cl1;let ok:(ux X (xs++fr) scope cl dL fp s2 H2).Ok:=by show#[I2.ok.mod,X2.kind,I2.ok.glob,I2.ok.blt,Z5,λy z c h1 h2=>I2.ok.inj y z c (oF y c h1)^oF z c h2,λy hy=>X2.cl2 y hy,λy c h x=>absurd h lI,λh=>I2.ok.hd h,I2.ok.frames,.inl Z,λb hb=>?_,I2.bs,bP I2.ok.WL I2.sz,λb o e hb=>?_,λb hb hs=>?_,I2.stack,I2.IL];show#[(below b^Z6 b hb).1,λy c e=>(f2 b hb).2.2.2.2.1 y c^oF y c e];rcases(f2 b hb).2.2.2.1 with z|z;show I2.ok.Nu b o e z;show absurd (cT (aO (I2.ok.bs b o e).1) z)^gK _;rcases aP.mp^W6 b hs with z|z;show(f2 b hb).2.1 z;show(f2 b hb).2.2.1 z
 let nfs:∀b,dt<=b->b∉frs X.stack:=λb hb hs=>by rcases aP.mp^W6 b hs with z|z;show absurd (cT I2.lt (z▸hb))^gK _;show I2.adI hb z
 let Ic:Inv (ux X (xs++fr) scope cl dL fp s2 H2) [(dt,{ cls:=.type "list", data:=.seq ([]:List J).toArray })] (List.replicate ab aw++cut ix Y) H2 { s2 with heap:=h₁,toks:=s2.toks+([]:List (bc×J)).length }:=by
  show#[ok,Z,I2.bare,Un.kept Tl,#[_,Z4,λi y v h1 h2 h3=>?_],λy c e=>?_,hC2,λy c e=>I2.om y c^oF y c e,λp hp=>?_,I2.hok.kept Tl,?_]
  .have hk:ab<=i:=by rcases dg i xs.length with q|q;rw[BD^by simpa using q,List.getElem?_replicate,if_pos q] at h2;cases h2;show q
   .obtain⟨j,rfl⟩:∃j,i=xs.length+j:=#[i-xs.length,∅];let h1:fr[j]?=!y:=by let h1:(xs++fr)[ab+j]?=!y:=h1;rwa [xZ ∅,Nat.add_sub_cancel_left] at h1
    let h2:(cut ix Y)[j]?=!!v:=by rwa [xZ^by simp,List.length_replicate,Nat.add_sub_cancel_left] at h2
    let#[i,e1,e2,k,kc]:=X2.fx j y h1;let#[c,e3]:=X2.cl2 y kc;let e4:Y[i]?=!!v:=by
     unfold cut at h2;rw[bJ,e1] at h2;let h2:some ((Y[i]?).join)=!!v:=h2;let h2:=Option.some.inj h2;cases q:Y[i]? with
     | none=>rw[q] at h2;cases h2
     | some z=>rw[q] at h2;show congrArg some h2
    let#[m,_,hl]:=I2.loc;let#[u,r,l]:=hl i y v e2 e4 (k.elim (λz=>.inr^.inl z) λz=>.inr^.inr z);show#[u,r,.inr #[kc,c,e3,?_]];rcases l with⟨l1,_⟩|⟨_,c',l2,l3⟩;rcases k with k|k<;>(rw[k] at l1;cases l1);let e5:=oF y c e3;rw[l2] at e5;cases e5;let#[o,ho,hd]:=l3;show#[o,Tl _ _ ho,hd]
  .let#[v,o,ho,hd]:=I2.cell y c^oF y c e;show#[v,o,Tl _ _ ho,hd]
  .have e:p=(dt,{ cls:=.type "list", data:=.seq ([]:List J).toArray }):=by simpa[ux] using hp
   subst e;show#[TC,hD2,hDC,nfs _^ay _,λv z=>by cases z]
  .change(List.replicate ab aw++cut ix Y).length=(xs++fr).length;unfold cut;simp[X2.len]
 let Z7:∀b∈fp,b≠s2.heap.objs.size:=λb hb=>(below b^Z6 b hb).2;let Gq:∀{pl:List (ae×du)}{H':Hp},(∀p∈pl,p.1=dt)->(∀b∈fp,H' b=aw)->∀b∈fp,lD (ux X (xs++fr) scope cl dL fp s2 H2) pl H' b:=λ{pl H'} hp hn b hb =>
  #[hn b hb,(below b^Z6 b hb).1,λhs=>ok.Nv b hb hs,.inl hb,λy c e=>(f2 b hb).2.2.2.2.1 y c^oF y c e,λp hp' z=>Z7 b hb^z.symm.trans^hp p hp']
 let one:∀{o:du},∀p∈[(dt,o)],p.1=s2.heap.objs.size:=λp hp=>by let e:=aJ.mp hp;rw[e]
 let loop:codeAny (model bi cq) X.A (.compLoop (.ListComp ST [#[tg,iter,ifs,0]] scope pos) 0 (¬it) (¬dt)^compEnvC scope cl dL ax) (RR (¬dt) dL)
   { s2 with heap:=h₁,toks:=s2.toks+([]:List (bc×J)).length }:=by
  show BY (λn s'=>∃(i:O)(ys:List V)(XL:List J)(c:O)(τ:St)(H':Hp),Inv (ux X (xs++fr) scope cl dL fp s2 H2) [(dt,{ cls:=.type "list", data:=.seq XL.toArray c })] τ H' s'/\tn i d6/\(∀b∈fp,H' b=aw)/\Vals ys XL/\ce<=sizeLine/\W i n ys τ H') ?_ m0
   #[0,[],[],0,_,H2,Ic,T.keep _ _ _ Kk (λb x o e=>Tl b o e),λb hb=>(f2 b hb).1,.nil,aV _,w0]
  rintro n s3 ⟨i,ys,XL,c,τ,H3,I3,st3,fr3,rv,N0,w3⟩;rcases turn i n ys τ H3 w3 with⟨stop,zz⟩|⟨go,hlt,N,hN,step⟩;show wpAny_mono (T.done (ux X (xs++fr) scope cl dL fp s2 H2) Z rfl rfl X2.calm i _ s3 _ H3 _ I3 (Gq one fr3) st3 stop) (λr s4 h4=>?_) λx x e=>e;let#[hr,I4]:=h4;subst hr;let pD:=I4.pin _^fS _^aJ.mpr Z;let IX:Inv X X1 Y H3 s4:=I2.adL I4.os I4.base I4.hok I4.bare λb hb=>#[(f2 b hb).2.2.2.1,(f2 b hb).2.1,(f2 b hb).2.2.2.2.1,(f2 b hb).2.2.2.2.2];let#[mC,hmC,_]:=I4.loc;show hRR _ _ s4 ys H3 (IX.AF #[pD.2.1,fD.2] #[N0,XL,c,rv,pD.1]) #[mC,hmC] #[by rw[cg^aR hDC];show I4.free,fC.2] pD.2.1 zz
  .show wpAny_mono (T.item (ux X (xs++fr) scope cl dL fp s2 H2) Z rfl rfl X2.calm i _ s3 _ H3 _ I3 (Gq one fr3) st3 go) (λr s4 h4=>?_) λx x e=>e;let#[u,hr,h4]:=h4;subst hr;show wpAny_mono h4 (λx s5 h5=>?_) λx x e=>e;let#[v,H5,I5,r5,y5,Tc,fr5]:=h5;let I5':=I5.pinned (Gq one fr5)^T.obj _ _ Tc;show wpAny_mono (hg _ _ _ _ _ s5 τ H5 v u _ I5' r5^step v H5 y5) (λx s6 h6=>?_) λx x f=>False.elim f;let#[τ2,H6,I6,q6]:=h6;show wpAny_mono (ht _ _ _ _ _ s6 _ H6 _ I6 q6) (λok s7 h7=>?_) λx x f=>False.elim f;let#[H7,I7,q7]:=h7;cases ok with
   | true =>
    rw[if_pos Z] at q7 ⊢;show wpAny_mono (he _ _ _ _ _ s7 _ H7 _ I7 q7) (λuy s8 h8=>?_) λx x f=>False.elim f;let#[y,H8,I8,r8,n8]:=h8;let pD:=I8.pin _^fS _^j8 _^aJ.mpr Z;let rl:=rv.length;show append_at (hsz:=by rw[bB];lia) pD.1 λh9 hs9 hD9=>?_;let#[m',hm,w9]:=hN _ _ _ n8;let Ia:Inv (ux X (xs++fr) scope cl dL fp s2 H2) (uM fp s5.heap) τ2 H8 s8:=I8.xr λp hp=>I8.pin p^fS _^fS _ hp;let Ib:=Ia.turned (h':=h9) (t':=s8.toks) (it:=dt) (λb o hb e=>hs9.extBut b o hb e) pD.2.1 hDC (.inr^ay _) (λy c e=>fD.2.2.2.2.1 y c^oF y c e)
     λp hp=>by let#[hb,_]:=Aw (fp:=fp) (h:=s5.heap) (show p∈uM fp s5.heap from hp);show Z7 p.1 hb
    show#[m',hm,i+1,ys++[y],XL++[uy],c+1,τ2,H8,Ib.xr λp hp=>?_,T.keep _ _ _ Tc λb hb o e=>?_,λb hb=>?_,rv.append^.cons r8 .nil,by rw[aT,iB];lia,w9]
    .have e:=aJ.mp hp;subst e;show#[?_,pD.2.1,hDC,pD.2.2.2.1,λv z=>by cases z];let q:XL.toArray.push uy=(XL++[uy]).toArray:=by simp
     rw[<- q];show hD9
    .show hs9.extBut b o (Z7 b hb) (I8.pin (b,o)^fS _^fS _^iV hb e).1
    .let#[o,e,d]:=T.obj _ _ Tc b hb;show(I8.pin (b,o)^fS _^fS _^iV hb e).2.1
   | false =>
    rw[if_neg lI] at q7 ⊢;let#[m',hm,w9]:=hN _ _ _ q7;show#[m',hm,i+1,ys,XL,c,τ2,H7,I7.rN,T.keep _ _ _ Tc λb hb o e=>?_,λb hb=>?_,rv,N0,w9];show(I7.pin (b,o)^fS _^fS _^iV hb e).1;let#[o,e,d]:=T.obj _ _ Tc b hb;show(I7.pin (b,o)^fS _^fS _^iV hb e).2.1
 show codeAny_compStart_list loop^T.self _ 0 _ _ _ (T.keep _ _ _ Kk λb x o e=>Tl b o e) loop
def yx{RR:J->ae->Result->ap->eL}
  (X2:bQ X scope cl x fr ix)(ht:∀C fp s H,PF (ux X (x::fr) scope cl C fp s H) ifs tt)(he:∀C fp s H,PE (ux X (x::fr) scope cl C fp s H) ST te)
  {tn:O->cv->eL}{Ya:It}{H2:Hp}{s2:ap}(I2:Inv X X1 Y H2 s2)(T:Turn bi cq dq (.Name x px) Ya fp it tn)(Kk:tn 0 s2.heap)(f2:∀b∈fp,lD X X1 H2 b)
  (Y2:List V->Hp->eL)(W:O->O->List V->Hp->eL)(m0:O)(w0:W 0 m0 [] H2)
  (turn:∀i m ys H,W i m ys H->(Ya.stop i H/\Y2 ys H)\/(Ya.go i H/\ce<sizeLine/\∃N:List V->Hp->eL,(∀Sc H',N Sc H'->∃m',m'<m/\W (i+1) m' Sc H') /\
   ∀v H',Ya.Nf i H v H'->tt (some v::cut ix Y) H' λb H3=>if b=ag then te (some v::cut ix Y) H3 λy H4=>N (ys++[y]) H4 else N ys H3))
  (hRR:∀D C s' ys H',Inv X X1 Y (upd H' D^.lst ys) s'->(∃m,s'.heap.Ns C m)->lD X X1 (upd H' D^.lst ys) C->H' D=aw->Y2 ys H'->RR (¬D) C (.ok .next) s'):
  wpAny (model bi cq) X.A (newList []) (λXt s₃=>wpAny (model bi cq) X.A (newFunctionEnv scope X.env.globals cl [] X.env.qual aw .none^!X.env) (λcenv s₄ =>
   codeAny (model bi cq) X.A (.compStart (.ListComp ST [#[.Name x px,iter,ifs,0]] scope pos) 0 (¬it) Xt { cenv with scope:=relabel scope ax }) (RR Xt cenv.locals) s₄) E s₃) E s2:=by
 show oE (xs:=[x]) (g:=gM 0) (f6.of X2 X2.nd) (λC fp s H=>?_) ht he I2 T Kk f2 Y2 (λi m ys τ H=>(∃y,τ=y::cut ix Y)/\W i m ys H) m0 #[#[none,Z],w0] (λi m ys τ H h=>?_) hRR;show IQ X2.nd Z (.inl^lookup_relabel_local X2.loc)^.inr^lookup_relabel_local X2.loc
 .let#[#[y,Z],h]:=h;rcases turn i m ys H h with h|⟨h1,h2,N,h3,h4⟩;show .inl h
  .show .inr #[h1,h2,λys τ H=>(∃y,τ=y::cut ix Y)/\N ys H,λSc τ' H' ⟨e,n⟩=>let⟨m',a,b⟩:=h3 Sc H' n;#[m',a,e,b],λv H' hy=>?_];let e:(∃z,some v::cut ix Y=z::cut ix Y)=True:=eq_true #[_,Z];change tt (some v::cut ix Y) H' λb H3=>if b=ag then te (some v::cut ix Y) H3 λy1 H4=>(∃z,some v::cut ix Y=z::cut ix Y)/\N (ys++[y1]) H4 else(∃z,some v::cut ix Y=z::cut ix Y)/\N ys H3
   erw[e,true_and];show h4 v H' hy
def Je(wi:TI)(tt:TT)(te:TE)(ix:List O):TE:=λY H Q=>wi Y H λYa H1=>∃W:O->O->List V->Hp->eL,(∃m,W 0 m [] H1)/\∀i m ys H,W i m ys H ->
 (Ya.stop i H/\∀p,H p=aw->Q (¬p)^upd H p^.lst ys)\/(Ya.go i H/\ce<sizeLine/\∃N:List V->Hp->eL,(∀Sc H',N Sc H'->∃m',m'<m/\W (i+1) m' Sc H') /\
  ∀v H',Ya.Nf i H v H'->tt (some v::cut ix Y) H' λb H3=>if b=ag then te (some v::cut ix Y) H3 λy H4=>N (ys++[y]) H4 else N ys H3)
def fM{wi:TI}(X2:bQ X scope cl x fr ix)(hi:PI X (.Name x px) iter wi)
  (ht:∀C fp s H,PF (ux X (x::fr) scope cl C fp s H) ifs tt)(he:∀C fp s H,PE (ux X (x::fr) scope cl C fp s H) ST te)
  (hs:⇑(∀v,foldedSetIterable iter ax v=pure v)):PE X (.ListComp ST [#[.Name x px,iter,ifs,0]] scope pos)^Je wi tt te ix:=by intro X1 s Y H Q I h;rw[eval_ListComp];show wpAny_comprehension_free (use:=none) Z hs X2.clos X2.kind X2.names (dw (hi X1 s Y H _ I h) λv s1 h1=>dw h1 λitv s2 h2=>?_);let#[it,fp,tn,Ya,H2,e,I2,T,Kk,f2,W,#[m0,w0],turn]:=h2;subst e;show yx X2 ht he I2 T Kk f2 (λys H=>∀p,H p=aw->Q (¬p)^upd H p^.lst ys) W m0 w0 turn λD C s' ys H' I' hm fC hD z=>?_;let#[m,hm]:=hm;show#[m,hm,λh' Md=>?_];show#[¬D,_,I'.turned (t':=s'.toks) (it:=C) (λb o hb e=>Md.extBut b o hb e) fC.1 fC.2.1 fC.2.2.2.1 fC.2.2.2.2.1 fC.2.2.2.2.2,Z,z D hD]
def DB(te:TE)(i:O):TS:=λD Y H=>te Y H λv H1=>D.nx (Y.set i^!v) H1
def Tw{y:bc}{py Pi:Pos}{wi:TI}(hN:X.N.Nodup)(Z8:X.N[i]?=!y)(hy:Loc X.env.scope y)
  (X2:bQ X scope cl x fr ix)(hi:PI X (.Name x px) iter wi)
  (ht:∀C fp s H,PF (ux X (x::fr) scope cl C fp s H) ifs tt)(he:∀C fp s H,PE (ux X (x::fr) scope cl C fp s H) ST te)
  (hsw:⇑(swapsWith (.ListComp ST [#[.Name x px,iter,ifs,0]] scope pos) (!.Name y py) Pi.line ax=pure true))
  (hs:⇑(∀v,foldedSetIterable iter ax v=pure v))(hf:‹X.fn y=ag\/X.env.scope.names.lookup y=!.local›):
  PS X (.Assign [.Name y py] (.ListComp ST [#[.Name x px,iter,ifs,0]] scope pos) Pi)^DB (Je wi tt te ix) i:=by
 intro X1 s Y H D I h;rw[exec_Assign_Name_used _ _ _ _ hsw];show au^wpAny_standAt^au ?_;change wpAny _ X.A (do let _ <- comprehension (.ListComp ST [#[.Name x px,iter,ifs,0]] scope pos) scope ax _ (newList []) bj (eval iter ax) (!assign (.Name y py) ax)) _ _ s;show au (wpAny_mono (wpAny_comprehension_free (use:=!assign (.Name y py) ax) (Q:=λq s'=>SP X X1 D .next s') Z hs X2.clos X2.kind X2.names
  (dw (hi X1 s Y H _ I h) λv s1 h1=>dw h1 λitv s2 h2=>?_)) (λq s' hq=>aW^aW hq) λq q e=>e)
 let#[it,fp,tn,Ya,H2,e,I2,T,Kk,f2,W,#[m0,w0],turn]:=h2;subst e;show yx X2 ht he I2 T Kk f2 (λys H=>∀p,H p=aw->D.nx (Y.set i^!.ref p)^upd H p^.lst ys) W m0 w0 turn λL C s' ys H' I' hm fC hD z=>?_;let#[m,hm]:=hm;change wpAny _ X.A (assign (.Name y py) ax^¬L) _ _ _;show wpAny_assign_Name^uJ I' hN Z8 hy (v:=¬L) Z (λs'' I'' Z9=>?_) hf;let#[a,Z9,ha]:=Z9;let hCa:C≠a:=by rcases ha with z|z;rw[z];show fC.2.1;show aR^fC.2.2.2.2.1 _ _ z
 show#[m,hm.sameBut Z9 hCa,λh' Md=>?_];show#[_,_,I''.turned (t':=s''.toks) (it:=C) (λb o hb e=>Md.extBut b o hb e) fC.1 fC.2.1 fC.2.2.2.1 fC.2.2.2.2.1 fC.2.2.2.2.2,z L hD]
def bQ.plain(calm:X.calm=ag)(cell:∀y∈scope.names,y.2≠.cell)(free:∀y∈scope.names,y.2≠.free)(kind:scope.kind=.function)
  (names:∀y∈scope.names,y.2=.local->scope.names.lookup y.1=!.local)(loc:scope.names.lookup x=!.local):bQ X scope [] x [] [] where
 calm:=calm
 clos:=closureFor_none free
 cell:=cell
 kind:=kind
 names:=names
 loc:=loc
 nd:=by simp
 cl1:=λy c h=>by cases h
 cl2:=λy h=>by
  exfalso;let mem:∀{k:NameKind},(relabel scope ax).names.lookup y=!k->∃z∈scope.names,(if(z.2==.free&&X.env.scope.kind==.function&&X.env.kindOf z.1==!.cell) then(z.1,NameKind.cell) else(z.1,z.2))=(y,k):=λ{k} e=>by let q:=kO e;let#[z,hz,e]:=aQ.mp q;show#[z,hz,e]
  rcases h with h|h
  .let#[z,hz,e]:=mem h;let n1:=free z hz;let n2:(z.2==NameKind.free)=false:=by cases hk:z.2<;>first|rfl|show absurd hk n1
   rw[n2,xT,xT,if_neg lI] at e;show cell z hz^congrArg Prod.snd e
  .let#[z,hz,e]:=mem h;let n1:=free z hz;let n2:(z.2==NameKind.free)=false:=by cases hk:z.2<;>first|rfl|show absurd hk n1
   rw[n2,xT,xT,if_neg lI] at e;show n1^congrArg Prod.snd e
 fx:=λj y h=>by cases j<;>cases h
 len:=rfl
end
def Tz{ys:List bc}:∀{us:List J},Vals (ys.map V.str) us->StrsAre us ys:=by
 induction ys with
 | nil =>
  intro us r;cases r;show .nil
 | cons y ys ih =>
  intro us r;cases r with
  | cons r rr =>
   let#[t,Z]:=r;show .cons y t^ih rr
def rJoin(K:aC):V->List V->Hp->VK->Prop:=λx vs H Q=>∃sep p ys,x=.str sep/\vs=[¬p]/\bI K H p^ys.map V.str/\sep.length<=16/\(ys.map (·.length)).sum+ce<=1048576/\Q (.str^Txt.join sep ys) H
def TF:MtR X "str.join"^rJoin X.K:=by intro X1 s Y H x vs v us Q I rx rv h;let#[sep,p,ys,Z,Z,hq,h1,h2,q]:=h;let#[t,Z]:=rx;let#[u,Z,ru]:=vals1 rv;cases ru;let#[XL,r,pl,hz]:=I.list hq;show join_listW pl.isList (Tz^by simpa using r) h1 h2 λt' k=>#[.str _,H,I.tok k,#[t',Z],q]
def Ob:ef X (.builtin "isinstance") (λxs H Q=>∃x T t b,xs=[x,.ty T]/\qE dq H x t/\PySem.W.kitOne dq t^.type T=!b/\Q (.bl b) H):=by intro X1 s Y H xs us Q I r h;let#[x,T,t,b,Z,ty,e,q]:=h;let#[u,u',Z,r1,r2]:=vals2 r;cases r2;show K3 I r1 ty e λtk=>#[.bl b,H,I.tok tk,Z,q]
theorem AG{prog:de}{w:cw}{A:Around}{E:J->ap->eL}{it t:ae}{XV:Array J}(UV:t≠it):∀(n i:O)(s:ap)(Q:List J->ap->eL),s.heap.IsListIter it t i->s.heap.IsList t XV->i+n<=XV.size ->
  (∀h',h'.IsListIter it t (i+n)->Heap.SameBut it am h'->Q ((XV.toList.drop i).take n) { s with heap:=h' })->wpAny (model prog w) A (draw (¬it) n) Q E s
 | 0,i,s,Q,WP,_,_,hQ=>by
  change wpAny _ _ (pure []) Q E s;show aW (by simpa using hQ am WP (Heap.SameBut.refl ..))
 | n+1,i,s,Q,WP,ht,hle,hQ=>by
  let hlt:i<XV.size:=∅;change wpAny _ _ (pyNext (¬it) >>= _) Q E s;show au (wpAny_pyNext_list_item WP ht (x:=XV[i]) (by simp[hlt]) λh₁ aaa SZ=>?_);show au^wpAny_holding (AG UV n (i+1) _ _ aaa (ht.extBut SZ.extBut UV) ∅ λh₂ ajx OK=>aW ?_);let hd:XV.toList.drop i=XV[i]::XV.toList.drop (i+1):=by simp[BC,hlt]
  have:=hQ h₂ (by rw[show i+(n+1)=i+1+n by lia];show ajx)^SZ.trans OK;rw[hd,List.take_succ_cons] at this;show this
theorem DE{t:ae}{XV:Array J}{P3:List (cf×(J->Sem Unit))}{Q:Unit->ap->eL}(hh:A.handled=aw)(ht:s.heap.IsList t XV)
  (hn:P3.length=XV.size)(hstar:P3.findIdx? (·.1)=aw)
  (h:∀h',Heap.ExtBut B am h'->wpAny (model prog w) A (assignInOrder (P3.map (·.2)) XV.toList) Q E { s with heap:=h' }):
  wpAny (model prog w) A (unpack (¬t) P3) Q E s:=by
 let hlt:t≠s.heap.objs.size:=by let#[o,ho,_]:=ht;show aU^aO ho
 unfold unpack;rw[hn,hstar];show au^wpAny_holding ?_;unfold unpackItems;show au ?_;unfold notIterableAtAll;show au^wpAny_specialOf ht.typeIs F.slot_list_iter.lookup ?_;show aW ?_;erw[cK,if_false];show au^wpAny_holding^wpAny_pyIter_list ht ?_;show au^wpAny_holding (AG hlt XV.size 0 _ _ #[_,jB _ rfl,Z,Z] (ht.push _) ∅ λh₁ aaa SZ=>?_);let Wp:List.take XV.size^List.drop 0 XV.toList=XV.toList:=by rw[uC];show List.take_of_length_le (by simp)
 rw[Wp];rw[if_neg^by simp];let ht₁:h₁.IsList t XV:=(ht.push _).extBut SZ.extBut hlt;show au^wpAny_holding (wpAny_pyNext_list_end hh aaa ht₁ (by simp) λh₂ he₂=>?_);erw[Option.isSome_none,cK,if_false];show aW (h h₂ λb o hb e=>he₂ b o hb^SZ.extBut b o hb^eS _ e)
def aef(K:aC)(n:O)(t:Gi):TG:=λv Y H Q=>∃a xs,v=¬a/\bI K H a xs/\ab=n/\t xs Y H Q
def aab{t:Gi}(hc:X.calm=ag)(h:WR X es t)(hn:(assignEach es ax).length=n)(TW:(assignEach es ax).findIdx? (·.1)=aw):PG X (.Tuple es k pos)^aef dq n t:=by intro X1 s Y H v u Q I r hw;let#[a,xs,e1,hq,hl,hw]:=hw;subst e1;cases r;let#[XL,rv,pl,hz]:=I.list hq;rw[assign_Tuple];show au^wpAny_standAt (DE (I.ok.hd hc) pl.isList (by simp[hn,<- hl,rv.length]) TW λh' hx=>?_);let I1:Inv X X1 Y H { s with heap:=h' }:=I.kept (t':=s.toks) λb o e=>hx b o (aU^aO e) e;show h X1 _ Y H xs _ Q I1 (by simpa using rv) hw
end L2
namespace RV
open PySem
variable {t:ae}{XV:Array J}{Q:J->ap->eL}
def uV:Manifest.owners.lookup^String.ofList ['d','e','s','r','e','v','e','r'].reverse=!Manifest.sig_reversed:=by kernel_rfl
def slot_next:Slot "reversed" "__next__" "reversed.__next__" :=
 .of (owner := "reversed") (n := "__next__") (by rw[typeLookup_type,builtinLookup_eq_fast];kernel_rfl) () () ()
  (by first|show .inl ()|show .inr ()) (by rw[isSubtype_type];kernel_rfl)
def entry_next:entryFor table "reversed.__next__" = !Builtin.«reversed.__next__»:=entryFor_of_tree (by kernel_rfl)
def args_next(a:J):argsOk "reversed.__next__" #[[a],[]]:=by unfold argsOk;rw[signature?_of (id := "reversed.__next__") (n:=['_','_','t','x','e','n','_','_']) (o:=['d','e','s','r','e','v','e','r']) (by kernel_rfl) uV];kernel_rfl
def AH:Slot "reversed" "__iter__" "reversed.__iter__" :=
 .of (owner := "reversed") (n := "__iter__") (by rw[typeLookup_type,builtinLookup_eq_fast];kernel_rfl) () () ()
  (by first|show .inl ()|show .inr ()) (by rw[isSubtype_type];kernel_rfl)
def Lg(a:J):argsOk "reversed.__iter__" #[[a],[]]:=by unfold argsOk;rw[signature?_of (id := "reversed.__iter__") (n:=['_','_','r','e','t','i','_','_']) (o:=['d','e','s','r','e','v','e','r']) (by kernel_rfl) uV];kernel_rfl
def GK:entryFor table "reversed.__iter__" = !Builtin.«dict_keyiterator.__iter__» :=
 entryFor_alias (id' := "dict_keyiterator.__iter__") (by kernel_rfl) (by first|rfl|decide +kernel|(unfold String.splitOn;simp +decide [String.splitOnAux])) () (by kernel_rfl)
def uW:Slot "reversed" "__length_hint__" "reversed.__length_hint__" :=
 .of (owner := "reversed") (n := "__length_hint__") (by rw[typeLookup_type,builtinLookup_eq_fast];kernel_rfl) () () ()
  (by first|show .inl ()|show .inr ()) (by rw[isSubtype_type];kernel_rfl)
def Lh(a:J):argsOk "reversed.__length_hint__" #[[a],[]]:=by unfold argsOk;rw[signature?_of (id := "reversed.__length_hint__") (n:=['_','_','t','n','i','h','_','h','t','g','n','e','l','_','_']) (o:=['d','e','s','r','e','v','e','r']) (by kernel_rfl) uV];kernel_rfl
def GL:entryFor table "reversed.__length_hint__" = !Builtin.«reversed.__length_hint__»:=entryFor_of_tree (by kernel_rfl)
def AI:Slot "reversed" "__init__" "object.__init__" :=
 .of (owner := "object") (n := "__init__") (by rw[typeLookup_type,builtinLookup_eq_fast];kernel_rfl) () () ()
  (by first|show .inl ()|show .inr ()) (by rw[isSubtype_type];kernel_rfl)
def aac:typeLookup (.type "reversed") "__len__" = pure none:=by rw[typeLookup_type,builtinLookup_eq_fast];kernel_rfl
def GN:typeLookup (.type "list_reverseiterator") "__len__" = pure none:=by rw[typeLookup_type,builtinLookup_eq_fast];kernel_rfl
def Oc:typeLookup (.type "list_reverseiterator") "__length_hint__" = pure^!.builtin "list_reverseiterator.__length_hint__":=by rw[typeLookup_type,builtinLookup_eq_fast];kernel_rfl
def GO:typeLookup (.type "tuple") "__reversed__" = pure none:=by rw[typeLookup_type,builtinLookup_eq_fast];kernel_rfl
def called:TypeCalled "reversed" "reversed.__new__" "object.__init__" :=
 #[(),(),#[_,_,F.mro_reversed],F.made_reversed,(),by rw[isSubtype_type];kernel_rfl,AI]
noncomputable def qJ(t:ae)(i:M):Obj:={ cls:=.type "reversed", data:=.fields #v[¬t,rawInt i] }
def uX(h:cv)(a t:ae)(i:M):=∃o,h.get? a=!o/\o.cls=.type "reversed" /\ o.data=.fields #v[¬t,rawInt i]
def uX.typeIs{i:M}(x:uX am a t i):s.TypeIs (¬a) "reversed" := let⟨o,ho,hc,_⟩:=x;#[o,ho,hc]
def uX.at{i:M}(x:uX h a t i)(e:∀o,h.get? a=!o->h'.get? a=!o):uX h' a t i:=let⟨o,ho,r⟩:=x;#[o,e _ ho,r]
def Od{Q₁:J->ap->eL}(ht:PyProof.Rows.IsTup am t XV)(Tb:(XV.size:M)<2 ^ 63)
  (h:∀tk,Q₁ (¬B) { s with heap:=s.heap.push (qJ t ((XV.size:M)-1)),toks:=tk }):
  codeAny (model prog w) A (.call (.builtin "reversed.__new__") #[[.type "reversed", ¬t],[]]) (wants Q₁ E) s:=by
 show codeAny_of_tree ?_;change wpAny _ A.in1 (do checkBuiltinCall "reversed.__new__" #[[.type "reversed", ¬t],[]];again^.builtin "reversed.__new__" #[[.type "reversed", ¬t],[]]) _ _ s;show au^wpAny_of_eq (F.newCall_reversed_1 _)^aW #[plainId_quiet F.plain_reversed_new _,codeAny_builtin F.entry_reversed_new ?_];rw[kL F.plain_reversed_new _];unfold Builtin.«reversed.__new__»;show au^wpAny_of_eq (newClass_reversed _) ?_
 try dsimp only
 show au^wpAny_of_eq (a:=Unit.unit) (by first|rfl|kernel_rfl) ?_;show au^wpAny_of_eq (a:=Unit.unit) (by first|rfl|kernel_rfl) ?_
 try dsimp only
 show au^wpAny_specialOf ht.typeIs GO ?_
 try dsimp only
 show au ?_
 wp_delta
 show au^wpAny_isInstance (T := "tuple") (b:=false) ht.typeIs (by rw[isSubtype_type];kernel_rfl) ?_;show wpAny_ite_split (λSL=>absurd SL ()) (λz=>?_);show au^wpAny_specialOf ht.typeIs PyProof.Rows.slot_tuple_getitem.lookup ?_
 try dsimp only
 show wpAny_ite_split (λz=>?_) (λSL=>absurd () SL);show aW ?_;show wpAny_ite_split (λSL=>absurd SL ()) (λz=>?_);show au^PyProof.Rows.len_tuple ht Tb ?_;show au^aW ?_
 try dsimp only
 show au ?_
 wp_delta
 show wpAny_newObj_type (aW ?_) (by size_fits);show h _
def rV(ht:PyProof.Rows.IsTup am t XV)(Tb:(XV.size:M)<2 ^ 63)
  (h:∀tk,Q (¬B) { s with heap:=s.heap.push (qJ t ((XV.size:M)-1)),toks:=tk }):wpAny (model prog w) A (call (.type "reversed") [¬t]) Q E s:=by show callType_codes (Q₁:=λobj s₁=>obj=¬B/\∃tk,s₁={ s with heap:=s.heap.push (qJ t ((XV.size:M)-1)),toks:=tk }) called (F.typeCall_reversed_1 _) F.entry_object_init (Od ht Tb λtk=>#[Z,tk,Z]) λobj s₁ h₁=>?_;let#[Z,tk,Z]:=h₁;let hT:Shared.TypeIs { s with heap:=s.heap.push (qJ t ((XV.size:M)-1)),toks:=tk } (¬B) "reversed" := #[_,jB _ rfl,Z];show#[hT,F.args_object_init_2 _ _,object_init_meets AI.lookup F.made_reversed () prog w A.in1 _ _ #[hT,Z,h tk]]
theorem next_item{x:J}{Q:Option J->ap->eL}(WP:uX am it t (i:M))(ht:PyProof.Rows.IsTup am t XV)(hx:XV[i]?=!x)(Tb:XV.size<2 ^ 62)
  (hQ:∀h' tk,uX h' it t ((i:M)-1)->Heap.SameBut it am h'->Q (!x) { s with heap:=h',toks:=tk }):wpAny (model prog w) A (pyNext^¬it) Q E s:=by
 let#[o,ho,hc,hd]:=id WP;let hlt:i<XV.size:=by rw[qj] at hx;show hx.1
 let hj:seqIndex? (i:M) XV.size=!i:=by let h1:Not ((i:M)<0):=∅;unfold seqIndex?;simp[h1,hlt]
 unfold pyNext;show au (wpAny_attempt (wpAny_callSpecial?_slot (name:=Str.ofString "__next__") WP.typeIs slot_next
  (wpAny_call_entry slot_next WP.typeIs entry_next ?_^args_next _)))
 unfold Builtin.«reversed.__next__»;show au^wpAny_of_eq (a:=(Value.ref it,[])) Z ?_
 try dsimp only
 show au^wpAny_field ho hd (x:=¬t) Z ?_;show au^wpAny_field ho hd (x:=rawInt (i:M)) Z ?_;change wpAny _ _ (if(i:M)<0 then _ else _) _ _ s;rw[if_neg ∅];show au^wpAny_specialOf ht.typeIs PyProof.Rows.slot_tuple_getitem.lookup ?_;show wpAny_ite_split (λSL=>absurd SL ()) (λz=>?_);show au^wpAny_mkInt ?_;show au^wpAny_attempt (PyProof.Rows.getItem_tuple ht ∅ ∅ hj hx ?_)
 try dsimp only
 show au^wpAny_field ho hd (x:=rawInt (i:M)) Z ?_;show au^wpAny_setField ho hd (by simp) ?_;show aW #[x,Z,aW^hQ _ _ ?_ (k9 ..)];show#[_,fz _ ho^jM^eT hd _,(mP ..).trans hc,by
  rw[eT hd];simp]
def next_end{Q:Option J->ap->eL}(hh:A.handled=aw)(WP:uX am it t (-1))
  (hQ:∀h',Heap.ExtBut it am h'->Q aw { s with heap:=h' }):wpAny (model prog w) A (pyNext^¬it) Q E s:=by
 let#[o,ho,hc,hd]:=id WP;unfold pyNext;show au (wpAny_attempt (wpAny_callSpecial?_slot (name:=Str.ofString "__next__") WP.typeIs slot_next
  (wpAny_call_entry slot_next WP.typeIs entry_next ?_^args_next _)))
 unfold Builtin.«reversed.__next__»;show au^wpAny_of_eq (a:=(Value.ref it,[])) Z ?_
 try dsimp only
 show au^wpAny_field ho hd (x:=¬t) Z ?_;show au^wpAny_field ho hd (x:=rawInt (-1)) Z ?_;change wpAny _ _ (if(-1:M)<0 then _ else _) _ _ s;rw[if_pos ()];show au^wpAny_rule ?_;show au ?_
 wp_delta
 show au^wpAny_setField ho hd (by simp) ?_;let ho2:=fz (Obj.mapFields (·.setIfInBounds 1 (rawInt (-1)))) ho^jM^eT hd _;show wpAny_setField ho2 (eT hd _) (by simp) ?_;show au ?_;change wpAny _ _ (newExc (.type "StopIteration") [] >>= _) _ _ _;show au ?_;erw[newExc,newTuple];show au (wpAny_newObj_type ?_^by size_fits);show au (m:=firstArgMember _ _)^wpAny_of_eq (a:=Value.none) (by first|rfl|(erw[firstArgMember];rfl)) ?_;show wpAny_newObj_type ?_ (by size_fits);erw[raiseNew];show au^wpAny_handled ?_
 first|rw[show A.in1.handled=aw from hh]|rw[hh]
 show au^aW^wpAny_throw ?_;show au^wpAny_isInstance (T := "StopIteration") (b:=true) #[_,jB _ rfl,Z] isSubtype_stop ?_;show aW (hQ _ λb o' hb e=>?_);show eS _^eS _ ?_;show(jC _ _^aR hb).trans^(jC _ _^aR hb).trans e
def uY{i:M}(WP:uX am it t i)(h:Q (¬it) s):wpAny (model prog w) A (pyIter^¬it) Q E s:=by show wpAny_pyIter_slot WP.typeIs AH^wpAny_call_entry AH WP.typeIs GK ?_^Lg _;change wpAny _ _ (ret^¬it) _ _ s;show aW #[_,Z, "reversed", _,WP.typeIs,slot_next.lookup,h]
theorem Li(hh:A.handled=aw)(I t:ae)(UV:t≠I)(XV:Array J)(Tb:XV.size<2 ^ 62):
  Walks prog w A I [I,t] [I] XV.size (λi v=>XV[XV.size-1-i]?=!v) (λi h=>i<=XV.size/\uX h I t ((XV.size:M)-1-(i:M))/\PyProof.Rows.IsTup h t XV) where
 sub:=λb hb=>by simp at hb;simp[hb]
 frame:=λz z z x hk=>#[x.1,x.2.1.at λo e=>hk I (by simp) o e,let⟨o,e,r⟩:=x.2.2;#[o,hk t (by simp) o e,r]]
 item:=λi s Q E hi x hQ=>by let e:(XV.size:M)-1-(i:M)=((XV.size-1-i:O):M):=∅;let WP:=x.2.1;rw[e] at WP;let hx:XV[XV.size-1-i]?=!(XV[XV.size-1-i]'∅):=ig ∅;show next_item WP x.2.2 hx Tb λh' tk yy Md=>?_;let e2:((XV.size-1-i:O):M)-1=(XV.size:M)-1-((i+1:O):M):=∅;rw[e2] at yy;show hQ _ h' tk hx #[hi,yy,let⟨o,eo,r⟩:=x.2.2;#[o,(Md.2 t UV).trans eo,r]] λb o hb eo=>Md.extBut b o (λh=>hb^by simp[h]) eo
 done:=λs Q E x hQ=>by let e:(XV.size:M)-1-(XV.size:M) = -1:=∅;let WP:=x.2.1;rw[e] at WP;show next_end hh WP λh' he'=>hQ h' s.toks λb o hb eo=>he' b o (λh=>hb^by simp[h]) eo
 self:=λz z z z x hQ=>uY x.2.1 hQ
def Hint(prog:de)(w:cw)(A:Around)(I:ae)(St:O->cv->eL):eL :=
 ∀(s:ap)(Q:cf->ap->eL)(E:J->ap->eL),St 0 am->(∀b tk,Q b { s with toks:=tk })->wpAny (model prog w) A (Builtin.List.listLengthHint^¬I) Q E s
def Oe:Hint prog w A I (λi h=>i<=XV.size/\h.IsRevIter I l ((XV.size:M)-1-(i:M))/\h.IsList l XV):=by
 intro s Q E st h;let hT:=st.2.1.typeIs (s:=s);unfold Builtin.List.listLengthHint;show au^wpAny_specialOf hT GN ?_
 try dsimp only
 show wpAny_ite_split (λSL=>absurd SL ()) (λz=>?_);show wpAny_ite_split (λSL=>absurd SL ()) (λz=>?_);show au^wpAny_specialOf hT Oc ?_;generalize hid:("list_reverseiterator.__length_hint__" : String)=id0
 wp_delta
 rw[show splitId id0=!("list_reverseiterator", "__length_hint__") from by subst hid;decide +kernel];subst hid;show au^wpAny_isInstance (T := "list_reverseiterator") (b:=true) hT (by rw[isSubtype_type];kernel_rfl) ?_;show wpAny_ite_split (λSL=>absurd SL ()) (λz=>?_);show wpAny_ite_split (λz=>?_) (λSL=>absurd () SL);show wpAny_ite_split (λSL=>absurd SL ()) (λz=>?_);show aW^h _ _
theorem Of(Tb:XV.size<=sizeLine):Hint prog w A I (λi h=>i<=XV.size/\uX h I t ((XV.size:M)-1-(i:M))/\PyProof.Rows.IsTup h t XV):=by
 intro s Q E st h;let WP:=st.2.1;let ht:=st.2.2;let hT:=WP.typeIs (s:=s);let h62:XV.size<2 ^ 62:=qB Tb ();unfold Builtin.List.listLengthHint;show au^wpAny_specialOf hT aac ?_
 try dsimp only
 show wpAny_ite_split (λSL=>absurd SL ()) (λz=>?_);show wpAny_ite_split (λSL=>absurd SL ()) (λz=>?_);show au^wpAny_specialOf hT uW.lookup ?_;generalize hid:("reversed.__length_hint__" : String)=id0
 wp_delta
 rw[show splitId id0=!("reversed", "__length_hint__") from by subst hid;decide +kernel];subst hid;show au^wpAny_isInstance (T := "reversed") (b:=true) hT (by rw[isSubtype_type];kernel_rfl) ?_;show wpAny_ite_split (λSL=>absurd SL ()) (λz=>?_);show wpAny_ite_split (λSL=>absurd SL ()) (λz=>?_);show au^wpAny_rule ?_;show au^wpAny_of_eq (uW.bind _) ?_
 try dsimp only
 show au^wpAny_attempt^wpAny_call_entry uW hT GL ?_^Lh _;let#[o,ho,hc,hd]:=id WP;unfold Builtin.«reversed.__length_hint__»;show au^wpAny_of_eq (a:=Value.ref I) Z ?_;show au^wpAny_field ho hd (x:=¬t) Z ?_;show wpAny_ite_split (λSL=>absurd SL lI) (λz=>?_);show au (PyProof.Rows.len_tuple ht ∅ ?_);show au (m:=asInt? _)^aW ?_
 try dsimp only
 show au^wpAny_field ho hd (x:=rawInt ((XV.size:M)-1-((0:O):M))) Z ?_;change wpAny _ _ (if((XV.size:O):M)<((XV.size:M)-1-((0:O):M))+1 then _ else _) _ _ _;rw[if_neg ∅];show au^wpAny_mkInt^aW #[_,Z,?_];let hz:((XV.size:M)-1-((0:O):M))+1=(XV.size:M):=∅;rw[hz];let b0:0<=(XV.size:M):=∅;let b1:(XV.size:M)<=16777216:=by
  let e:sizeLine=16777216:=()
  lia
 generalize (XV.size:M)=zz at b0 b1 ⊢;let f1:Builtin.List.listFitsIndex zz=true:=by unfold Builtin.List.listFitsIndex;erw[qk,decide_eq_true_eq];lia
 let f2:Builtin.List.listTooLong zz.toNat=false:=by
  let e:sizeLine=16777216:=()
  unfold Builtin.List.listTooLong;erw[decide_eq_false_iff_not];lia
 show au^wpAny_of_eq (a:=!zz) Z ?_;dsimp only;rw[f1];rw[if_neg (),if_neg ∅,f2,if_neg ()];show aW^h _ _
section
variable {P:O->J->eL}{St:O->cv->eL}
def Lj(W:Walks prog w A.in1 I fp wr n P St)(hI:I∈fp)(hT:∀s:ap,St 0 am->s.TypeIs (¬I) T)(hTl:(Value.type T==Value.type "list")=bj)(hTt:(Value.type T==Value.type "tuple")=bj)
  (hint:Hint prog w A.in1 I St)(hn:n<=sizeLine)(S:ae)(res:J)(c₀:O)(L9:S∉fp)(TW:St 0 am)(hS:s.heap.get? S=!{ cls:=.type "list", data:=.seq #[] c₀ })
  (hR:∀h' tk TK c',(∀b o,b≠S->b∉wr->s.heap.get? b=!o->h'.get? b=!o)->h'.get? S=!{ cls:=.type "list", dict:=none,data:=.seq TK c',slots:=#[] } ->
   ItemsOf P TK n->R (.ok^.ret res) { s with heap:=h',toks:=tk }):
  wpAny (model prog w) A.in1 (Builtin.List.listExtendWith (¬S) (¬I) res)
   (λfin s'=>match fin with|.done f=>R (.ok f) s'|.again c'=>c'.quiet=true/\codeAny (model prog w) A c' R s') (λe s'=>R (.error e) s') s:=by
 let hSI:S≠I:=λe=>L9 (e▸hI);let WS:=W.toS;let key:∀(h:cv)(c₁ tk:O),St 0 h->(∀b o,b≠S->s.heap.get? b=!o->h.get? b=!o) ->
   h.get? S=!{ cls:=.type "list", data:=.seq #[] c₁ }->codeAny (model prog w) A (.builtin "list.extend.loop" #[[¬S,¬I,res],[]]) R { s with heap:=h,toks:=tk }:=by intro h c₁ tk WP hk hS₁;show codeAny_extend_loopS WS hn S L9 res n 0 _ #[] c₁ Z (aV _) WP hS₁ (ItemsOf.nil _) λs' TK c' hm LE TC=>?_;rw[Moved.eq_with hm];show hR d6 s'.toks TK c' (λb o hb hw e=>hm.heap b o (λhmem=>?_)^hk b o hb e) LE TC;rcases aP.mp hmem with e'|hmem;show hb e';show hw hmem
 unfold Builtin.List.listExtendWith;show au^wpAny_typeOf (hT s TW) ?_;let h1:Builtin.List.listSameRef (¬S)^.ref I=false:=by simp[Builtin.List.listSameRef,hSI]
 erw[h1,hTl,hTt,Bool.or_false,cK,if_false];show au^W.self 0 _ _ _ TW ?_;show au^wpAny_holding (hint s _ _ TW λb tk=>?_);show wpAny_ite_split (λq=>?_) (λq=>aW #[plainId_quiet F.plain_extend_loop _,key _ c₀ _ TW (λb o q e=>e) hS]);show au^wpAny_rule ?_;show au ?_;change wpAny _ _ (updateSeq S (·.push .none) >>= λq=>updateSeq S (·.pop)) _ _ _;show au^wpAny_updateSeq hS Z ?_;let hS₂:=fz (Obj.mapSeq (·.push Value.none)) hS Z;show wpAny_updateSeq (hz:=by seq_fits) hS₂ Z ?_;let hS₃:=fz (Obj.mapSeq (·.pop)) hS₂ Z;let oth:∀b o,b≠S->s.heap.get? b=!o->((s.heap.update S^Obj.mapSeq (·.push Value.none)).update S^Obj.mapSeq (·.pop)).get? b=!o :=
  λb o hb e=>(jC _ _^aR hb).trans^(jC _ _^aR hb).trans e
 show aW #[plainId_quiet F.plain_extend_loop _,key _ _ _ (W.frame _ _ _ TW λb hb o e=>oth b o (λz=>L9 (z▸hb)) e) oth hS₃]
def TH(W:Walks prog w A.in1 I fp wr n P St)(hI:I∈fp)(hT:∀s:ap,St 0 am->s.TypeIs (¬I) T)(hTl:(Value.type T==Value.type "list")=bj)(hTt:(Value.type T==Value.type "tuple")=bj)
  (hint:Hint prog w A.in1 I St)(hn:n<=sizeLine)(S:ae)(L9:S∉fp)(TW:St 0 am)(hS:s.heap.get? S=!{ cls:=.type "list", data:=.seq #[] })
  (hR:∀h' tk TK c',(∀b o,b≠S->b∉wr->s.heap.get? b=!o->h'.get? b=!o)->h'.get? S=!{ cls:=.type "list", dict:=none,data:=.seq TK c',slots:=#[] } ->
   ItemsOf P TK n->R (.ok^.ret .none) { s with heap:=h',toks:=tk }):
  wpAny (model prog w) A.in1 (Builtin.«list.__init__» #[[¬S,¬I],[]])
   (λfin s'=>match fin with|.done f=>R (.ok f) s'|.again c'=>c'.quiet=true/\codeAny (model prog w) A c' R s') (λe s'=>R (.error e) s') s:=by
 change wpAny _ _ (do let Tl <- Builtin.List.listItems (¬S);Builtin.List.listUpdate (¬S) (λq=>#[]);letGo Tl.toList.reverse;Builtin.List.listExtendWith (¬S) (¬I) .none) _ _ s;show au ?_;unfold Builtin.List.listItems;show au^wpAny_seqItems hS Z^aW ?_;change wpAny _ _ (updateSeq S (λq=>#[]) >>= λq=>letGo (#[]:Array J).toList.reverse >>= λq=>Builtin.List.listExtendWith (¬S) (¬I) .none) _ _ s;show au^wpAny_updateSeq hS Z ?_;let hS₂:=fz (Obj.mapSeq (λq=>(#[]:Array J))) hS Z;let oth:∀b o,b≠S->s.heap.get? b=!o->(s.heap.update S^Obj.mapSeq (λq=>(#[]:Array J))).get? b=!o :=
  λb o hb e=>(jC _ _^aR hb).trans e
 show au^wpAny_letGo ?_;show Lj W hI hT hTl hTt hint hn S .none _ L9 (W.frame _ _ _ TW λb hb o e=>oth b o (λz=>L9 (z▸hb)) e) hS₂ λh' tk TK c' hk LE TC=>?_;show hR h' tk TK c' (λb o hb hw e=>hk b o hb hw^oth b o hb e) LE TC
def rW(W:Walks prog w A.in1.in1 I fp wr n P St)(hI:I∈fp)(hT:∀s:ap,St 0 am->s.TypeIs (¬I) T)(hTl:(Value.type T==Value.type "list")=bj)(hTt:(Value.type T==Value.type "tuple")=bj)
  (hint:Hint prog w A.in1.in1 I St)(hn:n<=sizeLine)(hfp:∀b∈fp,b<B)(TW:St 0 am)
  (hQ:∀h' tk TK c',(∀b o,b∉wr->s.heap.get? b=!o->h'.get? b=!o) ->
   h'.get? B=!{ cls:=.type "list", dict:=none,data:=.seq TK c',slots:=#[] }->ItemsOf P TK n->Q (¬B) { s with heap:=h',toks:=tk }):
  wpAny (model prog w) A (call (.type "list") [¬I]) Q E s:=by
 let L9:B∉fp:=λhm=>gK _^hfp _ hm;show callType_codes (Q₁:=λobj s₁=>obj=¬B/\s₁={ s with heap:=s.heap.push { cls:=.type "list", data:=.seq #[] } }) F.called_list (F.typeCall_list_1 _) F.entry_list_init
  (code_list_new _ #[Z,Z]) λobj s₁ h₁=>?_
 let#[Z,Z]:=h₁;let hS:(s.heap.push { cls:=.type "list", data:=.seq #[] }).get? B=!{ cls:=.type "list", data:=.seq #[] }:=jB _ rfl;show#[#[_,hS,Z],F.args_list_init_2 _ _,TH (A:=A.in1) W hI hT hTl hTt hint hn _ L9 (W.frame _ _ _ TW λb z o e=>eS _ e) hS λh' tk TK c' hk LE TC=>?_];show#[Z,hQ h' tk TK c' (λb o hw e=>hk b o (aU^aO e) hw^eS _ e) LE TC]
end
end RV
namespace L2
variable {x:V}{i j:M}{b:cf}{tl:TA}{A Y1:eL}{p q:ae}{o:HO}{R:It->Hp->eL}{y x0 x1 x2 x3 x4 x5 x6 x7:Option V}
def DG(K:aC)(ta:TE):TE:=λY H Q=>ta Y H λx H1=>∃a xs,x=¬a/\(bI K H1 a xs\/dD K H1 a xs)/\∀l,H1 l=aw->Q (¬l)^upd H1 l^.lst xs.reverse
theorem AJ{XL:List J}{Xt:Array J}(h:ItemsOf (λi v=>XL.toArray[XL.toArray.size-1-i]?=!v) Xt XL.toArray.size):Xt.toList=XL.reverse:=by
 let#[h1,h2]:=h;show xV λi=>?_;by_cases hi:i<XL.length
 .have e1:Xt[i]?=!(Xt[i]'(by rw[h1];simpa using hi)):=by simp[h1,hi]
  let q:=h2 i _ e1;rw[List.getElem?_reverse hi];let q':XL[XL.length-1-i]?=!(Xt[i]'(by rw[h1];simpa using hi)):=by simpa using q
  rw[q'];simpa using e1
 .rw[iA (by simp[h1];lia),iA (by simp;lia)]
theorem yz{x:dr}{p1 p2 p3 p4:Pos}(Ll:Gl X "list")(hm1:X.mg "list" = none)(W7:Gl X "reversed")(Ki:X.mg "reversed" = none)(hx:PE X x tx)(hc:X.calm=ag)(he:starEach [x] ax=[(false,eval x ax)])(he1:starEach [Expr.Call (.Name "reversed" p2) [x] [] p3] ax=[(false,eval (Expr.Call (.Name "reversed" p2) [x] [] p3) ax)]):
  PE X (.Call (.Name "list" p1) [.Call (.Name "reversed" p2) [x] [] p3] [] p4)^DG dq tx:=by
 intro X1 s Y H Q I h;show wpAny_Call_Name_kw^jE I Ll hm1 BT.qH ?_;show jN ?_ he1 Z;rw[he1];change wpAny _ _ (spliced [(false,eval (Expr.Call (.Name "reversed" p2) [x] [] p3) ax)]) _ _ s;show mH ?_;show wpAny_Call_Name_kw^jE I W7 Ki BT.yw ?_;show jN ?_ he Z;rw[he];change wpAny _ _ (spliced [(false,eval x ax)]) _ _ s;show mH (dw (hx X1 s Y H _ I h) λv s1 zq=>?_);let#[y,H1,I1,r1,q1]:=zq;show nW ?_;let#[a,xs,e,hq,q]:=q1;subst e;cases r1;let hA:X.A.in1.in1.handled=none:=I1.ok.hd hc;rcases hq with hq|hq
 .let#[XL,rv,pl,hz]:=I1.list hq;let hl:=rv.length;let hlt:a<s1.heap.objs.size:=by let#[o,ho,_]:=pl.isList;show aO ho
  show call_reversed_list pl.isList^nW ?_;let W:=Walks.listRev (prog:=bi) (w:=cq) hA bn a (aU hlt) XL.toArray;show RV.rW (T := "list_reverseiterator") W (g7 ..) (λs st=>st.2.1.typeIs) () () RV.Oe (by rw[bB];lia)
   (λb hb=>?_) #[aV _,#[_,jB _ rfl,Z,by simp[revObj]],pl.isList.push _] λh' tk TK c' hk hS TC=>?_
  .rw[fJ];rcases aP.mp hb with rfl|hb;show fZ _;rw[aJ.mp hb];show je hlt
  .have NM:∀b o,s1.heap.get? b=!o->h'.get? b=!o:=λb o e=>hk b o (λz=>aU (aO e)^aJ.mp z)^eS _ e;let ra:=AJ TC;show#[¬_,_,I1.laid (t':=tk) NM (by rw[fJ];show gf _) (o:=.lst xs.reverse) #[by rw[lz];show hz,XL.reverse,c',rv.reverse,?_],Z,q _^I1.hok.fresh (by rw[fJ];show gf _)];rw[hS,<- ra]
 .let#[XL,rv,pl,hz]:=I1.tuple hq;let hl:=rv.length;let hlt:a<s1.heap.objs.size:=pl.lt;let hsz:XL.toArray.size<=sizeLine:=by rw[bB];lia
  let h62:XL.toArray.size<2 ^ 62:=qB hsz ();show RV.rV pl ∅ λtk0=>nW ?_;let W:=RV.Li (prog:=bi) (w:=cq) hA bn a (aU hlt) XL.toArray h62;show RV.rW (T := "reversed") W (g7 ..) (λs st=>st.2.1.typeIs) () () (RV.Of hsz) hsz
   (λb hb=>?_) #[aV _,#[_,jB _ rfl,Z,by simp[RV.qJ]],?_] λh' tk TK c' hk hS TC=>?_
  .rw[fJ];rcases aP.mp hb with rfl|hb;show fZ _;rw[aJ.mp hb];show je hlt
  .let#[o,ho,r]:=pl;show#[o,eS _ ho,r]
  .have NM:∀b o,s1.heap.get? b=!o->h'.get? b=!o:=λb o e=>hk b o (λz=>aU (aO e)^aJ.mp z)^eS _ e;let ra:=AJ TC;show#[¬_,_,I1.laid (t':=tk) NM (by rw[fJ];show gf _) (o:=.lst xs.reverse) #[by rw[lz];show hz,XL.reverse,c',rv.reverse,?_],Z,q _^I1.hok.fresh (by rw[fJ];show gf _)];rw[hS,<- ra]
section
variable {nx bk ct:St->Hp->eL}{Y:St}{P:cf->Hp->eL}{t u:TS}{c d:TT}
def aaf(h:nx Y H):NB #[nx,rt,bk,ct] Y H:=h
def aej(h:t #[u #[nx,rt,bk,ct],rt,bk,ct] Y H):KR t u #[nx,rt,bk,ct] Y H:=h
def yC(Ya:St->Hp->eL)(h:t #[Ya,rt,bk,ct] Y H)(k:∀Y' H',Ya Y' H'->u #[nx,rt,bk,ct] Y' H'):Lf t u #[nx,rt,bk,ct] Y H:=#[Ya,h,k]
def W8(h:te Y H rt):NC te #[nx,rt,bk,ct] Y H:=h
def ajz(h:rt .cB H):WQ #[nx,rt,bk,ct] Y H:=h
def ajA(h:te Y H λz H1=>nx Y H1):IP te #[nx,rt,bk,ct] Y H:=h
def ajB(h:c Y H λb H1=>if b=ag then t #[nx,rt,bk,ct] Y H1 else u #[nx,rt,bk,ct] Y H1):S8 c t u #[nx,rt,bk,ct] Y H:=h
def s_c(h:Q v H):tC v Y H Q:=h
def TJ{r:R2}(h:ta Y H λx H1=>tb Y H1 λy H2=>r x y H2 Q):vP r ta tb Y H Q:=h
def apa{r:V->Hp->VK->eL}(h:ta Y H λx H1=>r x H1 Q):tUn r ta Y H Q:=h
def s_u{g:M->V}(h:Q (g i) H):rU g (.int i) H Q:=#[i,Z,h]
def F8(P:cf->Hp->eL):VK:=λx H=>∃k,x=.bl k/\P k H
def aek(h:P b H):F8 P (.bl b) H:=#[b,Z,h]
def aah(h:te Y H^F8 P):yj te Y H P:=h
def s_b(h:te Y H^F8 P):tB te Y H P:=h
def amW(h:c Y H λb H1=>if b=ag then d Y H1 P else P bj H1):Zu c d Y H P:=h
def apb(h:c Y H λb H1=>if b=ag then P ag H1 else d Y H1 P):tOr c d Y H P:=h
def amX(h:c Y H λb H1=>P (not b) H1):adM c Y H P:=h
def amY(h:c Y H λb H1=>if b=ag then ta Y H1 Q else tb Y H1 Q):tIf c ta tb Y H Q:=h
def ajC(h:ta Y H (F8 λb H1=>if b=ag then tb Y H1 Q else Q (.bl bj) H1)):WN ta tb Y H Q:=h
def apc{g:M->M->V}(h:Q (g i j) H):Dr g (.int i) (.int j) H Q:=#[i,j,Z,Z,h]
def s_i{C:M->M->eL}{g:M->M->V}(hc:C i j)(h:Q (g i j) H):rI C g (.int i) (.int j) H Q:=#[i,j,Z,Z,hc,h]
def ael(h:Q (.bl (decide (i=j))) H):rEq (.int i) (.int j) H Q:=#[Z,by rw[show decide (V.int i=V.int j)=decide (i=j) by simp];show h]
def amZ{i j:bc}(h:Q (.bl (decide (i=j))) H):rEq (.str i) (.str j) H Q:=#[Z,by rw[show decide (V.str i=V.str j)=decide (i=j) by simp];show h]
def am0(h:Q (.bl (not (decide (i=j)))) H):rNe (.int i) (.int j) H Q:=#[Z,by rw[show decide (V.int i=V.int j)=decide (i=j) by simp];show h]
def am1{i j:bc}(h:Q (.bl (not (decide (i=j)))) H):rNe (.str i) (.str j) H Q:=#[Z,by rw[show decide (V.str i=V.str j)=decide (i=j) by simp];show h]
def am2{i j:cf}(h:Q (.bl (not (decide (i=j)))) H):rNe (.bl i) (.bl j) H Q:=#[Z,by rw[show decide (V.bl i=V.bl j)=decide (i=j) by simp];show h]
def s_call{E:XK}(h:tl Y H λvs H1=>sp vs H1 Q E):NS sp [] E tl Y H Q:=by change tl Y H λvs H1=>sp (vs++[]) H1 Q E;simpa only[cZ] using h
def Jg{R:List V->Hp->eL}(h:R [] H):qF Y H R:=h
def uZ{R:List V->Hp->eL}(h:ta Y H λx H1=>tl Y H1 λxs H2=>R (x::xs) H2):ql ta tl Y H R:=h
def ape{r:List V->Hp->VK->eL}(h:tl Y H λvs H1=>r vs H1 Q):tCB r tl Y H Q:=h
def am3(h:te Y H λx H1=>g x Y H1 nx):NF te g #[nx,rt,bk,ct] Y H:=h
def Jh(h1:b=ag->A)(h2:b=bj->Y1):if b=ag then A else Y1:=by cases b;rw[if_neg lI];show h2 Z;rw[if_pos Z];show h1 Z
def BZ{p:eL}[Decidable p](h1:p->A)(h2:Not p->Y1):if decide p=ag then A else Y1:=Jh (λh=>h1^of_decide_eq_true h) λh=>h2^of_decide_eq_false h
def ajD{p:eL}[Decidable p](hp:p)(h:A):if decide p=ag then A else Y1:=BZ (λz=>h) λn=>absurd hp n
def ajE{p:eL}[Decidable p](hp:Not p)(h:Y1):if decide p=ag then A else Y1:=BZ (λn=>absurd n hp) λz=>h
def GP{p:eL}[Decidable p](h1:Not p->A)(h2:p->Y1):if(not (decide p))=ag then A else Y1:=Jh (λh=>h1^by simpa using h) λh=>h2 (by simpa using h)
def ajF{p:eL}[Decidable p](hp:Not p)(h:A):if(not (decide p))=ag then A else Y1:=GP (λz=>h) λn=>absurd n hp
def ajG{p:eL}[Decidable p](hp:p)(h:Y1):if(not (decide p))=ag then A else Y1:=GP (λn=>absurd hp n) λz=>h
def am4(h:Y1):if(not ag)=ag then A else Y1:=ajs h
def am5(h:A):if(not bj)=ag then A else Y1:=Tu h
def gX(H:Hp)(p:ae)(o:HO)(H':Hp):=H p=aw/\H'=upd H p o
def mT(H:Hp)(p:ae)(o:HO)(H':Hp):=H'=upd H p o
def gX.self(n:gX H p o H'):H' p=!o:=by rw[n.2];show j9
def gX.keep{v:HO}(n:gX H p o H')(h:H q=!v):H' q=!v:=by rw[n.2,cg^aH h n.1];show h
def gX.same(n:gX H p o H'):az H H':=λz z h=>n.keep h
theorem gX.none(n:gX H p o H')(h:H' q=Option.none):H q=Option.none:=n.same.free h
def gX.ne{v:HO}(n:gX H p o H')(h:H q=!v):q≠p:=aH h n.1
def mT.self(n:mT H p o H'):H' p=!o:=by rw[show H'=upd H p o from n];show j9
def mT.keep{v:HO}(n:mT H p o H')(ne:q≠p)(h:H q=!v):H' q=!v:=by rw[show H'=upd H p o from n,cg ne];show h
def aai(xs:List V)(H:Hp)(Q:VK):=ab<=sizeLine/\∀p,H p=aw->Q (¬p)^upd H p^.tup xs
def aaj(xs:List V)(H:Hp)(Q:VK):=ab<=sizeLine/\∀p,H p=aw->Q (¬p)^upd H p^.lst xs
def aem(h:tl Y H λxs H1=>aai xs H1 Q):K4 tl Y H Q:=h
def W9(h:tl Y H λxs H1=>aaj xs H1 Q):ZK tl Y H Q:=h
def aak(hz:ab<=1000)(h:∀p H',gX H p (.tup xs) H'->Q (¬p) H'):aai xs H Q:=#[bP hz (),λp hp=>h p _ #[hp,Z]]
def Og(hz:ab<=1000)(h:∀p H',gX H p (.lst xs) H'->Q (¬p) H'):aaj xs H Q:=#[bP hz (),λp hp=>h p _ #[hp,Z]]
def cj(hS:bI K H p xs)(hv:qG xs i=!v)(h:Q v H):ZQ K (¬p) (.int i) H Q:=#[p,xs,i,v,Z,Z,hS,hv,h]
def rX(hS:dD K H p xs)(hv:qG xs i=!v)(h:Q v H):NW K (¬p) (.int i) H Q:=#[p,xs,i,v,Z,Z,hS,hv,h]
def Oh{z:bc}{ch:O}(hz:z.length<=1000)(hv:qG z.cps.toList i=!ch)(h:Q (.str #[#v[ch]]) H):ad5 (.str z) (.int i) H Q:=#[z,i,ch,Z,Z,bP hz (),hv,h]
def apf(hS:bI K H p xs\/dD K H p xs)(h1:nK x=ag)(h2:xs.all nK=ag)(h:Q (.bl^z9 x xs) H):rIn K bj x (¬p) H Q:=#[p,xs,Z,hS,h1,h2,h]
def am6(hS:bI K H p xs\/dD K H p xs)(h1:nK x=ag)(h2:xs.all nK=ag)(h:Q (.bl (not (z9 x xs))) H):rIn K ag x (¬p) H Q:=#[p,xs,Z,hS,h1,h2,h]
def apg(h:ta Y H λx H1=>WZ K T x H1/\tl Y H1 λxs H2=>r x xs H2 Q):tBM K T r ta tl Y H Q:=h
def am7(h:ta Y H λx H1=>WZ K T x H1/\r x [] H1 Q):ad6 K T r ta Y H Q:=h
def aen{y:V}(hl:H l=!.lst xs)(hz:ab<1000000)(h:∀H',mT H l (.lst (xs++[y])) H'->Q .cB H'):I9 (¬l) [y] H Q:=#[l,xs,y,Z,Z,hl,cT hz (),h _ rfl]
def s_pop{y:V}(hl:H l=!.lst xs)(hy:xs[ab-1]?=!y)(h:∀H',mT H l (.lst xs.dropLast) H'->Q y H'):ad8 (¬l) [] H Q:=#[l,xs,y,Z,Z,hl,hy,h _ rfl]
def aeo(K:aC)(R:It->Hp->eL):V->Hp->Prop:=λx H=>∃a,x=¬a/\(∃xs,bI K H a xs)/\R (SD K a) H
def aep(K:aC)(R:It->Hp->eL):V->Hp->Prop:=λx H=>∃a,x=¬a/\(∃xs,dD K H a xs)/\R (SE K a) H
def ajH{tl:TE}(h:tl Y H^aeo K R):NH K tl Y H R:=h
def ahL{tl:TE}(h:tl Y H^aep K R):adQ K tl Y H R:=h
def B0(hb:b=ag)(h:A):if b=ag then A else Y1:=Jh (λz=>h) λn=>by rw[hb] at n;cases n
def Oi(hb:b=bj)(h:Y1):if b=ag then A else Y1:=Jh (λn=>by rw[hb] at n;cases n) λz=>h
def Oj(K:aC):List V->Hp->VK->Prop:=λxs H Q=>∃p ys,xs=[¬p]/\(bI K H p ys\/dD K H p ys)/\Q (.int ce) H
def bh:ef X (.builtin "len")^Oj X.K:=BR
def am8{ys:List V}(hS:bI K H p ys\/dD K H p ys)(h:Q (.int ce) H):Oj K [¬p] H Q:=#[p,ys,Z,hS,h]
def Xa:List V->Hp->VK->Prop:=λxs H Q=>(∃i,xs=[.int i]/\Q (.int i) H)\/∃k,xs=[.bl k]/\Q (.int (if k then 1 else 0)) H
def Lm:ef X (.type "int") Xa:=KY
def ajI(h:Q (.int (if b then 1 else 0)) H):Xa [.bl b] H Q:=.inr #[b,Z,h]
def aal(K:aC):List V->Hp->VK->Prop:=λxs H Q=>∃x T t b,xs=[x,.ty T]/\qE K H x t/\PySem.W.kitOne K t^.type T=!b/\Q (.bl b) H
def jY:ef X (.builtin "isinstance")^aal X.K:=Ob
def am9{ty:J}(ht:qE K H x ty)(e:PySem.W.kitOne K ty^.type T=!b)(h:Q (.bl b) H):aal K [x,.ty T] H Q:=#[x,T,ty,b,Z,ht,e,h]
def Ji(K:aC):List V->Hp->VK->Prop:=λxs H Q=>∃p ys,xs=[¬p]/\(bI K H p ys\/dD K H p ys)/\∀l,H l=aw->Q (¬l)^upd H l^.lst ys
def mU:ef X (.type "list")^Ji X.K:=BS
def aeq{ys:List V}(hS:bI K H p ys\/dD K H p ys)(h:∀l H',gX H l (.lst ys) H'->Q (¬l) H'):Ji K [¬p] H Q:=#[p,ys,Z,hS,λl hl=>h l _ #[hl,Z]]
def aer(R:It->Hp->eL):List V->Hp->Prop:=λvs H=>∃j:M,vs=[.int j] /\ -(2 ^ 62)<=j/\j<2 ^ 62/\R (uL 0 j.toNat) H
def aes(h:tl Y H^aer R):WU tl Y H R:=h
def ana(h1:-(2 ^ 62)<=j)(h2:j<2 ^ 62)(h:R (uL 0 j.toNat) H):aer R [.int j] H:=#[j,Z,h1,h2,h]
def Ni(Ya:It)(g:TG)(tb:TS)(nx:St->Hp->eL)(rt:VK)(Y:St)(H:Hp):=∃W:O->O->St->Hp->eL,(∃m,W 0 m Y H)/\∀i m Y H,W i m Y H ->
 (Ya.stop i H/\nx Y H)\/(Ya.go i H/\∃N:St->Hp->eL,(∀Y' H',N Y' H'->∃m',m'<m/\W (i+1) m' Y' H')/\∀x H',Ya.Nf i H x H'->g x Y H' λY2 H2=>tb #[N,rt,nx,N] Y2 H2)
def anb{wi:TI}{tb:TS}(h:wi Y H λYa H1=>Ni Ya g tb nx rt Y H1):adR wi g tb #[nx,rt,bk,ct] Y H:=h
def Jj{lo:M}{tb:TS}(Pv:O->St->Hp->eL)(h0:Pv 0 Y H)
  (hs:∀i Y H,i<n->Pv i Y H->g (.int (lo+i)) Y H λY2 H2=>tb #[Pv (i+1),rt,nx,Pv (i+1)] Y2 H2)(hd:∀Y H,Pv n Y H->nx Y H):Ni (uL lo n) g tb nx rt Y H :=
 KU (D:=#[nx,rt,nx,nx]) Pv h0 hs hd
def f_list{tb:TS}(Pv:O->St->Hp->eL)(h0:Pv 0 Y H)(hl:∀i Y H,i<=ab->Pv i Y H->bI K H a xs)
  (hs:∀i x Y H,xs[i]?=!x->Pv i Y H->g x Y H λY2 H2=>tb #[Pv (i+1),rt,nx,Pv (i+1)] Y2 H2)(hd:∀Y H,Pv ab Y H->nx Y H):Ni (SD K a) g tb nx rt Y H :=
 NJ (D:=#[nx,rt,nx,nx]) Pv h0 hl hs hd
def f_tup{tb:TS}(Pv:O->St->Hp->eL)(h0:Pv 0 Y H)(hl:∀i Y H,i<=ab->Pv i Y H->dD K H a xs)
  (hs:∀i x Y H,xs[i]?=!x->Pv i Y H->g x Y H λY2 H2=>tb #[Pv (i+1),rt,nx,Pv (i+1)] Y2 H2)(hd:∀Y H,Pv ab Y H->nx Y H):Ni (SE K a) g tb nx rt Y H :=
 Td (D:=#[nx,rt,nx,nx]) Pv h0 hl hs hd
def ajJ{gs:Gi}{R:St->Hp->eL}(hS:dD K H a xs)(hn:ab=n)(h:gs xs Y H R):ND K n gs (¬a) Y H R:=#[a,xs,Z,hS,hn,h]
def ahM{gs:Gi}{vs:List V}{R:St->Hp->eL}(h:g v Y H λY' H'=>gs vs Y' H' R):WT g gs (v::vs) Y H R:=#[v,vs,Z,h]
def ajK{R:St->Hp->eL}(h:R Y H):adO [] Y H R:=#[Z,h]
def ahN(hS:bI K H p xs)(h:R (SD K p) H):aeo K R (¬p) H:=#[p,Z,#[xs,hS],h]
def ajL(hS:dD K H p xs)(h:R (SE K p) H):aep K R (¬p) H:=#[p,Z,#[xs,hS],h]
def aph{tb:TS}{m:O}{W:O->St->Hp->eL}(h:tb #[λY' H'=>∃m',m'<m/\W m' Y' H',rt,nx,λY' H'=>∃m',m'<m/\W m' Y' H'] Y H):∃N:St->Hp->eL,(∀Y' H',N Y' H'->∃m',m'<m/\W m' Y' H')/\tb #[N,rt,nx,N] Y H:=#[_,λz z h=>h,h]
def pP{tb:TS}(W:O->St->Hp->eL)(h0:∃m,W m Y H)(hs:∀m Y H,W m Y H->c Y H λb H1=>if b=ag then ∃N:St->Hp->eL,(∀Y' H',N Y' H'->∃m',m'<m/\W m' Y' H')/\tb #[N,rt,nx,N] Y H1 else nx Y H1):Gm c tb #[nx,rt,bk,ct] Y H:=#[W,h0,hs]
def Xb(t u:TS):TS:=Lf t u
def Xc(t u:TS):TS:=Lf t u
def Ol{rest:List Stmt}(h1:PS X st t)(h2:z8 X rest u):z8 X (st::rest)^Xb t u:=gW h1 h2
def oG{rest:List Stmt}(h1:PS X st t)(h2:z8 X rest u):z8 X (st::rest)^Xc t u:=gW h1 h2
def aam(h:t #[λY' H'=>Y'=Y/\H'=H,rt,bk,ct] Y H)(k:u #[nx,rt,bk,ct] Y H):Xb t u #[nx,rt,bk,ct] Y H:=#[_,h,λz z e=>by rw[e.1,e.2];show k]
def aan(h:t #[λY' H'=>Y'=Y/\az H H',rt,bk,ct] Y H)(k:∀H',az H H'->u #[nx,rt,bk,ct] Y H'):Xc t u #[nx,rt,bk,ct] Y H:=#[_,h,λz z e=>by rw[e.1];show k _ e.2]
def mT.same{H0:Hp}(n:mT H p o H')(e:az H0 H)(hp:H0 p=Option.none):az H0 H':=λb v q=>n.keep (aH q hp)^e b v q
def anc(hS:bI K H p xs)(h:A):WZ K "list" (¬p) H/\A:=#[.inl #[Z,_,hS],h]
def aao{r:St}(h:Q v H):eZ 0 (some v::r) H Q:=#[v,Z,h]
def api{r:St}{R:St->Hp->eL}(h:R (some v::r) H):gM 0 v (y::r) H R:=h
def aap{r:St}(h:Q v H):eZ 1 (x0::some v::r) H Q:=#[v,Z,h]
def apj{r:St}{R:St->Hp->eL}(h:R (x0::some v::r) H):gM 1 v (x0::y::r) H R:=h
def ajM{r:St}(h:Q v H):eZ 2 (x0::x1::some v::r) H Q:=#[v,Z,h]
def apk{r:St}{R:St->Hp->eL}(h:R (x0::x1::some v::r) H):gM 2 v (x0::x1::y::r) H R:=h
def ajN{r:St}(h:Q v H):eZ 3 (x0::x1::x2::some v::r) H Q:=#[v,Z,h]
def ajO{r:St}{R:St->Hp->eL}(h:R (x0::x1::x2::some v::r) H):gM 3 v (x0::x1::x2::y::r) H R:=h
def Om{r:St}(h:Q v H):eZ 4 (x0::x1::x2::x3::some v::r) H Q:=#[v,Z,h]
def apl{r:St}{R:St->Hp->eL}(h:R (x0::x1::x2::x3::some v::r) H):gM 4 v (x0::x1::x2::x3::y::r) H R:=h
def ajP{r:St}(h:Q v H):eZ 5 (x0::x1::x2::x3::x4::some v::r) H Q:=#[v,Z,h]
def apm{r:St}{R:St->Hp->eL}(h:R (x0::x1::x2::x3::x4::some v::r) H):gM 5 v (x0::x1::x2::x3::x4::y::r) H R:=h
def ajQ{r:St}(h:Q v H):eZ 6 (x0::x1::x2::x3::x4::x5::some v::r) H Q:=#[v,Z,h]
def apn{r:St}{R:St->Hp->eL}(h:R (x0::x1::x2::x3::x4::x5::some v::r) H):gM 6 v (x0::x1::x2::x3::x4::x5::y::r) H R:=h
def ajR{r:St}(h:Q v H):eZ 7 (x0::x1::x2::x3::x4::x5::x6::some v::r) H Q:=#[v,Z,h]
def apo{r:St}{R:St->Hp->eL}(h:R (x0::x1::x2::x3::x4::x5::x6::some v::r) H):gM 7 v (x0::x1::x2::x3::x4::x5::x6::y::r) H R:=h
def ajS{r:St}(h:Q v H):eZ 8 (x0::x1::x2::x3::x4::x5::x6::x7::some v::r) H Q:=#[v,Z,h]
def apq{r:St}{R:St->Hp->eL}(h:R (x0::x1::x2::x3::x4::x5::x6::x7::some v::r) H):gM 8 v (x0::x1::x2::x3::x4::x5::x6::x7::y::r) H R:=h
def ajT{x8:Option V}{r:St}(h:Q v H):eZ 9 (x0::x1::x2::x3::x4::x5::x6::x7::x8::some v::r) H Q:=#[v,Z,h]
def apr{x8:Option V}{r:St}{R:St->Hp->eL}(h:R (x0::x1::x2::x3::x4::x5::x6::x7::x8::some v::r) H):gM 9 v (x0::x1::x2::x3::x4::x5::x6::x7::x8::y::r) H R:=h
end
end L2
namespace ZP
open PySem
variable {Q:J->ap->eL}
def Src(t:cf)(h:cv)(a:ae)(xs:Array J):Prop:=match t with
 | true=>h.IsTuple a xs
 | false=>h.IsList a xs
def uL(t:cf)(h:cv)(it a:ae)(i:O):Prop:=match t with
 | true=>h.IsTupleIter it a i
 | false=>h.IsListIter it a i
noncomputable def rY(t:cf)(a:ae):Obj:=match t with
 | true=>{ cls:=.type "tuple_iterator", data:=.fields #v[¬a,.int 0 0] }
 | false=>{ cls:=.type "list_iterator", data:=.fields #v[¬a,.int 0 0] }
section
variable {t:cf}{xs:Array J}
def Src.at(x:Src t h a xs)(k:∀o,h.get? a=!o->h'.get? a=!o):Src t h' a xs:=by cases t;let#[o,e,r]:=x;show#[o,k o e,r];let#[o,e,r]:=x;show#[o,k o e,r]
def Src.here(x:Src t h a xs):∃o,h.get? a=!o:=by cases t;let#[o,e,r]:=x;show#[o,e];let#[o,e,r]:=x;show#[o,e]
theorem Src.push(x:Src t h a xs)(o:du):Src t (h.push o) a xs:=x.at λz e=>eS _ e
def uL.at(x:uL t h it a i)(k:∀o,h.get? it=!o->h'.get? it=!o):uL t h' it a i:=by cases t;let#[o,e,r]:=x;show#[o,k o e,r];let#[o,e,r]:=x;show#[o,k o e,r]
def uL.here(x:uL t h it a i):∃o,h.get? it=!o/\∃vs,o.data=.fields vs:=by cases t;let#[o,e,c,d]:=x;show#[o,e,_,d];let#[o,e,c,d]:=x;show#[o,e,_,d]
def uL.new(e:h.get? it=!rY t a):uL t h it a 0:=by cases t;show#[_,e,Z,Z];show#[_,e,Z,Z]
end
section
variable {t:cf}{xs:Array J}
def Jk(x:Src t am a xs)(q:Q (¬B) { s with heap:=s.heap.push (rY t a) }):wpAny (model prog w) A (pyIter^¬a) Q E s:=by cases t;show wpAny_pyIter_list x q;show wpAny_pyIter_tuple x q
def alive{T:ae}{o:du}{Q:Option du->ap->eL}(ho:s.heap.get? T=!o)(h:Q (!o) s):wpAny (model prog w) A (loadIfAlive T) Q E s:=by
 let h':Q (s.heap.get? T) s:=by rw[ho];show h
 show λz z z=>h'
def next_item{x:J}(WP:uL t am it a i)(hs:Src t am a xs)(hx:xs[i]?=!x)
  (hQ:∀h',uL t h' it a (i+1)->Heap.SameBut it am h'->Q x { s with heap:=h' }):wpAny (model prog w) A (Builtin.SmallTypes.nextOf^¬it) Q E s:=by cases t;show wpAny_nextOf_list_item WP hs hx hQ;let WP:s.heap.IsTupleIter it a i:=WP;let#[o,ho,hc,hd]:=id WP;let#[ol,hol,_,nl,hdl]:=id hs;unfold Builtin.SmallTypes.nextOf;show au^wpAny_callSpecial?_slot (name:=Str.ofString "__next__") WP.typeIs BB^wpAny_call_entry BB WP.typeIs F.entry_tuple_iterator_next ?_^F.args_tuple_iterator_next_1 _;change wpAny _ _ (field (¬it) 0 >>= _) _ _ s;show au^wpAny_field ho hd (x:=¬a) Z ?_;change wpAny _ _ (if(Value.ref a==Value.none)=ag then _ else _) _ _ s;rw[if_neg^show Not ((Value.ref a==Value.none)=ag) from lI];change wpAny _ _ (field (¬it) 1 >>= _) _ _ s;show au^wpAny_field ho hd (x:=.int i 0) Z ?_;change wpAny _ _ (seqItems? (¬a) >>= _) _ _ s;show au^wpAny_seqItems hol hdl ?_;erw[lg,hx];show au^wpAny_setField ho hd (by simp)^aW #[x,Z,aW^hQ _ ?_ (k9 ..)];show#[_,fz _ ho^jM^eT hd _,(mP ..).trans hc,by rw[eT hd];simp[rawInt]]
def next_end(hh:A.handled=aw)(WP:uL t am it a i)(hs:Src t am a xs)(hx:xs[i]?=aw)
  (hE:∀h' e,Heap.ExtBut it am h'->(∃o,h'.get? e=!o/\o.cls=.type "StopIteration")->E (¬e) { s with heap:=h' }):wpAny (model prog w) A (Builtin.SmallTypes.nextOf^¬it) Q E s:=by
 cases t;show wpAny_nextOf_list_end hh WP hs hx hE
 .have WP:s.heap.IsTupleIter it a i:=WP;let#[o,ho,hc,hd]:=id WP;let#[ol,hol,_,nl,hdl]:=id hs;unfold Builtin.SmallTypes.nextOf;show au^wpAny_callSpecial?_slot (name:=Str.ofString "__next__") WP.typeIs BB^wpAny_call_entry BB WP.typeIs F.entry_tuple_iterator_next ?_^F.args_tuple_iterator_next_1 _;change wpAny _ _ (field (¬it) 0 >>= _) _ _ s;show au^wpAny_field ho hd (x:=¬a) Z ?_;change wpAny _ _ (if(Value.ref a==Value.none)=ag then _ else _) _ _ s;rw[if_neg^show Not ((Value.ref a==Value.none)=ag) from lI];change wpAny _ _ (field (¬it) 1 >>= _) _ _ s;show au^wpAny_field ho hd (x:=.int i 0) Z ?_;change wpAny _ _ (seqItems? (¬a) >>= _) _ _ s;show au^wpAny_seqItems hol hdl ?_;erw[lg,hx];show au^wpAny_rule^au^wpAny_setField ho hd (by simp) ?_;change wpAny _ _ (newExc (.type "StopIteration") [] >>= _) _ _ _;show au ?_;erw[newExc,newTuple];show au (wpAny_newObj_type ?_^by size_fits);show au (m:=firstArgMember _ _)^wpAny_of_eq (a:=Value.none) (by first|rfl|(erw[firstArgMember];rfl)) ?_;show wpAny_newObj_type ?_ (by size_fits);erw[raiseNew];show au^wpAny_handled ?_
  first|rw[show A.in1.handled=aw from hh]|rw[hh]
  show au^aW^wpAny_throw ?_;show hE _ _ (((k9 ..).extBut.push _).push _) #[_,jB _ rfl,Z]
end
abbrev ZO(h:cv)(z TI TO:ae)(f0:J)(f:cf):eL :=
 h.get? z=!{ cls:=.type "zip", dict:=none,data:=.fields #v[f0,.bool f,.bool bj,¬TI,¬TO],slots:=#[] }
structure Zs (t1 t2:Bool) (TI TO i1 i2 l1 l2:Addr) (i:Nat) (h:Heap):Prop where
 ti:IsPair h TI (¬i1)^¬i2
 to:∃a b,IsPair h TO a b
 a1:uL t1 h i1 l1 i
 a2:uL t2 h i2 l2 i
def Zs.keep{TI TO i1 i2:ae}(x:Zs t1 t2 TI TO i1 i2 l1 l2 i h)(k:∀b,b=TI\/b=TO\/b=i1\/b=i2->∀o,h.get? b=!o->h'.get? b=!o):Zs t1 t2 TI TO i1 i2 l1 l2 i h' :=
 #[k _ (.inl Z) _ x.ti,let⟨a,b,e⟩:=x.to;#[a,b,k _ (.inr^.inl Z) _ e],x.a1.at λo e=>k _ (.inr^.inr^.inl Z) o e,x.a2.at λo e=>k _ (.inr^.inr^.inr Z) o e]
def Rest(z TO i1 i2:ae)(h h':cv):=∀c o,c≠z->c≠TO->c≠i1->c≠i2->h.get? c=!o->h'.get? c=!o
section
variable {z TI TO i1 i2:ae}{xs:Array J}{x y:J}
def Oo(D:ZipApart z TI TO i1 i2 l1 l2)(hz:ZO am z TI TO .none false)(st:Zs t1 t2 TI TO i1 i2 l1 l2 i am)(NE:Src t1 am l1 xs)(Pm:Src t2 am l2 ys)(hx:xs[i]?=!x)(hy:ys[i]?=!y)
  (hQ:∀h',ZO h' z TI TO (rawInt B) bj->Zs t1 t2 TI TO i1 i2 l1 l2 (i+1) h'->IsPair h' B x y->dC=B+1->Rest z TO i1 i2 am h'->Q (¬B) { s with heap:=h' }):
  wpAny (model prog w) A (Builtin.«zip.__next__» #[[¬z],[]]) (λfin s'=>∃v,fin=.done^.ret v/\Q v s') E s:=by
 let#[hTI,#[a,b,hTO],h1,h2]:=st;change wpAny _ _ (field (¬z) 2 >>= _) _ _ _;show au^wpAny_field hz Z (x:=.bool bj) Z ?_;change wpAny _ _ (field (¬z) 3 >>= _) _ _ _;show au^wpAny_field hz Z (x:=¬TI) Z ?_;show au^wpAny_seqItems hTI Z ?_;change wpAny _ _ (Builtin.SmallTypes.ownedTupleIsFree (¬z) >>= _) _ _ _;show au ?_;unfold Builtin.SmallTypes.ownedTupleIsFree;show au^wpAny_field hz Z (x:=.none) Z^aW ?_;erw[if_true];show au^wpAny_rule ?_;show au^wpAny_field hz Z (x:=¬TO) Z ?_;show au (wpAny_setField_rec hz (by simp) λh₁ Xd SZ=>?_);replace Xd:ZO h₁ z TI TO .ellipsis false:=Xd;show au ?_;erw[List.zipIdx_cons,List.zipIdx_nil,qz,List.forIn_nil];show au^au^wpAny_onRaise ?_;change wpAny _ _ (Builtin.SmallTypes.nextOf (¬i1) >>= _) _ _ _;show au (next_item (h1.at λo e=>SZ.extBut _ o D.i1z e) (NE.at λo e=>SZ.extBut _ o D.l1z e) hx λh₂ h1₂ OK=>aW ?_);let Oq:IsPair h₂ TO a b:=OK.extBut _ _ D.TOi1^SZ.extBut _ _ D.TOz hTO;show au^wpAny_seqItems Oq Z ?_;show au (wpAny_updateSeq_pair Oq λh₃ TL F9=>?_);replace TL:IsPair h₃ TO x b:=TL;show au^wpAny_letGo^aW ?_;show au^au^wpAny_onRaise ?_;change wpAny _ _ (Builtin.SmallTypes.nextOf (¬i2) >>= _) _ _ _;show au (next_item (h2.at λo e=>F9.extBut _ o D.TOi2.symm^OK.extBut _ o D.i12.symm^SZ.extBut _ o D.i2z e)
  (Pm.at λo e=>F9.extBut _ o D.l2TO^OK.extBut _ o D.l2i1^SZ.extBut _ o D.l2z e) hy λh₄ h2₄ Xe=>aW ?_)
 let aet:IsPair h₄ TO x b:=Xe.extBut _ _ D.TOi2 TL;show au^wpAny_seqItems aet Z ?_;show au (wpAny_updateSeq_pair aet λh₅ TM Xf=>?_);replace TM:IsPair h₅ TO x y:=TM;show au^wpAny_letGo^aW^aW ?_;show au^wpAny_seqItems TM Z ?_;show au^wpAny_newTuple ?_;let hsz:h₅.objs.size=s.heap.objs.size:=by rw[Xf.1,Xe.1,F9.1,OK.1,SZ.1]
 let hz₅:ZO h₅ z TI TO .ellipsis false:=Xf.extBut _ _ D.TOz.symm^Xe.extBut _ _ D.i2z.symm^F9.extBut _ _ D.TOz.symm^OK.extBut _ _ D.i1z.symm Xd;let hk₅:Rest z TO i1 i2 am h₅:=λc o c1 c2 c3 c4 e=>Xf.extBut _ _ c2^Xe.extBut _ _ c4^F9.extBut _ _ c2^OK.extBut _ _ c3^SZ.extBut _ _ c1 e;let h1₅:uL t1 h₅ i1 l1 (i+1):=h1₂.at λo e=>Xf.extBut _ o D.TOi1.symm^Xe.extBut _ o D.i12^F9.extBut _ o D.TOi1.symm e;let h2₅:uL t2 h₅ i2 l2 (i+1):=h2₄.at λo e=>Xf.extBut _ o D.TOi2.symm e;let aeu:z<h₅.objs.size:=aO hz₅;change wpAny _ _ (Builtin.SmallTypes.ownedTupleHandOut (¬z) (¬h₅.objs.size) >>= _) _ _ _;show au ?_;unfold Builtin.SmallTypes.ownedTupleHandOut;let hz₆:ZO (h₅.push { cls:=.type "tuple", data:=.seq #v[x,y] }) z TI TO .ellipsis false:=eS _ hz₅;show au (wpAny_setField_rec hz₆ (by simp) λh₇ hz₇ hs₇=>?_);replace hz₇:ZO h₇ z TI TO (rawInt h₅.objs.size) false:=hz₇;show wpAny_setField_rec hz₇ (by simp) λh₈ hz₈ hs₈=>?_;replace hz₈:ZO h₈ z TI TO (rawInt h₅.objs.size) false:=hz₈;let up:∀c o,c≠z->h₅.get? c=!o->h₈.get? c=!o:=λc o c1 e=>hs₈.extBut _ _ c1^hs₇.extBut _ _ c1^eS _ e;let hT₈:IsPair h₈ h₅.objs.size x y:=hs₈.extBut _ _ (jL aeu)^hs₇.extBut _ _ (jL aeu)^jB _ rfl;let hz8:h₈.objs.size=h₅.objs.size+1:=by rw[hs₈.1,hs₇.1,fJ]
 rw[hsz] at hz₈ hT₈ hz8;show aW #[_,Z,?_];change Q (¬h₅.objs.size) _;rw[hsz];show hQ h₈ hz₈ #[up _ _ D.TIz^hk₅ _ _ D.TIz D.TITO D.TIi1 D.TIi2 hTI,#[x,y,up _ _ D.TOz TM],h1₅.at λo e=>up _ o D.i1z e,h2₅.at λo e=>up _ o D.i2z e] hT₈ hz8 λc o c1 c2 c3 c4 e=>up c o c1^hk₅ c o c1 c2 c3 c4 e
def TN{f:cf}{f0:J}{Q:Fin->ap->eL}(hf:f0=.none\/∃(T:ae)(oT:du),f0=rawInt T/\s.heap.get? T=!oT)(hh:A.handled=aw)(D:ZipApart z TI TO i1 i2 l1 l2)(hz:ZO am z TI TO f0 f)(st:Zs t1 t2 TI TO i1 i2 l1 l2 i am)(NE:Src t1 am l1 xs)(Pm:Src t2 am l2 ys)
  (hend:xs[i]?=aw\/ys[i]?=aw)
  (hE:∀h' e,Rest z TO i1 i2 am h'->(∃o,h'.get? e=!o/\o.cls=.type "StopIteration")->E (¬e) { s with heap:=h' }):
  wpAny (model prog w) A (Builtin.«zip.__next__» #[[¬z],[]]) Q E s:=by
 let#[hTI,#[a,b,hTO],h1,h2]:=st;change wpAny _ _ (field (¬z) 2 >>= _) _ _ _;show au^wpAny_field hz Z (x:=.bool bj) Z ?_;change wpAny _ _ (field (¬z) 3 >>= _) _ _ _;show au^wpAny_field hz Z (x:=¬TI) Z ?_;show au^wpAny_seqItems hTI Z ?_;change wpAny _ _ (Builtin.SmallTypes.ownedTupleIsFree (¬z) >>= _) _ _ _;show au ?_;unfold Builtin.SmallTypes.ownedTupleIsFree;rcases hf with rfl|⟨T,oT,rfl,hT⟩
 .show au^wpAny_field hz Z (x:=.none) Z^aW ?_;erw[if_true];show au^wpAny_rule ?_;show au^wpAny_field hz Z (x:=¬TO) Z ?_;show au (wpAny_setField_rec hz (by simp) λh₁ Xd SZ=>?_);replace Xd:ZO h₁ z TI TO .ellipsis f:=Xd;show au ?_;erw[List.zipIdx_cons,List.zipIdx_nil,qz,List.forIn_nil];show au^au^wpAny_onRaise ?_;change wpAny _ _ (Builtin.SmallTypes.nextOf (¬i1) >>= _) _ _ _;cases hx:xs[i]? with
  | none =>
   show au (next_end hh (h1.at λo e=>SZ.extBut _ o D.i1z e) (NE.at λo e=>SZ.extBut _ o D.l1z e) hx λh₂ e OK he=>?_);let#[oe,hoe,hce]:=he;let hz₂:ZO h₂ z TI TO .ellipsis f:=OK _ _ D.i1z.symm Xd;let hez:e≠z:=λx=>by subst x;rw[hz₂] at hoe;cases hoe;simp at hce
   show wpAny_setField_rec hz₂ (by simp) λh₃ q F9=>hE h₃ e (λc o c1 q c3 q x=>F9.extBut _ _ c1^OK _ _ c3^SZ.extBut _ _ c1 x) #[oe,F9.extBut _ _ hez hoe,hce]
  | some x =>
   let hy:ys[i]?=none:=by rcases hend with h|h;rw[hx] at h;cases h;show h
   show au (next_item (h1.at λo e=>SZ.extBut _ o D.i1z e) (NE.at λo e=>SZ.extBut _ o D.l1z e) hx λh₂ h1₂ OK=>aW ?_);let Oq:IsPair h₂ TO a b:=OK.extBut _ _ D.TOi1^SZ.extBut _ _ D.TOz hTO;show au^wpAny_seqItems Oq Z ?_;show au (wpAny_updateSeq_pair Oq λh₃ TL F9=>?_);show au^wpAny_letGo^aW ?_;show au^au^wpAny_onRaise ?_;change wpAny _ _ (Builtin.SmallTypes.nextOf (¬i2) >>= _) _ _ _;show au (next_end hh (h2.at λo e=>F9.extBut _ o D.TOi2.symm^OK.extBut _ o D.i12.symm^SZ.extBut _ o D.i2z e)
    (Pm.at λo e=>F9.extBut _ o D.l2TO^OK.extBut _ o D.l2i1^SZ.extBut _ o D.l2z e) hy λh₄ e Xe he=>?_)
   let#[oe,hoe,hce]:=he;let hz₄:ZO h₄ z TI TO .ellipsis f:=Xe _ _ D.i2z.symm^F9.extBut _ _ D.TOz.symm^OK.extBut _ _ D.i1z.symm Xd;let hez:e≠z:=λx=>by subst x;rw[hz₄] at hoe;cases hoe;simp at hce
   show wpAny_setField_rec hz₄ (by simp) λh₅ q Xf=>hE h₅ e (λc o c1 c2 c3 c4 x=>Xf.extBut _ _ c1^Xe _ _ c4^F9.extBut _ _ c2^OK.extBut _ _ c3^SZ.extBut _ _ c1 x) #[oe,Xf.extBut _ _ hez hoe,hce]
 .show au^wpAny_field hz Z (x:=rawInt T) Z ?_;change wpAny _ _ (loadIfAlive ((T:M).toNat) >>= _) _ _ _;rw[lg];show au^alive hT ?_;erw[Option.isNone_some,cK,if_false];show au^wpAny_field hz Z (x:=.bool f) Z ?_;cases f
  case' false =>
   rw[if_pos ()];show au (wpAny_setField_rec hz (by simp) λh₁ q SZ=>aW ?_)
  case' true =>
   rw[if_neg ()];show aW ?_;let SZ:Heap.SameBut z am s.heap:=Heap.SameBut.refl ..
  all_goals
   rw[if_neg ()];show au ?_;simp only[<- vL,qz,List.forIn_nil];show au^au^wpAny_holding ?_;change wpAny _ _ (Builtin.SmallTypes.nextOf (¬i1) >>= _) _ _ _;cases hx:xs[i]? with
   | none=>show au (next_end hh (h1.at λo e=>SZ.extBut _ o D.i1z e) (NE.at λo e=>SZ.extBut _ o D.l1z e) hx λh₂ e OK he=>hE h₂ e (λc o c1 q c3 q x=>OK _ _ c3^SZ.extBut _ _ c1 x) he)
   | some x =>
    let hy:ys[i]?=none:=by rcases hend with h|h;rw[hx] at h;cases h;show h
    show au (next_item (h1.at λo e=>SZ.extBut _ o D.i1z e) (NE.at λo e=>SZ.extBut _ o D.l1z e) hx λh₂ h1₂ OK=>aW ?_);show aW^au^au^wpAny_holding ?_;change wpAny _ _ (Builtin.SmallTypes.nextOf (¬i2) >>= _) _ _ _;show au (next_end hh (h2.at λo e=>OK.extBut _ o D.i12.symm^SZ.extBut _ o D.i2z e) (Pm.at λo e=>OK.extBut _ o D.l2i1^SZ.extBut _ o D.l2z e) hy λh₃ e F9 he=>hE h₃ e (λc o c1 q c3 c4 x=>F9 _ _ c4^OK.extBut _ _ c3^SZ.extBut _ _ c1 x) he)
def TQ{Q:Option J->ap->eL}{Q':J->ap->eL}(hT:s.TypeIs (¬z) "zip")(h:wpAny (model prog w) A.in1 (Builtin.«zip.__next__» #[[¬z],[]]) (λfin s'=>∃v,fin=.done^.ret v/\Q' v s') (λj j=>False) s)(q:∀v s',Q' v s'->Q (!v) s'):wpAny (model prog w) A (pyNext^¬z) Q E s:=by unfold pyNext;show au^wpAny_attempt^wpAny_callSpecial?_slot (name:=Str.ofString "__next__") hT F.slot_zip_next^wpAny_call_entry F.slot_zip_next hT F.entry_zip_next (wpAny_mono h (λfin s' h'=>?_) λj j h'=>h'.elim)^F.args_zip_next_1 _;let#[v,Z,h']:=h';show#[v,Z,aW^q v s' h']
def aar{Q:Option J->ap->eL}(hT:s.TypeIs (¬z) "zip")(h:wpAny (model prog w) A.in1 (Builtin.«zip.__next__» #[[¬z],[]]) (λj j=>False) (λe s'=>∃a o,e=¬a/\s'.heap.get? a=!o/\o.cls=.type "StopIteration" /\ Q aw s') s):wpAny (model prog w) A (pyNext^¬z) Q E s:=by unfold pyNext;show au^wpAny_attempt^wpAny_callSpecial?_slot (name:=Str.ofString "__next__") hT F.slot_zip_next^wpAny_call_entry F.slot_zip_next hT F.entry_zip_next (wpAny_mono h (λj j h'=>h'.elim) λe s' h'=>?_)^F.args_zip_next_1 _;let#[a,o,Z,ho,hc,q]:=h';show au^wpAny_isInstance (T := "StopIteration") (b:=true) #[o,ho,hc] isSubtype_stop ?_;show aW q
end
section
variable {xs:Array J}
abbrev zH1(t1:cf)(h:cv)(l1:ae):Heap:=h.push^rY t1 l1
noncomputable abbrev zH2(t1 t2:cf)(h:cv)(l1 l2:ae):Heap:=(zH1 t1 h l1).push^rY t2 l2
noncomputable abbrev zH3(t1 t2:cf)(h:cv)(l1 l2:ae):Heap:=(zH2 t1 t2 h l1 l2).push { cls:=.type "tuple", data:=.seq #v[¬dE,¬(zH1 t1 h l1).objs.size] }
noncomputable abbrev zH4(t1 t2:cf)(h:cv)(l1 l2:ae):Heap:=(zH3 t1 t2 h l1 l2).push { cls:=.type "tuple", data:=.seq #v[.none,.none] }
noncomputable abbrev zH5(t1 t2:cf)(h:cv)(l1 l2:ae):Heap:=(zH4 t1 t2 h l1 l2).push { cls:=.type "zip", data:=.fields #v[.none,.bool bj,.bool bj,¬(zH2 t1 t2 h l1 l2).objs.size,¬(zH3 t1 t2 h l1 l2).objs.size] }
def Ln(t1 t2:cf)(l1 l2:ae)(xs ys:Array J):
  Meets (Builtin.«zip.__new__» #[[.type "zip", ¬l1,¬l2],[]]) (λz R s=>Src t1 am l1 xs/\Src t2 am l2 ys /\
   R (.ok^.ret^¬(zH4 t1 t2 am l1 l2).objs.size) { s with heap:=zH5 t1 t2 am l1 l2 }) :=
 .of_wp λprog w A R s h=>by
  let#[hp,g,d,tk,os]:=s;let#[NE,Pm,h]:=h;let hsub:=sub_zip;let hL1:Src t1 (Shared.heap #[hp,g,d,tk,os]) l1 xs:=NE;let Xg:Src t2 (Shared.heap #[hp.push^rY t1 l1,g,d,tk,os]) l2 ys:=Src.push Pm _
  wp_walk using Jk hL1,Jk Xg
  show#[_,Z,h]
def Ot(NE:Src t1 am l1 xs)(Pm:Src t2 am l2 ys)
  (h:∀h',ZO h' (B+4) (B+2) (B+3) .none false->Zs t1 t2 (B+2) (B+3) B (B+1) l1 l2 0 h' ->
   dC=B+5->(∀c o,s.heap.get? c=!o->h'.get? c=!o)->Q (¬(B+4)) { s with heap:=h' }):
  wpAny (model prog w) A (call (.type "zip") [¬l1,¬l2]) Q E s:=by
 show callType_new F.called_zip () (F.typeCall_zip_2 _ _) (F.newCall_zip_2 _ _) (λobj=>F.args_object_init_3 obj _ _) F.entry_zip_new
  (Ln t1 t2 l1 l2 xs ys) #[NE,Pm,?_]
 let z1:(zH1 t1 am l1).objs.size=B+1:=fJ ..;let z2:(zH2 t1 t2 am l1 l2).objs.size=B+2:=by rw[fJ,z1]
 let z3:(zH3 t1 t2 am l1 l2).objs.size=B+3:=by rw[fJ,z2]
 let z4:(zH4 t1 t2 am l1 l2).objs.size=B+4:=by rw[fJ,z3]
 let z5:(zH5 t1 t2 am l1 l2).objs.size=B+5:=by rw[fJ,z4]
 let g5:(zH5 t1 t2 am l1 l2).get? (zH4 t1 t2 am l1 l2).objs.size=!_:=jB _ rfl;let g4:(zH5 t1 t2 am l1 l2).get? (zH3 t1 t2 am l1 l2).objs.size=!_:=eS _^jB _ rfl;let g3:(zH5 t1 t2 am l1 l2).get? (zH2 t1 t2 am l1 l2).objs.size=!_:=eS _^eS _^jB _ rfl;let r2:(rY t2 l2).isFreed=false:=by cases t2<;>rfl
 let r1:(rY t1 l1).isFreed=false:=by cases t1<;>rfl
 let g2:(zH5 t1 t2 am l1 l2).get? (zH1 t1 am l1).objs.size=!rY t2 l2:=eS _^eS _^eS _^jB _ r2;let g1:(zH5 t1 t2 am l1 l2).get? B=!rY t1 l1:=eS _^eS _^eS _^eS _^jB _ r1;change _/\_;rw[z2,z3,z4] at g5;rw[z1,z2] at g3;rw[z3] at g4;rw[z1] at g2;rw[z4];show#[#[_,g5,Z],h _ g5 #[g3,#[_,_,g4],uL.new g1,uL.new g2] z5 λc o x =>
  eS _^eS _^eS _^eS _^eS _ x]
end
section
variable {St:cv->eL}
end
end ZP
def BT.aev:PySem.bootBuiltins "zip" = !.type "zip":=()
namespace L2
variable {p:ae}{R:Option M->Hp->eL}{i:M}
section
variable {Y:St}
def Inv.rZ(I:Inv X X1 Y H s)(k:∀b o,b∉fp->s.heap.get? b=!o->h'.get? b=!o)(hf:∀b∈fp,lD X X1 H b):Inv X X1 Y H { s with heap:=h',toks:=t' }:=by
 let nit:∀b u,H b=!u->b∉fp:=λb u e z=>by rw[(hf b z).1] at e;cases e
 show I.step (g':=s.gens) (d':=s.drawn) (ch:=fp) (λb hb=>?_) (λb o j j hc e j=>k b o hc e) (λb o j j hc e j=>#[o.slots,k b o hc e]) (λj j j j n=>n)
  (λb o hc e=>#[o,k b o hc e]) (λj j e=>e) (λj j j e=>e) (λb ps e=>#[#[],by rw[e];simp]) (λm hm=>?_) (λb u e=>?_) I.bare
 .show#[(hf b hb).2.2.2.1,(hf b hb).2.1,(hf b hb).2.2.2.2.1,(hf b hb).2.2.2.2.2]
 .let#[o,es,ep,ho,r]:=hm;show#[o,es,ep,k _ o (λz=>(hf _ z).2.1 Z) ho,r]
 .show(I.hok b u e).stay (λc v hc q=>k c v ?_ q) (λj q=>q) λj j q=>q;rcases hc with z|z;rw[z];show nit b u e;show nit c _ z
def Lo(t:cf)(K:aC)(H:Hp)(a:ae)(xs:List V):Prop:=match t with
 | true=>dD K H a xs
 | false=>bI K H a xs
def Inv.src{t:cf}(I:Inv X X1 Y H s)(h:Lo t dq H a xs):∃XL:List J,Vals xs XL/\ZP.Src t am a XL.toArray/\ab<=sizeLine:=by cases t;let#[XL,r,pl,z]:=I.list h;show#[XL,r,pl.isList,z];let#[XL,r,pl,z]:=I.tuple h;show#[XL,r,pl,z]
theorem Ou:lE X (binaryOp .FloorDiv) (rI (λz j=>0<j/\j<18446744073709551616) λi j=>.int (i / j)):=ZD λi j z z z z z hc q=>by let h1:(0:M)<j:=hc.1;let h2:j<18446744073709551616:=hc.2;show floordiv_int ∅ (by rw[Int.fdiv_eq_ediv_of_nonneg i ∅];show q) (.inl^PyProof.noPylong_of_log2 ?_);let h3:j.natAbs.log2<64:=(Nat.log2_lt ∅).mpr ∅;lia
end
section
variable {nx bk ct:St->Hp->eL}{Y:St}{t u:TS}
def aau(h:t #[u #[nx,rt,bk,ct],rt,bk,ct] Y H):Lf t u #[nx,rt,bk,ct] Y H:=#[_,h,λz z h=>h]
def Xh(R:Option M->Hp->eL):V->Hp->Prop:=λx H=>∃i,x=.int i/\R (!i) H
def Ov(h:te Y H^Xh R):nJ te Y H R:=h
def Jl(h:R (!i) H):Xh R (.int i) H:=#[i,Z,h]
def DI(h:R aw H):gU Y H R:=h
end
def DJ{α:Type}(P:α->eL):List α->eL
 | []=>True
 | a::l=>P a/\DJ P l
theorem DJ.mem{α:Type}{P:α->eL}:∀{l:List α},DJ P l->∀a∈l,P a
 | [],_,a,h=>nomatch h
 | b::l,hl,a,h=>by rcases aP.mp h with e|h;rw[e];show hl.1;show DJ.mem hl.2 a h
theorem bQ.caps{fr:List bc}{nm:List bc}(calm:X.calm=ag)(clos:closureFor scope ax=pure cl)(cell:∀y∈scope.names,y.2≠.cell)(kind:scope.kind=.function)
  (names:∀y∈scope.names,y.2=.local->scope.names.lookup y.1=!.local)(loc:scope.names.lookup x=!.local)(nd:(x::fr).Nodup)
  (hcl:DJ (λp=>X.env.cells.lookup p.1=!p.2) cl)(hnm:cl.map (·.1)=nm)(Re:∀z∈scope.names,z.2=.free->z.1∈nm)(XB:fr.length=ix.length)
  (hfx:DJ (λp=>X.N[p.2]?=!p.1/\X.env.kindOf p.1=!.cell/\(relabel scope ax).names.lookup p.1=!.cell)^fr.zip ix):bQ X scope cl x fr ix where
 calm:=calm
 clos:=clos
 cell:=cell
 kind:=kind
 names:=names
 loc:=loc
 nd:=nd
 cl1:=λy c h=>hcl.mem (y,c) (kO h)
 cl2:=λy h=>by
  let mem:∀{k:NameKind},(relabel scope ax).names.lookup y=!k->∃z∈scope.names,(if(z.2==.free&&X.env.scope.kind==.function&&X.env.kindOf z.1==!.cell) then(z.1,NameKind.cell) else(z.1,z.2))=(y,k):=λ{k} e=>by let q:=kO e;let#[z,hz,e]:=aQ.mp q;show#[z,hz,e]
  let key:∃z∈scope.names,z.1=y/\z.2=.free:=by
   rcases h with h|h
   .let#[z,hz,e]:=mem h;show#[z,hz,?_];by_cases hf:(z.2==NameKind.free)=ag
    .show#[?_,by cases hk:z.2<;>rw[hk] at hf<;>first|rfl|cases hf];split at e;show congrArg Prod.fst e;show congrArg Prod.fst e
    .exfalso;rw[Bool.not_eq_true] at hf;rw[hf,xT,xT,if_neg lI] at e;show cell z hz^congrArg Prod.snd e
   .let#[z,hz,e]:=mem h;show#[z,hz,?_];split at e;show absurd (congrArg Prod.snd e) (by intro q;cases q);show#[congrArg Prod.fst e,congrArg Prod.snd e]
  let#[z,hz,Z,hk]:=key;let hm:=Re z hz hk;rw[<- hnm] at hm;let#[p,hp,e]:=aQ.mp hm;cases q:cl.lookup z.1 with
  | some c=>show#[c,Z]
  | none =>
   exfalso;have:=List.lookup_eq_none_iff.mp q p hp;rw[e] at this;simp at this
 fx:=λj y h=>by
  let hj:j<fr.length:=(gq h).1;let hi:ix[j]?=!(ix[j]'∅):=by simp
  let hz:(y,ix[j]'∅)∈fr.zip ix:=jd (i:=j) (by rw[uE];show#[h,hi]);let#[a,b,c]:=hfx.mem _ hz;show#[_,hi,a,.inl b,.inl c]
 len:=XB
section
variable {nx bk ct:St->Hp->eL}{Y:St}{P:cf->Hp->eL}{t u:TS}
def TR:R2:=λx y H Q=>y=.cB/\Q (.bl (decide (x=.cB))) H
def Ow:R2:=λx y H Q=>y=.cB/\Q (.bl (not (decide (x=.cB)))) H
def B3:lE X (compareOp .Is) TR:=ZG
def yD:lE X (compareOp .IsNot) Ow:=Tg
def ajZ(h:Q (.bl ag) H):TR .cB .cB H Q:=#[Z,h]
def aj0(h:Q (.bl bj) H):TR (¬a) .cB H Q:=#[Z,h]
def aj1(h:Q (.bl bj) H):TR (.int i) .cB H Q:=#[Z,h]
def ahU(h:Q (.bl bj) H):Ow .cB .cB H Q:=#[Z,h]
def ahV(h:Q (.bl ag) H):Ow (.int i) .cB H Q:=#[Z,h]
def Ox(K:aC):List V->Hp->VK->Prop:=λxs H Q=>∃p ys,xs=[¬p]/\((bI K H p ys/\∀l,H l=aw->Q (¬l)^upd H l^.tup ys)\/(dD K H p ys/\Q (¬p) H))
def iY:ef X (.type "tuple")^Ox X.K:=Af
def aj2{ys:List V}(hS:bI K H p ys)(h:∀l H',gX H l (.tup ys) H'->Q (¬l) H'):Ox K [¬p] H Q:=#[p,ys,Z,.inl #[hS,λl hl=>h l _ #[hl,Z]]]
def aj3{gs:Gi}{R:St->Hp->eL}(hS:bI K H a xs)(hn:ab=n)(h:gs xs Y H R):aef K n gs (¬a) Y H R:=#[a,xs,Z,hS,hn,h]
def Xi{zs:List V}(h1:H l=!.lst xs)(h2:H b=!.lst zs)(hz:ab+zs.length<=1000000)(h:∀p H',gX H p (.lst (xs++zs)) H'->Q (¬p) H'):Dw (¬l) (¬b) H Q :=
 #[l,b,xs,zs,Z,Z,h1,h2,bP hz (),λp hp=>h p _ #[hp,Z]]
def Xj:R2:=λx y H Q=>∃i j,x=.str i/\y=.str j/\i.length+j.length<=sizeLine/\Q (.str (i++j)) H
def TU:lE X (binaryOp .Add) Xj:=Gv
def aav{i j:bc}(hz:i.length+j.length<=1000000)(h:Q (.str (i++j)) H):Xj (.str i) (.str j) H Q:=#[i,j,Z,Z,bP hz (),h]
def aaw{sep:bc}{ys:List bc}(hS:bI K H p^ys.map V.str)(h1:sep.length<=16)(h2:(ys.map (·.length)).sum+ce<=1048576)(h:Q (.str^Txt.join sep ys) H):rJoin K (.str sep) [¬p] H Q:=#[sep,p,ys,Z,Z,hS,h1,h2,h]
def ank{z:bc}{A:eL}(h:A):WZ K "str" (.str z) H/\A:=#[Z,h]
def aew{zs:List V}(h1:H l=!.lst xs)(h2:H b=!.lst zs)(hz:ab+zs.length<=16000000)(h:∀H',mT H l (.lst (xs++zs)) H'->Q .cB H'):Ja (¬l) [¬b] H Q :=
 #[l,b,xs,zs,Z,Z,h1,h2,bP hz (),h _ rfl]
def Xk(K:aC)(Q:VK):VK:=λx H=>∃a xs,x=¬a/\(bI K H a xs\/dD K H a xs)/\∀l,H l=aw->Q (¬l)^upd H l^.lst xs.reverse
def acO(h:ta Y H^Xk K Q):DG K ta Y H Q:=h
def aj4(hS:bI K H a xs\/dD K H a xs)(h:∀l H',gX H l (.lst xs.reverse) H'->Q (¬l) H'):Xk K Q (¬a) H:=#[a,xs,Z,hS,λl hl=>h l _ #[hl,Z]]
def aax(K:aC)(P:cf->Hp->eL):VK:=λx H=>∃k,Th K x H k/\P k H
def aex(K:aC)(ta:TE):TT:=λY H Q=>ta Y H λx H'=>∃k,Th K x H' k/\Q k H'
def lN{a:dr}(ha:PE X a ta)(he:∀whole,isTrue a ax whole=(do let v <- whole;standAt a.pos;holding [v]^truthy v)):PT X a^aex dq ta:=NP ha he
def anl(h:ta Y H^aax K P):aex K ta Y H P:=h
def aj5(hS:bI K H p xs)(h:P (not xs.isEmpty) H):aax K P (¬p) H:=#[_,.inl #[xs,hS,Z],h]
def aj6(hS:dD K H p xs)(h:P (not xs.isEmpty) H):aax K P (¬p) H:=#[_,.inr^.inl #[xs,hS,Z],h]
def aey{r:V->Option M->Option M->Hp->VK->eL}{tl th:TO}(h:te Y H λx H1=>tl Y H1 λl H2=>th Y H2 λu H3=>r x l u H3 Q):Nh r te tl th Y H Q:=h
def anm{lo hi:Option M}(hS:bI K H a xs)(h:∀p H',gX H p (.lst^fV xs lo hi) H'->Q (¬p) H'):K6 K (¬a) lo hi H Q:=#[a,xs,Z,hS,λp hp=>h p _ #[hp,Z]]
def aj7{i:O}(e:Y[i]?=!!v)(h:Q v H):eZ i Y H Q:=#[v,e,h]
def aj8{i:O}(h:te Y H λv H1=>gM i v Y H1 nx):DB te i #[nx,rt,bk,ct] Y H:=h
def Jm{c:TT}(Jt Jf:Hp->eL)(h:c Y H λb H1=>if b=ag then Jt H1 else Jf H1)(h1:∀H1,Jt H1->t #[nx,rt,bk,ct] Y H1)(h2:∀H1,Jf H1->u #[nx,rt,bk,ct] Y H1):aed c t u #[nx,rt,bk,ct] Y H:=#[Jt,Jf,h,h1,h2]
def aj9{to ti:TE}{ts:S9}{R:St->Hp->eL}(h:to Y H λo H1=>ti Y H1 λi H2=>ts o i v H2 λH3=>R Y H3):adP to ti ts v Y H R:=h
def aay{k:M}{R:Hp->eL}(hl:H p=!.lst xs)(hj:NV ab k=!j)(h:∀H',mT H p (.lst^xs.set j v) H'->R H'):WY (¬p) (.int k) v H R:=#[p,xs,k,j,Z,Z,hl,hj,h _ rfl]
def DK(x y:bc):(x++y).length=x.length+y.length:=by change(x.cps++y.cps).size=x.cps.size+y.cps.size;simp
def Oz(h:P ag H):Z3 Y H P:=h
def Lp(Ya:It)(tt:TT)(te:TE)(τ:St)(Q:VK)(H:Hp):=∃W:O->O->List V->Hp->eL,(∃m,W 0 m [] H)/\∀i m ys H,W i m ys H ->
 (Ya.stop i H/\∀p,H p=aw->Q (¬p)^upd H p^.lst ys)\/(Ya.go i H/\ce<sizeLine/\∃N:List V->Hp->eL,(∀Sc H',N Sc H'->∃m',m'<m/\W (i+1) m' Sc H') /\
  ∀v H',Ya.Nf i H v H'->tt (some v::τ) H' λb H3=>if b=ag then te (some v::τ) H3 λy H4=>N (ys++[y]) H4 else N ys H3)
def aka{wi:TI}(h:wi Y H λYa H1=>Lp Ya tt te (cut ix Y) Q H1):Je wi tt te ix Y H Q:=h
theorem xA{lo:M}{τ:St}(Pv:O->List V->Hp->eL)(h0:Pv 0 [] H)
  (hs:∀i ys H,i<n->Pv i ys H->ce<sizeLine/\tt (some^.int (lo+i)::τ) H λb H3=>if b=ag then te (some^.int (lo+i)::τ) H3 λy H4=>Pv (i+1) (ys++[y]) H4 else Pv (i+1) ys H3)
  (hd:∀ys H,Pv n ys H->∀p H',gX H p (.lst ys) H'->Q (¬p) H'):Lp (uL lo n) tt te τ Q H:=by show#[λi m ys H=>m=n-i/\i<=n/\Pv i ys H,#[n,by simp,aV _,h0],?_];rintro i m ys H ⟨rfl,hi,p⟩;by_cases hlt:i<n;let#[hz,q]:=hs i ys H hlt p;show .inr #[hlt,hz,Pv (i+1),λY' H' p'=>#[n-(i+1),∅,Z,hlt,p'],λx H' y=>?_];let#[e,y]:=y;subst e y;show q;let e:i=n:=∅;subst e;show .inl #[ay _,λq hq=>hd ys H p q _ #[hq,Z]]
theorem iI{τ:St}(Pv:O->List V->Hp->eL)(h0:Pv 0 [] H)(hl:∀i ys H,i<=ab->Pv i ys H->bI K H a xs)
  (hs:∀i x ys H,xs[i]?=!x->Pv i ys H->ce<sizeLine/\tt (some x::τ) H λb H3=>if b=ag then te (some x::τ) H3 λy H4=>Pv (i+1) (ys++[y]) H4 else Pv (i+1) ys H3)
  (hd:∀ys H,Pv ab ys H->∀p H',gX H p (.lst ys) H'->Q (¬p) H'):Lp (SD K a) tt te τ Q H:=by
 show#[λi m ys H=>m=ab-i/\i<=ab/\Pv i ys H,#[ab,by simp,aV _,h0],?_];rintro i m ys H ⟨rfl,hi,p⟩;let q:=hl i ys H hi p;by_cases hlt:i<ab
 .have hx:xs[i]?=some xs[i]:=by simp[hlt]
  let#[hz,q']:=hs i _ ys H hx p;show .inr #[#[xs,xs[i],q,hx],hz,Pv (i+1),λY' H' p'=>#[ab-(i+1),∅,Z,hlt,p'],λx H' y=>?_];let#[e,y]:=y;subst e;let e2:x=xs[i]:=Option.some.inj^(y xs q).symm.trans hx;subst e2;show q'
 .have e:i=xs.length:=∅;subst e;show .inl #[#[xs,q,ay _],λr hr=>hd ys H p r _ #[hr,Z]]
end
section
variable {Y:St}
def B4(wi:TI)(g:TG)(tt:TT)(te:TE)(ix:List O)(k:O):TE:=λY H Q=>wi Y H λYa H1=>∃W:O->O->List V->St->Hp->eL,(∃m,W 0 m [] (List.replicate k aw++cut ix Y) H1)/\∀i m ys τ H,W i m ys τ H ->
 (Ya.stop i H/\∀p,H p=aw->Q (¬p)^upd H p^.lst ys)\/(Ya.go i H/\ce<sizeLine/\∃N:List V->St->Hp->eL,(∀Sc τ' H',N Sc τ' H'->∃m',m'<m/\W (i+1) m' Sc τ' H') /\
  ∀v H',Ya.Nf i H v H'->g v τ H' λτ2 H2=>tt τ2 H2 λb H3=>if b=ag then te τ2 H3 λy H4=>N (ys++[y]) τ2 H4 else N ys τ2 H3)
def DL{ST iter:dr}{xs:List bc}{ifs:List dr}{fr:List bc}{wi:TI}(X2:f6 X scope cl xs fr ix)(hi:PI X tg iter wi)(hg:∀C fp s H,PG (ux X (xs++fr) scope cl C fp s H) tg g)
  (ht:∀C fp s H,PF (ux X (xs++fr) scope cl C fp s H) ifs tt)(he:∀C fp s H,PE (ux X (xs++fr) scope cl C fp s H) ST te)
  (hs:⇑(∀v,foldedSetIterable iter ax v=pure v)):PE X (.ListComp ST [#[tg,iter,ifs,0]] scope pos)^B4 wi g tt te ix xs.length:=by intro X1 s Y H Q I h;rw[eval_ListComp];show wpAny_comprehension_free (use:=none) Z hs X2.clos X2.kind X2.names (dw (hi X1 s Y H _ I h) λv s1 h1=>dw h1 λitv s2 h2=>?_);let#[it,fp,tn,Ya,H2,e,I2,T,Kk,f2,W,#[m0,w0],turn]:=h2;subst e;show oE X2 hg ht he I2 T Kk f2 (λys H=>∀p,H p=aw->Q (¬p)^upd H p^.lst ys) W m0 w0 turn λD C s' ys H' I' hm fC hD z=>?_;let#[m,hm]:=hm;show#[m,hm,λh' Md=>?_];show#[¬D,_,I'.turned (t':=s'.toks) (it:=C) (λb o hb e=>Md.extBut b o hb e) fC.1 fC.2.1 fC.2.2.2.1 fC.2.2.2.2.1 fC.2.2.2.2.2,Z,z D hD]
end
end L2
def BT.vV:PySem.bootBuiltins "enumerate" = !.type "enumerate":=()
namespace L2
noncomputable def Itz(K:aC)(t1 t2:cf)(l1 l2:ae)(xs ys:List V):It :=
 #[λi H=>Lo t1 K H l1 xs/\Lo t2 K H l2 ys/\i<min ab ce,
  λi H v H'=>∃p x y,xs[i]?=!x/\ys[i]?=!y/\v=¬p/\gX H p (.tup [x,y]) H',
  λi H=>Lo t1 K H l1 xs/\Lo t2 K H l2 ys/\min ab ce<=i]
theorem OA{z TI TO i1 i2:ae}{ys:List V}(D:ZipApart z TI TO i1 i2 l1 l2):
  Turn P w K (.Tuple es k pos) (Itz K t1 t2 l1 l2 xs ys) [z,TI,TO,i1,i2] z (λi h=>ZP.ZO h z TI TO .none false/\ZP.Zs t1 t2 TI TO i1 i2 l1 l2 i h) where
 mem:=by simp
 obj:=λi h st b hb=>by let#[hz,hs]:=st;let#[a,c,hTO]:=hs.to;erw[aP,d9,or_false] at hb;rcases hb with e|e|e|e|e<;>rw[e];show#[_,hz,λv q=>by cases q];show#[_,hs.ti,λv q=>by cases q];show#[_,hTO,λv q=>by cases q];let#[o,e1,vs,d]:=hs.a1.here;show#[o,e1,λv q=>by rw[d] at q;cases q];let#[o,e1,vs,d]:=hs.a2.here;show#[o,e1,λv q=>by rw[d] at q;cases q]
 keep:=λi h h' st kk=>#[kk z (by simp) _ st.1,st.2.keep λb hb o e=>kk b (by rcases hb with q|q|q|q<;>simp[q]) o e]
 item:=by
  intro X hP hw hK hc i X1 s Y H E I hf st hg;subst hP hw hK;let#[q1,q2,hlt]:=hg;let#[OB,v1,Lq,z1]:=I.src q1;let#[RF,v2,Lr,z2]:=I.src q2;let hx:xs[i]?=!(xs[i]'∅):=by simp
  let hy:ys[i]?=!(ys[i]'∅):=by simp
  generalize xs[i]'∅=x at hx;generalize ys[i]'∅=y at hy;let#[u,hu,ru]:=v1.get hx;let#[v,hv,rv]:=v2.get hy;let#[hz,hs]:=st;show ZP.TQ #[_,hz,Z] (ZP.Oo (Q:=λr s'=>r=¬B/\∃h',s'={ s with heap:=h' }/\ZP.ZO h' z TI TO (rawInt B) bj/\ZP.Zs t1 t2 TI TO i1 i2 l1 l2 (i+1) h'/\IsPair h' B u v/\ZP.Rest z TO i1 i2 am h')
   D hz hs Lq Lr (by simpa using hu) (by simpa using hv) λh' a1 a2 a3 j a5=>#[Z,h',Z,a1,a2,a3,a5]) λr s' q=>?_
  let#[Z,h',Z,Ix,Ts,hp',hr]:=q;show#[_,Z,wpAny_letOwnedTupleGo_zip Ix λh2 hz2 Jn=>?_];let hTl:z≠s.heap.objs.size:=aU^aO hz;let hr2:∀b o,b∉[z,TO,i1,i2]->s.heap.get? b=!o->h2.get? b=!o:=λb o hb e =>
   Jn.extBut b o (λq=>hb^by simp[q])^hr b o (λq=>hb^by simp[q]) (λq=>hb^by simp[q]) (λq=>hb^by simp[q]) (λq=>hb^by simp[q]) e
  let I1:Inv X X1 Y H { s with heap:=h2,toks:=s.toks }:=I.rZ (fp:=[z,TO,i1,i2]) hr2 λb hb=>hf b (by
   erw[aP,d9,or_false] at hb ⊢;rcases hb with h|h|h|h<;>simp[h])
  let hfr:H B=none:=I.hok.fresh^ay _;let I2:=I1.AF (I.rM (ay _) hfr) (o:=.tup [x,y]) #[by change 2<=sizeLine;decide,[u,v],.cons ru^.cons rv .nil,#[_,Jn.extBut _ _ (aR hTl) hp',Z,_,Z]];let#[a,c,hTO]:=Ts.to;show#[¬B,_,I2,Z,#[_,x,y,hx,hy,Z,hfr,Z],#[hz2,Ts.keep λb hb o e=>Jn.extBut b o ?_ e],λb hb=>?_];rcases hb with q|q|q|q<;>rw[q];show D.TIz;show D.TOz;show D.i1z;show D.i2z
  .rw[cg ?_];show(hf b hb).1;let#[a0,c0,akb]:=hs.to;let#[o1,e1,_]:=hs.a1.here;let#[o2,e2,_]:=hs.a2.here;let lt:∀{b:ae}{o:du},s.heap.get? b=!o->b≠s.heap.objs.size:=λe=>aU^aO e;erw[aP,d9,or_false] at hb;rcases hb with h|h|h|h|h<;>rw[h];show lt hz;show lt hs.ti;show lt akb;show lt e1;show lt e2
 done:=by
  intro X hP hw hK hc i X1 s Y H E I hf st hg;subst hP hw hK;let#[q1,q2,hge]:=hg;let#[OB,v1,Lq,z1]:=I.src q1;let#[RF,v2,Lr,z2]:=I.src q2;let#[hz,hs]:=st;let e1:=v1.length;let e2:=v2.length;show ZP.aar #[_,hz,Z] (ZP.TN (.inl Z) (I.ok.hd hc) D hz hs Lq Lr ?_ λh' e hr he=>?_);rcases Nat.le_total xs.length ys.length with hle|hle;show .inl ?_;erw[mL];show iA ∅;show .inr ?_;erw[mL];show iA ∅
  .let#[o,ho,hcl]:=he;show#[e,o,Z,ho,hcl,Z,?_];show I.rZ (t':=s.toks) (fp:=[z,TO,i1,i2]) (λb o hb e=>hr b o (λq=>hb^by simp[q]) (λq=>hb^by simp[q]) (λq=>hb^by simp[q]) (λq=>hb^by simp[q]) e) λb hb=>hf b (by
    erw[aP,d9,or_false] at hb ⊢;rcases hb with h|h|h|h<;>simp[h])
 self:=λA i s Q E st q=>wpAny_pyIter_zip st.1 q
def aaz(K:aC)(R:It->Hp->eL):List V->Hp->Prop:=λvs H=>∃t1 t2 a b xs ys,vs=[¬a,¬b]/\Lo t1 K H a xs/\Lo t2 K H b ys/\R (Itz K t1 t2 a b xs ys) H
def aeA(K:aC)(ta:TA):TI:=λY H R=>ta Y H^aaz K R
def GQ{a b:dr}{ta:TA}{p:Pos}(hg:Gl X "zip")(hm:X.mg "zip" = none)(ha:PA X [a,b] ta)(he:starEach [a,b] ax=(false,eval a ax)::starEach [b] ax)(TD:(backTo pos^starEach [b] ax).any (·.1)=bj):PI X (.Tuple es k tpos) (.Call (.Name "zip" p) [a,b] [] pos)^aeA dq ta:=by intro X1 s Y H R I h;show wpAny_Call_Name_kw^jE I hg hm BT.aev ?_;show jN (dw (ha pos X1 s Y H _ I h) λus s1 zq=>?_) he TD;let#[vs,H1,I1,rv,q1]:=zq;let#[t1,t2,pa,pb,xs,ys,Z,hx,hy,q]:=q1;let#[u,u',Z,r1,r2]:=vals2 rv;cases r1;cases r2;let#[OB,v1,Lq,z1]:=I1.src hx;let#[RF,v2,Lr,z2]:=I1.src hy;let#[o1,e1]:=Lq.here;let#[o2,e2]:=Lr.here;show ZP.Ot Lq Lr λh' hz st hsz hk=>?_;let I2:Inv X X1 Y H1 { s1 with heap:=h',toks:=s1.toks }:=I1.kept hk;show wpAny_pyIter_zip hz #[_,_,_,_,H1,Z,I2,OA^zipApart_new (aO e1)^aO e2,#[hz,st],λb hb=>?_,q];let fr:∀b,bn<=b->lD X X1 H1 b:=λb hb=>I1.rM hb^I1.hok.fresh hb;show fr b ?_;erw[aP,d9,or_false] at hb;rcases hb with h|h|h|h|h<;>rw[h];show oh _ _;show oh _ _;show oh _ _;show ay _;show oh _ _
def Ite(K:aC)(l:ae)(xs:List V):It :=
 #[λi H=>bI K H l xs/\i<ab,λi H v H'=>∃p x,xs[i]?=!x/\v=¬p/\gX H p (.tup [.int i,x]) H',λi H=>bI K H l xs/\ab<=i]
theorem Ls{e:ae}(KM:e≠it):
  Turn P w K (.Tuple es k pos) (Ite K l xs) [e,it] e (λi h=>(∃Tl,IsEnum h e it i Tl)/\h.IsListIter it l i) where
 mem:=by simp
 obj:=λi h st b hb=>by let#[#[Tl,he],o,e1,c,d]:=st;erw[aP,d9,or_false] at hb;rcases hb with q|q<;>rw[q];show#[_,he,λv q=>by cases q];show#[o,e1,λv q=>by rw[d] at q;cases q]
 keep:=λi h h' st kk=>#[let⟨Tl,he⟩:=st.1;#[Tl,kk e (by simp) _ he],let⟨o,e1,r⟩:=st.2;#[o,kk it (by simp) o e1,r]]
 item:=by
  intro X hP hw hK hc i X1 s Y H E I hf st hg;subst hP hw hK;let#[q1,hlt]:=hg;let#[OB,v1,pl,z1]:=I.list q1;let hx:xs[i]?=!(xs[i]'∅):=by simp
  generalize xs[i]'∅=x at hx;let#[u,hu,ru]:=v1.get hx;let#[#[Tl,he],WP]:=st;let hT1:e≠s.heap.objs.size:=aU^aO he;let hT2:it≠s.heap.objs.size:=by let#[o,e1,_]:=WP;show aU^aO e1
  show wpAny_pyNext_enum_item he WP pl.isList (by simpa using hu) KM λh' ho yy hT hsz hk=>#[_,Z,?_];show wpAny_letOwnedTupleGo_enum ho λh2 he2 Jn=>?_;let hfr:H B=none:=I.hok.fresh^ay _;let I1:Inv X X1 Y H { s with heap:=h2,toks:=s.toks+1 }:=I.rZ (fp:=[e,it]) (λb o hb e1=>Jn.extBut b o (λq=>hb^by simp[q])^hk b o (λq=>hb^by simp[q]) (λq=>hb^by simp[q]) e1) λb hb=>hf b hb;let I2:=I1.AF (I.rM (ay _) hfr) (o:=.tup [.int i,x]) #[by change 2<=sizeLine;decide,[.int i s.toks,u],.cons #[_,Z]^.cons ru .nil,#[_,Jn.extBut _ _ (aR hT1) hT,Z,_,Z]];show#[¬B,_,I2,Z,#[_,x,hx,Z,hfr,Z],#[#[_,by simpa using he2],yy.extBut Jn.extBut^aR KM],λb hb=>?_];rw[cg ?_];show(hf b hb).1
  .erw[aP,d9,or_false] at hb;rcases hb with h|h<;>rw[h];show hT1;show hT2
 done:=by intro X hP hw hK hc i X1 s Y H E I hf st hg;subst hP hw hK;let#[q1,hge]:=hg;let#[OB,v1,pl,z1]:=I.list q1;let#[#[Tl,he],WP]:=st;let e1:=v1.length;show wpAny_pyNext_enum_end (I.ok.hd hc) he WP pl.isList ?_ λh' hx=>#[Z,?_];erw[mL];show iA ∅;show I.rZ (t':=s.toks) (fp:=[e,it]) (λb o hb e1=>hx b o (λq=>hb^by simp[q]) e1) λb hb=>hf b hb
 self:=λA i s Q E st q=>let⟨Tl,he⟩:=st.1;wpAny_pyIter_enum he q
def aaA(K:aC)(R:It->Hp->eL):List V->Hp->Prop:=λvs H=>∃a xs,vs=[¬a]/\bI K H a xs/\R (Ite K a xs) H
def Xl(K:aC)(ta:TA):TI:=λY H R=>ta Y H^aaA K R
def pQ{a:dr}{ta:TA}{p:Pos}(hg:Gl X "enumerate")(hm:X.mg "enumerate" = none)(ha:PA X [a] ta)(he:starEach [a] ax=(false,eval a ax)::starEach [] ax)(TD:(backTo pos^starEach [] ax).any (·.1)=bj):PI X (.Tuple es k tpos) (.Call (.Name "enumerate" p) [a] [] pos)^Xl dq ta:=by intro X1 s Y H R I h;show wpAny_Call_Name_kw^jE I hg hm BT.vV ?_;show jN (dw (ha pos X1 s Y H _ I h) λus s1 zq=>?_) he TD;let#[vs,H1,I1,rv,q1]:=zq;let#[pa,xs,Z,hx,q]:=q1;let#[u,Z,r1]:=vals1 rv;cases r1;let#[OB,v1,pl,z1]:=I1.list hx;show call_enumerate_list pl.isList λh' hE hI hsz hk=>?_;let I2:Inv X X1 Y H1 { s1 with heap:=h',toks:=s1.toks }:=I1.kept hk;show wpAny_pyIter_enum hE #[_,_,_,_,H1,Z,I2,Ls^Nat.succ_ne_self _,#[#[_,hE],hI],λb hb=>?_,q];let fr:∀b,bn<=b->lD X X1 H1 b:=λb hb=>I1.rM hb^I1.hok.fresh hb;show fr b ?_;erw[aP,d9,or_false] at hb;rcases hb with h|h<;>rw[h];show oh _ _;show ay _
end L2
def BT.aeC:PySem.bootBuiltins "any" = !.builtin "any":=()
namespace L2
variable {ys:List V}{R:It->Hp->eL}
def OC{bs:List cf}:TruthOf prog w A (λi v=>((bs.map Value.bool).toArray)[i]?=!v) (λi=>bs.getD i bj):=by
 intro i v s Q E hP hQ;erw[mL,bJ] at hP;let#[b,hb,Z]:=cU.mp hP;let e:bs.getD i bj=b:=by simp[List.getD,hb]
 let hQ:Q b s:=by let hQ:Q (bs.getD i bj) s:=hQ;rwa [e] at hQ
 first|show wpAny_truthy_bool hQ|show aW hQ
theorem Jo:∀{bs:List cf}{us:List J},Vals (bs.map V.bl) us->us=bs.map Value.bool
 | [],us,h=>by cases h;rfl
 | b::bs,us,h=>by
  cases h with
  | cons r rr =>
   cases r;rw[Jo rr];rfl
def range_any(bs:List cf):(List.range bs.length).any (λi=>bs.getD i bj)=bs.any id:=by rw[Bool.eq_iff_iff];erw[List.any_eq_true,gJ];constructor;rintro⟨i,hi,h⟩;show#[bs[i],ly hi,by simpa[List.getD,hi] using h];rintro⟨b,hb,h⟩;let#[i,hi,Z]:=uG.mp hb;show#[i,hi,by simpa[List.getD,hi] using h]
def aeD(K:aC):List V->Hp->VK->Prop:=λxs H Q=>∃(p:ae)(bs:List cf),xs=[¬p]/\bI K H p^bs.map V.bl/\Q (.bl^bs.any id) H
def Lu(hc:X.calm=ag):ef X (.builtin "any")^aeD X.K:=by
 intro X1 s Y H xs us Q I r h;let#[p,bs,Z,hS,q]:=h;let#[u,Z,ru]:=vals1 r;cases ru;let#[XL,rv,pl,hz]:=I.list hS;let e:=Jo rv;subst e;let hlt:p<s.heap.objs.size:=by let#[o,ho,_]:=pl.isList;show aO ho
 let W:=Walks.list (prog:=bi) (w:=cq) (A:=X.A.in1) (show X.A.in1.handled=aw from I.ok.hd hc) B p (aU hlt) (bs.map Value.bool).toArray;show call_any_walk^wpAny_pyIter_list pl.isList #[B,_,_,_,_,_,λi=>bs.getD i bj,Z,W,#[#[_,jB _ rfl,Z,Z],pl.isList.push _],OC,λh' tk hk=>?_];show#[.bl^bs.any id,H,I.kept λb o e=>hk b o (λz=>aU (aO e)^aJ.mp z)^eS _ e,?_,q];change Value.bool _=Value.bool _;rw[bB,aq,range_any]
mutual
inductive RD (K:aC) (H:Hp):V->PyData->Prop
 | cB:RD K H .cB .none
 | bl (b:Bool):RD K H (.bl b)^.bool b
 | int (i:Int):RD K H (.int i)^.int i
 | str (x:Str):RD K H (.str x)^.str x
 | lst {a:Addr} {xs:List V} {ds:List PyData}:bI K H a xs->DN K H xs ds->RD K H (¬a)^.list ds
 | tup {a:Addr} {xs:List V} {ds:List PyData}:dD K H a xs->DN K H xs ds->RD K H (¬a)^.tuple ds
inductive DN (K:aC) (H:Hp):List V->List PyData->Prop
 | nil:DN K H [] []
 | cons {x:V} {d:PyData} {xs:List V} {ds:List PyData}:RD K H x d->DN K H xs ds->DN K H (x::xs) (d::ds)
end
section
variable {Y:St}
mutual
theorem RD.reads(I:Inv X X1 Y H s):∀{x:V}{d:PyData}{u:J},RD dq H x d->RelV x u->∃as,Reads am u d as
 | _,_,_,.cB,r=>by cases r;show#[[],.none]
 | _,_,_,.bl b,r=>by cases r;show#[[],.bool b]
 | _,_,_,.int i,r=>by let#[t,Z]:=r;show#[[],.int i t]
 | _,_,_,.str x,r=>by let#[t,Z]:=r;show#[[],.str x t]
 | _,_,_,.lst h rs,r=>by
  cases r;let#[XL,rv,#[o,n,e,hc,hd,hs],z]:=I.list h;let#[as,q]:=DN.reads I rs rv;show#[_,.list e hc hs^by simpa using q]
 | _,_,_,.tup h rs,r=>by cases r;let#[XL,rv,#[o,e,hc,n,hs],z]:=I.tuple h;let#[as,q]:=DN.reads I rs rv;show#[_,.tuple e hc hs^by simpa using q]
theorem DN.reads(I:Inv X X1 Y H s):∀{xs:List V}{ds:List PyData}{us:List J},DN dq H xs ds->Vals xs us->∃as,ReadsAll am us ds as
 | _,_,_,.nil,r=>by cases r;show#[[],.nil]
 | _,_,_,.cons h rs,r=>by
  cases r with
  | cons r1 r2 =>
   let#[as,q]:=RD.reads I h r1;let#[bs,q']:=DN.reads I rs r2;show#[_,.cons q q']
end
end
theorem DN.ints:∀ns:List M,DN K H (ns.map V.int) (ns.map PyData.int)
 | []=>.nil
 | n::ns=>.cons (.int n)^DN.ints ns
def Sh(k:O)(d:PyData):=d.canLay0=ag/\d.depth<=k
theorem Sh.shaped{d:PyData}(h:Sh k d)(hk:k<=64):SeqAt.shaped d=true:=by unfold SeqAt.shaped;rw[h.1,decide_eq_true^bP h.2 hk];rfl
theorem Sh.int(i:M):Sh k^.int i:=#[Z,aV _]
def Sh.cB:Sh k .none:=#[Z,aV _]
theorem Sh.str(h:PyData.strOk x=ag):Sh k^.str x:=#[h,aV _]
theorem Sh.all:∀{ds:List PyData},(∀d∈ds,Sh k d)->PyData.canLayAll0 ds=ag/\PyData.depthAll ds<=k
 | [],_=>#[Z,aV _]
 | d::ds,h=>by let h1:=h d (by simp);let h2:=Sh.all (ds:=ds) λe he=>h e^d8 _ he;show#[?_,?_];change(PyData.canLay0 d&&PyData.canLayAll0 ds)=ag;rw[h1.1,h2.1];rfl;change max (PyData.depth d)^PyData.depthAll ds<=k;show Nat.max_le.mpr #[h1.2,h2.2]
theorem Sh.list{ds:List PyData}(h:∀d∈ds,Sh k d):Sh (k+1)^.list ds:=#[(Sh.all h).1,Nat.succ_le_succ (Sh.all h).2]
def Sh.tup{k:O}{ds:List PyData}(h:∀d∈ds,Sh k d):Sh (k+1)^.tuple ds:=#[(Sh.all h).1,Nat.succ_le_succ (Sh.all h).2]
def Sh.ints:Sh (k+1)^.list^ns.map PyData.int:=Sh.list λd hd=>by let#[n,_,Z]:=aQ.mp hd;show .int n
def OD(K:aC):R2:=λx y H Q=>∃d e,RD K H x d/\RD K H y e/\SeqAt.shaped d=ag/\SeqAt.shaped e=ag/\Q (.bl^PyData.eqv d e) H
def aeE(K:aC):R2:=λx y H Q=>∃d e,RD K H x d/\RD K H y e/\SeqAt.shaped d=ag/\SeqAt.shaped e=ag/\Q (.bl (not (PyData.eqv d e))) H
def yE(hu:X.A.units+64<cLine):lE X (compareOp .Eq)^OD X.K:=by intro X1 s Y H x y v u Q I rx ry h;let#[d,e,hd,he,sd,se,q]:=h;let#[as,ra]:=hd.reads I rx;let#[bs,rb]:=he.reads I ry;show eq_dataH ra rb sd se hu #[.bl _,H,I,Z,q]
def aaB(hu:X.A.units+64<cLine):lE X (compareOp .NotEq)^aeE X.K:=by intro X1 s Y H x y v u Q I rx ry h;let#[d,e,hd,he,sd,se,q]:=h;let#[as,ra]:=hd.reads I rx;let#[bs,rb]:=he.reads I ry;show ne_dataH ra rb sd se hu #[.bl _,H,I,Z,q]
section
variable {nx bk ct:St->Hp->eL}{Y:St}{P:cf->Hp->eL}{t u:TS}
def OE{x:V}(d:PyData)(k:O)(hk:k<=64)(hx:RD K H x d)(hy:RD K H y d)(hs:Sh k d)(h:Q (.bl ag) H):OD K x y H Q:=#[d,d,hx,hy,hs.shaped hk,hs.shaped hk,by rw[SeqAt.eqv_refl d hs.1];show h]
def aaC{x:V}(d:PyData)(k:O)(hk:k<=64)(hx:RD K H x d)(hy:RD K H y d)(hs:Sh k d)(h:Q (.bl bj) H):aeE K x y H Q:=#[d,d,hx,hy,hs.shaped hk,hs.shaped hk,by rw[SeqAt.eqv_refl d hs.1];show h]
def aeF{p:ae}{bs:List cf}(hS:bI K H p^bs.map V.bl)(h:Q (.bl^bs.any id) H):aeD K [¬p] H Q:=#[p,bs,Z,hS,h]
def vW{lo hi:Option M}(hS:dD K H a xs)(hw:Not (HT.gu ab 0 lo=0/\HT.gu ab ab hi=ab))(h:∀p H',gX H p (.tup^fV xs lo hi) H'->Q (¬p) H'):Du K (¬a) lo hi H Q:=#[a,xs,Z,hS,hw,λp hp=>h p _ #[hp,Z]]
theorem aeG{k:M}(hl:H l=!.lst xs)(h1:-(2 ^ 62)<=k)(h2:k<2 ^ 62)(hz:ab*k.toNat<=1000000)(h:∀p H',gX H p (.lst (List.replicate k.toNat xs).flatten) H'->Q (¬p) H'):ad9 (¬l) (.int k) H Q :=
 #[l,k,xs,Z,Z,hl,∅,∅,bP hz (),λp hp=>h p _ #[hp,Z]]
def akc{tl:TA}(h:tl Y H^aaz K R):aeA K tl Y H R:=h
def Jp(hx:Lo t1 K H a xs)(hy:Lo t2 K H b ys)(h:R (Itz K t1 t2 a b xs ys) H):aaz K R [¬a,¬b] H:=#[t1,t2,a,b,xs,ys,Z,hx,hy,h]
def ahX{tl:TA}(h:tl Y H^aaA K R):Xl K tl Y H R:=h
def ano(hS:bI K H a xs)(h:R (Ite K a xs) H):aaA K R [¬a] H:=#[a,xs,Z,hS,h]
theorem B5{tb:TS}(Pv:O->St->Hp->eL)(h0:Pv 0 Y H)(hl:∀i Y H,i<=ab->Pv i Y H->bI K H a xs)
  (hs:∀i x p Y H H',xs[i]?=!x->Pv i Y H->gX H p (.tup [.int i,x]) H'->g (¬p) Y H' λY2 H2=>tb #[Pv (i+1),rt,nx,Pv (i+1)] Y2 H2)(hd:∀Y H,Pv ab Y H->nx Y H):Ni (Ite K a xs) g tb nx rt Y H:=by show#[λi m Y H=>m=ab-i/\i<=ab/\Pv i Y H,#[ab,by simp,aV _,h0],?_];rintro i m Y H ⟨rfl,hi,p⟩;let q:=hl i Y H hi p;by_cases hlt:i<ab;show .inr #[#[q,hlt],Pv (i+1),λY' H' p'=>#[ab-(i+1),∅,Z,hlt,p'],λx H' y=>?_];let#[pa,x',hx,Z,n]:=y;show hs i x' pa Y H H' hx p n;let e:i=xs.length:=∅;subst e;show .inl #[#[q,ay _],hd Y H p]
theorem aeH{tb:TS}(Pv:O->St->Hp->eL)(h0:Pv 0 Y H)(hl:∀i Y H,i<=min ab ce->Pv i Y H->Lo t1 K H a xs/\Lo t2 K H b ys)
  (hs:∀i x y p Y H H',xs[i]?=!x->ys[i]?=!y->Pv i Y H->gX H p (.tup [x,y]) H'->g (¬p) Y H' λY2 H2=>tb #[Pv (i+1),rt,nx,Pv (i+1)] Y2 H2)(hd:∀Y H,Pv (min ab ce) Y H->nx Y H):Ni (Itz K t1 t2 a b xs ys) g tb nx rt Y H:=by show#[λi m Y H=>m=min ab ce-i/\i<=min ab ce/\Pv i Y H,#[min ab ce,by simp,aV _,h0],?_];rintro i m Y H ⟨rfl,hi,p⟩;let q:=hl i Y H hi p;by_cases hlt:i<min ab ce;show .inr #[#[q.1,q.2,hlt],Pv (i+1),λY' H' p'=>#[min ab ce-(i+1),∅,Z,hlt,p'],λx H' y=>?_];let#[pa,x',y',hx,hy,Z,n]:=y;show hs i x' y' pa Y H H' hx hy p n;let e:i=min ab ys.length:=∅;rw[e] at p;show .inl #[#[q.1,q.2,∅],hd Y H p]
def OF(Ya:It)(g:TG)(tt:TT)(te:TE)(τ0:St)(Q:VK)(H:Hp):=∃W:O->O->List V->St->Hp->eL,(∃m,W 0 m [] τ0 H)/\∀i m ys τ H,W i m ys τ H ->
 (Ya.stop i H/\∀p,H p=aw->Q (¬p)^upd H p^.lst ys)\/(Ya.go i H/\ce<sizeLine/\∃N:List V->St->Hp->eL,(∀Sc τ' H',N Sc τ' H'->∃m',m'<m/\W (i+1) m' Sc τ' H') /\
  ∀v H',Ya.Nf i H v H'->g v τ H' λτ2 H2=>tt τ2 H2 λb H3=>if b=ag then te τ2 H3 λy H4=>N (ys++[y]) τ2 H4 else N ys τ2 H3)
def ahY{wi:TI}(h:wi Y H λYa H1=>OF Ya g tt te (List.replicate k aw++cut ix Y) Q H1):B4 wi g tt te ix k Y H Q:=h
theorem OG{τ0:St}(Pv:O->List V->St->Hp->eL)(h0:Pv 0 [] τ0 H)(hl:∀i zs τ H,i<=min ab ce->Pv i zs τ H->Lo t1 K H a xs/\Lo t2 K H b ys/\zs.length<=i)(hz:ab<=1000000)
  (hs:∀i x y p zs τ H H',xs[i]?=!x->ys[i]?=!y->Pv i zs τ H->gX H p (.tup [x,y]) H'->g (¬p) τ H' λτ2 H2=>tt τ2 H2 λb H3=>if b=ag then te τ2 H3 λy H4=>Pv (i+1) (zs++[y]) τ2 H4 else Pv (i+1) zs τ2 H3)
  (hd:∀zs τ H,Pv (min ab ce) zs τ H->∀p H',gX H p (.lst zs) H'->Q (¬p) H'):OF (Itz K t1 t2 a b xs ys) g tt te τ0 Q H:=by show#[λi m zs τ H=>m=min ab ce-i/\i<=min ab ce/\Pv i zs τ H,#[min ab ce,by simp,aV _,h0],?_];rintro i m zs τ H ⟨rfl,hi,p⟩;let#[q1,q2,q3]:=hl i zs τ H hi p;by_cases hlt:i<min ab ce;show .inr #[#[q1,q2,hlt],cT (show zs.length<1000001 by lia) (),Pv (i+1),λzs' τ' H' p'=>#[min ab ce-(i+1),∅,Z,hlt,p'],λx H' y=>?_];let#[pa,x',y',hx,hy,Z,n]:=y;show hs i x' y' pa zs τ H H' hx hy p n;let e:i=min ab ys.length:=∅;rw[e] at p;show .inl #[#[q1,q2,∅],λr hr=>hd zs τ H p r _ #[hr,Z]]
theorem Jq{τ0:St}(Pv:O->List V->St->Hp->eL)(h0:Pv 0 [] τ0 H)(hl:∀i zs τ H,i<=ab->Pv i zs τ H->bI K H a xs/\zs.length<=i)(hz:ab<=1000000)
  (hs:∀i x p zs τ H H',xs[i]?=!x->Pv i zs τ H->gX H p (.tup [.int i,x]) H'->g (¬p) τ H' λτ2 H2=>tt τ2 H2 λb H3=>if b=ag then te τ2 H3 λy H4=>Pv (i+1) (zs++[y]) τ2 H4 else Pv (i+1) zs τ2 H3)
  (hd:∀zs τ H,Pv ab zs τ H->∀p H',gX H p (.lst zs) H'->Q (¬p) H'):OF (Ite K a xs) g tt te τ0 Q H:=by show#[λi m zs τ H=>m=ab-i/\i<=ab/\Pv i zs τ H,#[ab,by simp,aV _,h0],?_];rintro i m zs τ H ⟨rfl,hi,p⟩;let#[q1,q3]:=hl i zs τ H hi p;by_cases hlt:i<ab;show .inr #[#[q1,hlt],cT (show zs.length<1000001 by lia) (),Pv (i+1),λzs' τ' H' p'=>#[ab-(i+1),∅,Z,hlt,p'],λx H' y=>?_];let#[pa,x',hx,Z,n]:=y;show hs i x' pa zs τ H H' hx p n;let e:i=xs.length:=∅;rw[e] at p;show .inl #[#[q1,∅],λr hr=>hd zs τ H p r _ #[hr,Z]]
end
def qo(w:cw)(K:aC)(a:ae)(kvs:List (Key×V)):=(a==sysModules)=bj/\∀(P:de)(h:cv),K.In h->∃vs,KV kvs vs/\h.DictOf (bT P w) a vs
noncomputable def entriesOf(w:cw):List (bc×Tok×J)->List DictEntry
 | []=>[]
 | (k,t,v)::r=>{ hash:=PyData.keyHash w.params k,key:=.str k t,val:=v }::entriesOf w r
theorem mV{P:de}{w:cw}:∀(es:List (bc×Tok×J)),(∀e∈entriesOf w es,∃k,(bT P w).is k e.key=ag/\e.hash=(bT P w).hash k)/\Pairs (bT P w) (entriesOf w es) (es.map λe=>(Sum.inr e.1,e.2.2))
 | []=>by
  show#[λe h=>?_,?_];simp[entriesOf] at h;show Pairs.nil
 | (k,t,v)::r=>by let#[h1,h2]:=mV (P:=P) (w:=w) r;show#[λe he=>?_,.cons (oj P w k t) Z h2];rcases aP.mp he with q|q;subst q;show#[.inr k,oj P w k t,Z];show h1 e q
def qo.mk'{es:List (bc×Tok×J)}(l:K.lookup a=some #[.type "dict", none,.dict (entriesOf w es).toArray n,#[]])(hd:(a==sysModules)=bj)(nd:(es.map (·.1)).Nodup)
  (hv:KV kvs (es.map λe=>((Sum.inr e.1:Key),e.2.2))):qo w K a kvs:=by
 show#[hd,λP h Zp=>#[_,hv,_,_,_,Zp a _ l,#[Z,Z,Z],Z,?_,?_,?_]];intro e he;show(mV es).1 e (by simpa using he);simpa using(mV (P:=P) (w:=w) es).2
 .have q:((es.map λe=>((Sum.inr e.1:Key),e.2.2)).map (·.1))=(es.map (·.1)).map (λx=>(Sum.inr x:Key)):=by simp[gI,Function.comp_def]
  rw[q];show nZ.mpr^List.Pairwise.imp (λh e=>h^Sum.inr.inj e) nd
section
variable {o i f:dr}{ty:TE}
def OH(a:ae)(kvs:List (Key×V))(td ty:TE):TE:=λY H Q=>td Y H λx H1=>ty Y H1 λy H2=>∃k v,x=¬a/\y=kV k/\c9 kvs k=!v/\Q v H2
def yF(C:qo cq dq a kvs)(ho:PE X o td)(hi:PE X i ty)(hs:N2 i):PE X (.Subscript o i pos)^OH a kvs td ty:=by intro X1 s Y H Q I h;show BV PySem.F.slot_dict_getitem.lookup hs (dw (ho X1 s Y H _ I h) λu s1 zq=>?_);let#[x,H1,I1,rx,q1]:=zq;show dw (hi X1 s1 Y H1 _ I1 q1) λiv s2 zq=>?_;let#[y,H2,I2,ry,k,v,ex,ey,l,q2]:=zq;subst ex ey;obtain rfl:u=Value.ref a:=rx;let#[vs,W1,dd]:=C.2 bi s2.heap I2.rK;let#[w',hw,PH]:=lC.some_of (v:=v) (o:=valueAt vs k) (by rw[<- l];show W1.val k);show#[dd.typeIs,wpAny_getItem_of (qm ry) dd.mapOf hw #[v,H2,I2.tok _,PH,q2]]
def Jr(a:ae)(kvs:List (Key×V))(td ty tx:TE):TE:=λY H Q=>td Y H λx H1=>x=¬a/\ty Y H1 λy H2=>tx Y H2 λz H3=>∃k,y=kV k/\Q ((c9 kvs k).getD z) H3
def Lv(C:qo cq dq a kvs)(ho:PE X o td)(he:PE X e ty)(hf:PE X f tx)(m:M2 X o "get" TB e f Uf):PE X (.Call (.Attribute o "get" TB) [e,f] [] Uf)^Jr a kvs td ty tx:=by intro X1 s Y H Q I h;show wpAny_Call_method m.base m.few m.line PySem.F.plainAttrs_dict rG PySem.F.type_dict_get (dw (ho X1 s Y H _ I h) λu s1 zq=>?_);let#[x,H1,I1,rx,ex,q1]:=zq;subst ex;obtain rfl:u=Value.ref a:=rx;let#[vs,W1,dd]:=C.2 bi s1.heap I1.rK;show#[dd.typeIs,λb q=>?_,?_];cases q;let#[ob,_,_,h1,h2,_]:=dd;show#[ob,h1,h2.2.1];rw[m.trees];show xU Z^Calls.evalArgs_plain^mH (dw (he X1 s1 Y H1 _ I1 q1) λiv s2 zq=>?_);let#[y,H2,I2,ry,q2]:=zq;show mH (dw (hf X1 s2 Y H2 _ I2 q2) λfv s3 zq=>?_);let#[z,H3,I3,rz,k,ey,q3]:=zq;show nW ?_;subst ey;let#[vs,W1,dd]:=C.2 bi s3.heap I3.rK;show call_meetsIn rG dd.typeIs PySem.F.entry_dict_get (PySem.F.args_dict_get_3 _ _ _) (meets_dict_get_default (bT bi cq) a (qm ry) C.1 fv) #[_,dd.mapOf,#[_,H3,I3.tok _,(W1.val k).getD rz,q3]]
end
section
variable {nx bk ct:St->Hp->eL}{Y:St}{ty:TE}
def rDK(a:ae)(kvs:List (Key×V)):R2:=λx y H Q=>∃k v,x=¬a/\y=kV k/\c9 kvs k=!v/\Q v H
def ahZ(h:td Y H λx H1=>ty Y H1 λy H2=>rDK a kvs x y H2 Q):OH a kvs td ty Y H Q:=h
def aeI(hv:c9 kvs^.inr x=!v)(h:Q v H):rDK a kvs (¬a) (.str x) H Q:=#[.inr x,v,Z,Z,hv,h]
def aeJ(kvs:List (Key×V)):V->V->Hp->VK->Prop:=λy z H Q=>∃k,y=kV k/\Q ((c9 kvs k).getD z) H
def aeK(h:td Y H λx H1=>x=¬a/\ty Y H1 λy H2=>tx Y H2 λz H3=>aeJ kvs y z H3 Q):Jr a kvs td ty tx Y H Q:=h
def anq{A:eL}(h:A):(V.ref a=¬a/\A):=#[Z,h]
def anr{z:V}(hv:(c9 kvs^.inr x).getD z=v)(h:Q v H):aeJ kvs (.str x) z H Q:=#[.inr x,Z,by rw[hv];show h]
end
def fj(K:aC)(a:ae)(xs:List V):=∀H:Hp,dD K H a xs
def fj.sq(c:fj K a xs):dD K H a xs:=c H
def fj.mk'{XL:Array J}(l:K.lookup a=some #[.type "tuple", od,.seq XL n,sl])(r:Vals xs XL.toList)(hz:XL.size.ble 1000=ag):fj K a xs :=
 let hz:=dz hz
 λz=>.inr #[_,XL,n,l,Z,Z,bP hz (),r]
def lP(e:dq=K):ZN X^ZQ K:=e▸aK
def B6(e:dq=K):ZN X^NW K:=e▸aA
def yG(e:dq=K):ef X (.builtin "len")^Oj K:=e▸bh
def aaD(e:dq=K):ef X (.builtin "isinstance")^aal K:=e▸jY
def TV(e:dq=K)(hu:X.A.units+64<cLine):lE X (compareOp .Eq)^OD K:=e▸yE hu
def TX{t:Gi}(e:dq=K)(hc:X.calm=ag)(h:WR X es t)
  (hn:⇑((assignEach es ax).length=n))(TW:⇑((assignEach es ax).findIdx? (·.1)=none)):PG X (.Tuple es k pos)^ND K n t:=e▸Gj hc h hn TW
def OI{l:dr}{tl:TE}(e:dq=K)(hl:PE X l tl):PI X tg l^NH K tl:=e▸b4 hl
def OJ{α:Type}(x:α)(xs:List α):qG (x::xs) 0=!x:=dM (j:=0) Z
def akd{Y:St}(h:ta Y H (F8 λb H1=>Q (.bl (not b)) H1)):WO ta Y H Q:=h
end L2
def BT.OL:PySem.bootBuiltins "max" = !.builtin "max":=()
namespace L2
variable {i:M}
section
variable {nx bk ct:St->Hp->eL}{Y:St}{P:cf->Hp->eL}{ty:TE}{t u:TS}
def rDG:R2:=λx y H Q=>∃a v,x=¬a/\rS H a y^!v/\Q v H
def akf(h:td Y H λx H1=>ty Y H1 λy H2=>rDG x y H2 Q):N3 td ty Y H Q:=h
def r9(hd:H a=!.dK kvs)(hv:c9 kvs^.inr x=!v)(h:Q v H):rDG (¬a) (.str x) H Q:=#[a,v,Z,.inl #[kvs,.inr x,.inl hd,Z,hv.symm],h]
def Xm(hd:H a=!.dK kvs)(hv:c9 kvs^.inl i=!v)(h:Q v H):rDG (¬a) (.int i) H Q:=#[a,v,Z,.inl #[kvs,.inl i,.inl hd,Z,hv.symm],h]
def rDI:R2:=λy x H Q=>∃a o,x=¬a/\rS H a y o/\Q (.bl o.isSome) H
def aeL:R2:=λy x H Q=>∃a o,x=¬a/\rS H a y o/\Q (.bl (not o.isSome)) H
def anu(h:ty Y H λy H1=>td Y H1 λx H2=>rDI y x H2 Q):ZW ty td Y H Q:=h
def akg(h:ty Y H λy H1=>td Y H1 λx H2=>aeL y x H2 Q):Jb ty td Y H Q:=h
def rD2(ty tx:TE)(Y:St)(Q:VK):V->Hp->Prop:=λx H1=>∃a,x=¬a/\IsD H1 a/\ty Y H1 λy H2=>tx Y H2 λz H3=>∃o,rS H3 a y o/\Q (o.getD z) H3
def aeM(a:ae):V->V->Hp->VK->Prop:=λy z H3 Q=>∃o,rS H3 a y o/\Q (o.getD z) H3
def ah0(h:td Y H^rD2 ty tx Y Q):N9 td ty tx Y H Q:=h
def apw(hd:H a=!.dK kvs)(h:ty Y H λy H2=>tx Y H2 λz H3=>aeM a y z H3 Q):rD2 ty tx Y Q (¬a) H:=#[a,Z,.inl #[kvs,.inl hd],h]
def anw{z:V}(hd:H a=!.dK kvs)(h:Q ((c9 kvs^.inl i).getD z) H):aeM a (.int i) z H Q:=#[_,.inl #[kvs,.inl i,.inl hd,Z,Z],h]
def rDP(v x y:V)(H3:Hp)(R:Hp->eL):=∃a H4,x=¬a/\K7 H3 a y v H4/\R H4
def akh(h:tv Y H λv H1=>td Y H1 λx H2=>ty Y H2 λy H3=>rDP v x y H3 λH4=>nx Y H4):W4 td ty tv #[nx,rt,bk,ct] Y H:=h
def anx{R:Hp->eL}(hd:H a=!.dK kvs)(hz:bo<1000000)(h:∀H',mT H a (.dK^putK kvs (.inr x) v) H'->R H'):rDP v (¬a) (.str x) H R:=#[a,_,Z,.inl #[kvs,.inr x,hd,Z,cT hz (),Z],h _ rfl]
def anz{R:Hp->eL}(hd:H a=!.dK kvs)(hz:bo<1000000)(h:∀H',mT H a (.dK^putK kvs (.inl i) v) H'->R H'):rDP v (¬a) (.int i) H R:=#[a,_,Z,.inl #[kvs,.inl i,hd,Z,cT hz (),Z],h _ rfl]
def aki(h:∀p H',gX H p (.dK []) H'->Q (¬p) H'):N6 Y H Q:=λp hp=>h p _ #[hp,Z]
def jG{ys:List V}(ha:dD K H a xs)(hb:dD K H b ys)(hx:xs≠[])(hy:ys≠[])(hz:ab+ce<=1000000)(h:∀p H',gX H p (.tup (xs++ys)) H'->Q (¬p) H'):vS K (¬a) (¬b) H Q :=
 #[a,b,xs,ys,Z,Z,ha,hb,hx,bP hz (),λe=>absurd e hy,λz p hp=>h p _ #[hp,Z]]
def Xn:List V->Hp->VK->Prop:=λxs H Q=>∃i j,xs=[.int i,.int j]/\Q (.int (if j>i then j else i)) H
def GR(hc:X.calm=ag):ef X (.builtin "max") Xn:=KW hc
def akj{j:M}(h:Q (.int (if j>i then j else i)) H):Xn [.int i,.int j] H Q:=#[i,j,Z,h]
def OM{i:O}{y:bc}{py Pi:Pos}{ST iter:dr}{xs:List bc}{ifs:List dr}{fr:List bc}{wi:TI}(hN:X.N.Nodup)(Z8:X.N[i]?=!y)(hy:Loc X.env.scope y)
  (X2:f6 X scope cl xs fr ix)(hi:PI X tg iter wi)(hg:∀C fp s H,PG (ux X (xs++fr) scope cl C fp s H) tg g)
  (ht:∀C fp s H,PF (ux X (xs++fr) scope cl C fp s H) ifs tt)(he:∀C fp s H,PE (ux X (xs++fr) scope cl C fp s H) ST te)
  (hsw:⇑(swapsWith (.ListComp ST [#[tg,iter,ifs,0]] scope pos) (!.Name y py) Pi.line ax=pure true))
  (hs:⇑(∀v,foldedSetIterable iter ax v=pure v))(hf:‹X.fn y=ag\/X.env.scope.names.lookup y=!.local›):
  PS X (.Assign [.Name y py] (.ListComp ST [#[tg,iter,ifs,0]] scope pos) Pi)^DB (B4 wi g tt te ix ab) i:=by
 intro X1 s Y H D I h;rw[exec_Assign_Name_used _ _ _ _ hsw];show au^wpAny_standAt^au ?_;change wpAny _ X.A (do let _ <- comprehension (.ListComp ST [#[tg,iter,ifs,0]] scope pos) scope ax _ (newList []) bj (eval iter ax) (!assign (.Name y py) ax)) _ _ s;show au (wpAny_mono (wpAny_comprehension_free (use:=!assign (.Name y py) ax) (Q:=λq s'=>SP X X1 D .next s') Z hs X2.clos X2.kind X2.names
  (dw (hi X1 s Y H _ I h) λv s1 h1=>dw h1 λitv s2 h2=>?_)) (λq s' hq=>aW^aW hq) λq q e=>e)
 let#[it,fp,tn,Ya,H2,e,I2,T,Kk,f2,W,#[m0,w0],turn]:=h2;subst e;show oE X2 hg ht he I2 T Kk f2 (λys H=>∀p,H p=aw->D.nx (Y.set i^!.ref p)^upd H p^.lst ys) W m0 w0 turn λL C s' ys H' I' hm fC hD z=>?_;let#[m,hm]:=hm;change wpAny _ X.A (assign (.Name y py) ax^¬L) _ _ _;show wpAny_assign_Name^uJ I' hN Z8 hy (v:=¬L) Z (λs'' I'' Z9=>?_) hf;let#[a,Z9,ha]:=Z9;let hCa:C≠a:=by rcases ha with z|z;rw[z];show fC.2.1;show aR^fC.2.2.2.2.1 _ _ z
 show#[m,hm.sameBut Z9 hCa,λh' Md=>?_];show#[_,_,I''.turned (t':=s''.toks) (it:=C) (λb o hb e=>Md.extBut b o hb e) fC.1 fC.2.1 fC.2.2.2.1 fC.2.2.2.2.1 fC.2.2.2.2.2,z L hD]
end
structure TY (K:aC) (x qual:Str) (st:Stmt) (f:Addr) (fd:FuncData) (dV:Value):Prop where
 ex:∃(oc:Value)(od:Option Addr)(kV SB pm:Value)(an:Option Addr)(cdv ct:Value)(Hc:Array^Option Value),
  fd=PySem.W.fnOf x qual (gz st) (fK st) (av st) dV kV SB pm an cdv ct/\K.lookup f=some #[oc,od,.func fd,Hc]/\PySem.W.codeIn K cdv qual=true
 kp:PySem.W.keepIn K^.ref f=true
def TY.ok{qual:bc}{dV:J}{N:List bc}(F:TY K x qual st f fd dV)(S:aI N ps^av st)(len:∀vs H Q E,sp vs H Q E->dA=ci)
  (Kj:∀(cdv:J)(A:Around)(outer:List Env)(s:ap)(H:Hp)(vs:List V)(Q:VK)(E:XK),iW k^A.deeper^envOfC qual (av st) B f cdv->sp vs H Q E ->
   ∃t,z8 (Ds fW P w K mg base N qual (av st) f cdv A outer s H E).Zv (fK st) t/\t { nx:=λz H'=>Q .cB H',rt:=Q } (start N vs) H):bS P w K mg base fW (k+1) f fd ps sp:=by let#[oc,od,kV,SB,pm,an,cdv,ct,Hc,Z,lk,Kt]:=F.ex;show WX lk Kt S len λA outer s H vs Q E hr SH=>?_;let#[t,h,q]:=Kj cdv A outer s H vs Q E hr SH;show#[t,h.Zv,q]
def TZ{qual:bc}{dV:J}{Hc:Array^Option J}{kV SB cdv:J}(l:K.lookup f=some #[oc,od,.func^PySem.W.fnOf x qual (gz st) (fK st) (av st) dV kV SB pm an cdv ct,Hc])
  (c:PySem.W.codeIn K cdv qual=ag)(k:PySem.W.keepIn K^.ref f=ag):TY K x qual st f (PySem.W.fnOf x qual (gz st) (fK st) (av st) dV kV SB pm an cdv ct) dV:=#[#[oc,od,kV,SB,pm,an,cdv,ct,Hc,Z,l,c],k]
section
variable {nx bk ct:St->Hp->eL}{Y:St}{P:cf->Hp->eL}{ty:TE}{t u:TS}
theorem aeN{τ:St}(Pv:O->List V->Hp->eL)(h0:Pv 0 [] H)(hl:∀i ys H,i<=ab->Pv i ys H->dD K H a xs)
  (hs:∀i x ys H,xs[i]?=!x->Pv i ys H->ce<sizeLine/\tt (some x::τ) H λb H3=>if b=ag then te (some x::τ) H3 λy H4=>Pv (i+1) (ys++[y]) H4 else Pv (i+1) ys H3)
  (hd:∀ys H,Pv ab ys H->∀p H',gX H p (.lst ys) H'->Q (¬p) H'):Lp (SE K a) tt te τ Q H:=by
 show#[λi m ys H=>m=ab-i/\i<=ab/\Pv i ys H,#[ab,by simp,aV _,h0],?_];rintro i m ys H ⟨rfl,hi,p⟩;let q:=hl i ys H hi p;by_cases hlt:i<ab
 .have hx:xs[i]?=some xs[i]:=by simp[hlt]
  let#[hz,q']:=hs i _ ys H hx p;show .inr #[#[xs,xs[i],q,hx],hz,Pv (i+1),λY' H' p'=>#[ab-(i+1),∅,Z,hlt,p'],λx H' y=>?_];let#[e,y]:=y;subst e;let e2:x=xs[i]:=Option.some.inj^(y xs q).symm.trans hx;subst e2;show q'
 .have e:i=xs.length:=∅;subst e;show .inl #[#[xs,q,ay _],λr hr=>hd ys H p r _ #[hr,Z]]
end
end L2
namespace ZP
def qK:entryFor table "enumerate.__getattribute__" = !Builtin.«object.__getattribute__»:=entryFor_alias (id' := "object.__getattribute__") (by kernel_rfl) () () (by kernel_rfl)
def sj:typeLookup (.type "enumerate") "__getattr__" = pure none:=by rw[typeLookup_type,builtinLookup_eq_fast];kernel_rfl
def su:typeLookup (.type "enumerate") "keys" = pure none:=by rw[typeLookup_type,builtinLookup_eq_fast];kernel_rfl
def qL(x:ae)(fs:Array J)(u:Tok):
  Meets (Builtin.«object.__getattribute__» #[[¬x,.str "keys" u],[]]) (λA R s=>s.heap.get? x=!{ cls:=.type "enumerate", dict:=none,data:=.fields fs,slots:=#[] }/\raisesAttr (¬x) "keys" A R s):=by
 show Meets.of_wp λprog w A R s q=>?_;let#[h0,g0,d0,t0,o0]:=s;let#[hx,q]:=q;let hT:(#[h0,g0,d0,t0,o0]:ap).TypeIs (¬x) "enumerate" := #[_,hx,Z];let hmiss:=su;unfold Builtin.«object.__getattribute__»
 repeat (any_goals (first|assumption|wp_step))
 show wpAny_raiseAttrError q.1 q.2 (attrMsg_fits ()^by size_fits)
def sy{x:ae}{fs:Array J}{Q:Option J->ap->eL}(hx:s.heap.get? x=!{ cls:=.type "enumerate", dict:=none,data:=.fields fs,slots:=#[] })(hA:A.handled=aw)
  (q:∀h' tk,(∀b o,s.heap.get? b=!o->h'.get? b=!o)->Q aw { s with heap:=h',toks:=tk }):wpAny (model prog w) A (getAttr? (¬x) "keys") Q E s:=by
 let#[h0,g0,d0,t0,o0]:=s;let hT:∀tk',(#[h0,g0,d0,tk',o0]:ap).TypeIs (¬x) "enumerate" := λz=>#[_,hx,Z];let e1:=sub_AttributeError;let e2:=F.slot_enumerate_getattribute.lookup;let e3:=F.slot_enumerate_getattribute.bind^¬x;let e4:=sj;unfold getAttr? getAttrBy? getAttrBy
 repeat (any_goals (first|assumption|show hT _|((with_reducible show wpAny _ _ (call (Value.builtin "enumerate.__getattribute__") _ _) _ _ _);show call_meets F.slot_enumerate_getattribute (hT _) qK (F.args_enumerate_getattribute_2 _ _) (qL x fs _) #[hx,hA,λh' tk' e he=>?_])|wp_step))
 let#[t',u',hth]:=he.there;change wpAny _ _ (getattributeRaised _ _ _ _ _ _ _) _ _ _;unfold getattributeRaised
 repeat (any_goals (first|assumption|wp_step))
 show q _ _ he.keeps
abbrev vX(h:cv)(e it:ae)(i:M)(T:ae)(b:cf)(x:J):eL :=
 h.get? e=!{ cls:=.type "enumerate", dict:=none,data:=.fields #v[rawInt T,.bool b,¬it,rawInt i,.none,x],slots:=#[] }
def GS{e T:ae}{b:cf}{oT:du}{XV:Array J}{x Tl:J}{Q:Option J->ap->eL}
  (he:vX am e it i T b Tl)(hT:s.heap.get? T=!oT)(WP:s.heap.IsListIter it l i)(hl:s.heap.IsList l XV)(hx:XV[i]?=!x)(UV:e≠it)(hTe:T≠e)(hTi:T≠it)
  (q:∀h' b',vX h' e it ((i:M)+1) T b' Tl->h'.IsListIter it l (i+1)->h'.get? B=!{ cls:=.type "tuple", data:=.seq #v[.int i s.toks,x] } ->
   (∀c o,c≠e->c≠it->s.heap.get? c=!o->h'.get? c=!o)->Q (!.ref B) { s with heap:=h',toks:=s.toks+1 }):wpAny (model prog w) A (pyNext^¬e) Q E s:=by
 let ty:s.TypeIs (¬e) "enumerate" := #[_,he,Z];unfold pyNext;show au^wpAny_attempt^wpAny_callSpecial?_slot (name:=Str.ofString "__next__") ty F.slot_enumerate_next^wpAny_call_entry F.slot_enumerate_next ty F.entry_enumerate_next ?_^F.args_enumerate_next_1 _;let#[h0,g0,d0,t0,o0]:=s;change wpAny _ _ (field (¬e) 2 >>= _) _ _ _;show au^wpAny_field (i:=2) he Z rfl ?_;show au (wpAny_nextOf_list_item WP hl hx λh1 it1 Lw=>?_);let Lw:Heap.SameBut it h0 h1:=Lw;let e1:vX h1 e it i T b Tl:=(Lw.2 e UV).trans he;show au (m:=field (¬e) 3)^wpAny_field (i:=3) e1 Z rfl ?_;show au (m:=field (¬e) 4)^wpAny_field (i:=4) e1 Z rfl ?_;show au (m:=mkInt i)^wpAny_mkInt ?_;show au (m:=setField (¬e) 3^rawInt ((i:M)+1)) (wpAny_setField_rec e1 (by simp) λh2 e2 sb2=>?_);let sb2:Heap.SameBut e h1 h2:=sb2;let e2:vX h2 e it ((i:M)+1) T b Tl:=e2;show au (m:=setField (¬e) 4 .none) (wpAny_setField_rec e2 (by simp) λh3 e3 sb3=>?_);let sb3:Heap.SameBut e h2 h3:=sb3;let e3:vX h3 e it ((i:M)+1) T b Tl:=e3;show au (m:=newTuple [.int i t0,x])^wpAny_newTuple ?_;let sz:h3.objs.size=h0.objs.size:=by rw[sb3.1,sb2.1,Lw.1]
 let k3:∀c o,c≠e->c≠it->h0.get? c=!o->h3.get? c=!o:=λc o n1 n2 r=>sb3.extBut c o n1^sb2.extBut c o n1^Lw.extBut c o n2 r;let i3:h3.IsListIter it l (i+1):=(it1.extBut sb2.extBut^aR UV).extBut sb3.extBut^aR UV;let e4:vX (h3.push { cls:=.type "tuple", data:=.seq #v[.int i t0,x] }) e it ((i:M)+1) T b Tl:=eS _ e3;let T4:(h3.push { cls:=.type "tuple", data:=.seq #v[.int i t0,x] }).get? T=!oT:=eS _^k3 T oT hTe hTi hT;let p4:(h3.push { cls:=.type "tuple", data:=.seq #v[.int i t0,x] }).get? h0.objs.size=!{ cls:=.type "tuple", data:=.seq #v[.int i t0,x] }:=by rw[<- sz];show jB _ rfl
 let i4:(h3.push { cls:=.type "tuple", data:=.seq #v[.int i t0,x] }).IsListIter it l (i+1):=let⟨o,r1,r2⟩:=i3;#[o,eS _ r1,r2];let k4:∀c o,c≠e->c≠it->h0.get? c=!o->(h3.push { cls:=.type "tuple", data:=.seq #v[.int i t0,x] }).get? c=!o:=λc o n1 n2 r=>eS _^k3 c o n1 n2 r;rw[show(Value.ref h3.objs.size)=.ref h0.objs.size by rw[sz]];let ST:e<h0.objs.size:=aO he;generalize h3.push { cls:=.type "tuple", data:=.seq #v[.int i t0,x] }=h4 at *;show au (m:=Builtin.SmallTypes.ownedTupleIsFree^¬e) ?_;unfold Builtin.SmallTypes.ownedTupleIsFree;show au^wpAny_field (i:=0) e4 Z rfl ?_;change wpAny _ _ (loadIfAlive ((T:M).toNat) >>= _) _ _ _;rw[lg];show au^alive T4 ?_;change wpAny _ _ (field (¬e) 1 >>= _) _ _ _;show au^wpAny_field (i:=1) e4 Z rfl ?_;cases b;show au (m:=setField (¬e) 1^.bool ag) (wpAny_setField_rec e4 (by simp) λh5 e5 sb5=>?_);let sb5:Heap.SameBut e h4 h5:=sb5;show aW^aW #[_,Z,aW ?_];show q h5 ag e5 (i4.extBut sb5.extBut^aR UV) (sb5.extBut _ _ (jL ST) p4) λc o n1 n2 r=>sb5.extBut c o n1^k4 c o n1 n2 r;show aW^aW #[_,Z,aW ?_];show q h4 ag e4 i4 p4 k4
end ZP
def F.nL:PySem.entryFor PySem.table "dict.update.loop" = !PySem.Builtin.«dict.update.loop»:=PySem.entryFor_of_tree (by kernel_rfl)
def F.gY:PySem.plainId "dict.update.loop" = true:=()
namespace L2
noncomputable def e9(ks:O->Key)(vs:O->V):O->List (Key×V)
 | 0=>[]
 | i+1=>putK (e9 ks vs i) (ks i)^vs i
theorem iZ(ks:O->Key)(vs:O->V):∀i,(e9 ks vs i).length<=i
 | 0=>ay _
 | i+1=>by let h1:=fF (e9 ks vs i) (ks i)^vs i;let h2:=iZ ks vs i;change(putK (e9 ks vs i) (ks i)^vs i).length<=i+1;lia
structure Js (prog:Program) (w:World) (z d:Addr) (tn:String) (fp:List Addr) (n:Nat) (ks:Nat->Key) (vs:Nat->V) (St:Nat->Heap->Prop):Prop where
 ty:∀i(s:Shared),St i s.heap->s.TypeIs (¬z) tn
 nd:(Value.type tn != Value.type "dict")=true
 self:∀(A:Around)(s:Shared)(Q:Value->Shared->Prop)(E:Value->Shared->Prop),St 0 s.heap->Q (¬z) s->wpAny (model prog w) A (pyIter^¬z) Q E s
 nk:∀(A:Around)i(s:Shared)(Q:Option Value->Shared->Prop)(E:Value->Shared->Prop),A.handled=none->St i s.heap->(∀h' tk,(∀b o,s.heap.get? b=!o->h'.get? b=!o)->Q none { s with heap:=h',toks:=tk })->wpAny (model prog w) A (getAttr? (¬z) "keys") Q E s
 frame:∀i h h',St i h->(∀b o,b≠d->h.get? b=!o->h'.get? b=!o)->St i h'
 item:∀(A:Around)i(s:Shared)(Q:Option Value->Shared->Prop)(E:Value->Shared->Prop),A.handled=none->i<n->St i s.heap ->
  (∀h' tk u v,RelV (kV^ks i) u->RelV (vs i) v->(s.heap.objs.size≠d->St (i+1) h')->h'.get? s.heap.objs.size=!{ cls:=.type "tuple", data:=.seq #v[u,v] }->(∀b o,b∉fp->s.heap.get? b=!o->h'.get? b=!o) ->
   Q (!.ref s.heap.objs.size) { s with heap:=h',toks:=tk })->wpAny (model prog w) A (pyNext^¬z) Q E s
 done:∀(A:Around)(s:Shared)(Q:Option Value->Shared->Prop)(E:Value->Shared->Prop),A.handled=none->St n s.heap->(∀h',(∀b o,b∉fp->s.heap.get? b=!o->h'.get? b=!o)->Q none { s with heap:=h' })->wpAny (model prog w) A (pyNext^¬z) Q E s
def T3(prog:de)(w:cw)(A:Around)(s:ap)(d:ae)(S:cv->eL)(h:cv)(t:O)(T:ae):eL :=
 ∃u v o c,h.get? T=!o/\o.cls=.type "tuple" /\ o.data=.seq #v[u,v] c/\∀(Q:Unit->ap->eL)(E:J->ap->eL),(∀h2 t2,S h2->Q Unit.unit { s with heap:=h2,toks:=t2 })->wpAny (model prog w) A (dictSet d u v) Q E { s with heap:=h,toks:=t }
structure Lx (prog:Program) (w:World) (A:Around) (s:Shared) (z d:Addr) (n:Nat) (St:Nat->Heap->Prop):Prop where
 item:∀i h t (Q:Option Value->Shared->Prop) (E:Value->Shared->Prop),i<n->St i h->(∀h' t' T,T3 prog w A s d (St (i+1)) h' t' T->Q (!.ref T) { s with heap:=h',toks:=t' })->wpAny (model prog w) A (pyNext^¬z) Q E { s with heap:=h,toks:=t }
 done:∀h t (Q:Option Value->Shared->Prop) (E:Value->Shared->Prop),St n h->(∀h',St (n+1) h'->Q none { s with heap:=h',toks:=t })->wpAny (model prog w) A (pyNext^¬z) Q E { s with heap:=h,toks:=t }
theorem Lx.loop{z:ae}{St:O->cv->eL}(X2:Lx prog w A.in1 s z d n St)(hR:∀h t,St (n+1) h->R (.ok^.ret .none) { s with heap:=h,toks:=t }):
  ∀(k i:O)(h:cv)(t:O)(c:Tok),n-i=k->i<=n->St i h->codeAny (model prog w) A (.builtin "dict.update.loop" #[[¬d,¬z,.int i c,.none],[]]) R { s with heap:=h,toks:=t }:=by
 intro k;induction k with
 | zero =>
  intro i h t c hk hi st;let e:i=n:=∅;subst e;show codeAny_builtin F.nL ?_;rw[kL F.gY _];show au (X2.done h t _ _ st λh' Ts=>?_);change wpAny _ A.in1 (Builtin.Dict.addKeywords d [] >>= _) _ _ _;show au^aW^aW^hR h' t Ts
 | succ k ih =>
  intro i h t c hk hi st;let hlt:i<n:=∅;show codeAny_builtin F.nL ?_;rw[kL F.gY _];show au (X2.item i h t _ _ hlt st λh1 t1 T y=>?_);let#[u,v,o,c,ht,hc,hd,p]:=y;change wpAny _ A.in1 (holding [Value.ref T] _ >>= _) _ _ _;show au^wpAny_holding^au^wpAny_tryCatch ?_;unfold Builtin.Dict.pairItems;show au^wpAny_typeOf #[_,ht,hc] ?_;change wpAny _ _ (seqItems? (¬T) >>= _) _ _ _;show au^wpAny_seqItems ht hd^aW ?_;change wpAny _ _ (holding [u,v]^dictSet d u v) _ _ _;show wpAny_holding (p _ _ λh2 t2 Kk=>aW #[plainId_quiet F.gY _,ih (i+1) h2 t2 0 ∅ hlt Kk])
theorem Lx.call{Q:J->ap->eL}{x:ae}{ox:du}{tn:String}{St:ae->O->cv->eL}(hx:s.heap.get? x=!ox)(hc:ox.cls=.type tn)(nd:(Value.type tn != Value.type "dict")=ag)
  (nk:∀h(Q:Option J->ap->eL)(E:J->ap->eL),(∀b o,s.heap.get? b=!o->h.get? b=!o)->(∀h' tk,(∀b o,h.get? b=!o->h'.get? b=!o)->Q aw { s with heap:=h',toks:=tk })->wpAny (model prog w) A.in1.in1 (getAttr? (¬x) "keys") Q E { s with heap:=h })
  (start:∀h t (Q:J->ap->eL) (E:J->ap->eL),(∀b o,(s.heap.push { cls:=.type "dict", data:=.dict #[] }).get? b=!o->h.get? b=!o)->(∀z h',St z 0 h'->Q (¬z) { s with heap:=h',toks:=t })->wpAny (model prog w) A.in1.in1 (pyIter^¬x) Q E { s with heap:=h,toks:=t })
  (feed:∀z,Lx prog w A.in1.in1 s z B n^St z)(q:∀z h t,St z (n+1) h->Q (¬B) { s with heap:=h,toks:=t }):
  wpAny (model prog w) A (call (.type "dict") [¬x]) Q E s:=by show callType_codes (Q₁:=λx s1=>x=¬B/\s1={ s with heap:=s.heap.push { cls:=.type "dict", data:=.dict #[] } }) F.kt_called_dict (F.kt_typeCall_dict_1 _) F.entry_dict_init (kt_code_dict_new _ #[Z,Z]) ?_;rintro _ _ ⟨rfl,rfl⟩;let dd:(s.heap.push { cls:=.type "dict", data:=.dict #[] }).DictOf (bT prog w) B []:=Heap.DictOf.new am;show#[dd.typeIs,F.args_dict_init_2 _ _,?_];unfold Builtin.«dict.__init__»;show au ?_;unfold Builtin.Dict.selfAndRest;show au^wpAny_notOrdered_dict dd.typeIs ?_;show aW (a:=(B,[Value.ref x])) ?_;change wpAny _ _ (Builtin.Dict.updateFrom "dict.__init__" B (¬x) [] .none) _ _ _;unfold Builtin.Dict.updateFrom;show au^wpAny_typeOf (T:=tn) #[_,eS _ hx,hc] ?_;rw[if_pos nd];show au (nk _ _ _ (λb o e=>eS _ e) λh1 t1 k1=>?_);change wpAny _ _ (rule _ >>= _) _ _ _;show au^wpAny_rule^au (start _ _ _ _ k1 λz h' st=>?_);show aW #[plainId_quiet F.gY _,(feed z).loop (λh t Ts=>#[Z,q z h t Ts]) _ 0 h' t1 0 Z (aV _) st]
theorem Js.call{Q:J->ap->eL}{z:ae}{tn:String}{fp:List ae}{ks:O->Key}{vs:O->V}{St:O->cv->eL}(X2:Js prog w z B tn fp n ks vs St)(hfp:∀b∈fp,b<B)(hh:A.in1.in1.handled=aw)(hn:n<=sizeLine)(st:St 0 am)
  (q:∀h' tk rs,(∀b o,b∉fp->s.heap.get? b=!o->h'.get? b=!o)->h'.DictOf (bT prog w) B rs->KV (e9 ks vs n) rs->Q (¬B) { s with heap:=h',toks:=tk }):
  wpAny (model prog w) A (call (.type "dict") [¬z]) Q E s:=by
 let hd:B∉fp:=λh=>gK _^hfp _ h;let hsz:∀b o,s.heap.get? b=!o->b≠s.heap.objs.size:=λb o e=>aU^aO e;let dk:∀{h h':cv}{rs:List (Key×J)},h.DictOf (bT prog w) B rs->(∀b o,b∉fp->h.get? b=!o->h'.get? b=!o)->h'.DictOf (bT prog w) B rs:=λ⟨o,es,ep,x,r⟩ k=>#[o,es,ep,k _ o hd x,r];let#[ox,hx,hc]:=X2.ty 0 s st;show Lx.call (n:=n) (St:=λz' i h=>z'=z/\(i<=n->St i h)/\(∀b o,b∉fp->s.heap.get? b=!o->h.get? b=!o)/\∃rs,h.DictOf (bT prog w) B rs/\KV (e9 ks vs^min i n) rs) hx hc X2.nd (λh Q E k g=>X2.nk _ 0 _ _ _ hh (X2.frame _ _ _ st λb o j e=>k b o e) g) (λh t Q E k g=>?_) (λz'=>#[λi h t Q E hi y g=>?_,λh t Q E y g=>?_]) λz' h t y=>?_;let st1:St 0 h:=X2.frame _ _ _ st λb o j e=>k _ _^eS _ e;show X2.self _ { s with heap:=h,toks:=t } _ _ st1 (g z h #[Z,λj=>st1,λb o j e=>k _ _^eS _ e,[],dk (Heap.DictOf.new am) λb o j=>k b o,by rw[Nat.zero_min];show .nil])
 .let#[Z,y1,kp,rs,dd,W1]:=y;rw[mO^iD hi] at W1;show X2.item _ i { s with heap:=h,toks:=t } _ _ hh hi (y1^iD hi) λh1 t1 u v ru rv st1 ht k1=>g h1 t1 _ #[u,v,_,_,ht,Z,Z,λQ E g=>?_];let hT:dE≠s.heap.objs.size:=by let#[o,_,_,x,_]:=dd;show aR^aU^aO x
  show wpAny_dictSet_pairs (hsz:=by rw[<- W1.length];show bP (iZ ks vs i)^bP (iD hi) hn) (qm ru) (dk dd k1) λh2 d2 sb=>g h2 _ #[Z,λj=>X2.frame _ _ _ (st1 hT) λb o b1 x=>sb.extBut b o b1 x,λb o b1 e=>sb.extBut b o (hsz b o e)^k1 b o b1^kp b o b1 e,_,d2,?_];rw[mO hi];show W1.put (ks i) rv
 .let#[Z,y1,kp,rs,dd,W1]:=y;show X2.done _ { s with heap:=h,toks:=t } _ _ hh (y1^ay _) λh' k'=>g h' #[Z,λz=>absurd z^Nat.not_succ_le_self n,λb o b1 e=>k' b o b1^kp b o b1 e,rs,dk dd k',by rw[pM^gf n];rwa [Nat.min_self] at W1]
 .let#[Z,_,kp,rs,dd,W1]:=y;rw[pM^gf n] at W1;show q h t rs kp dd W1
theorem AK{Q:J->ap->eL}{XL:Array J}{D:O->cv->eL}(pl:PlainL am l XL)
  (nk:∀h(Q:Option J->ap->eL)(E:J->ap->eL),PlainL h l XL->(∀h' tk,(∀b o,h.get? b=!o->h'.get? b=!o)->Q aw { s with heap:=h',toks:=tk })->wpAny (model prog w) A.in1.in1 (getAttr? (¬l) "keys") Q E { s with heap:=h })
  (hh:A.in1.in1.handled=aw)(hsz:XL.size=n)(new:D 0 (s.heap.push { cls:=.type "dict", data:=.dict #[] }))
  (keep:∀i h h' it,D i h->it≠B->(∀o vs c,h.get? it=!o->o.data≠.seq vs c)->(∀b o,b≠it->h.get? b=!o->h'.get? b=!o)->D i h')
  (hp:∀i,i<n->∃(T:ae)(u v:J)(o:du)(c:O),XL[i]?=!.ref T/\s.heap.get? T=!o/\o.cls=.type "tuple" /\ o.data=.seq #v[u,v] c /\
   ∀h t (Q:Unit->ap->eL) (E:J->ap->eL),(∀b o,s.heap.get? b=!o->h.get? b=!o)->D i h->(∀h2 t2,D (i+1) h2->Heap.SameBut B h h2->Q Unit.unit { s with heap:=h2,toks:=t2 })->wpAny (model prog w) A.in1.in1 (dictSet B u v) Q E { s with heap:=h,toks:=t })
  (q:∀h' tk,(∀b o,s.heap.get? b=!o->h'.get? b=!o)->D n h'->Q (¬B) { s with heap:=h',toks:=tk }):
  wpAny (model prog w) A (call (.type "dict") [¬l]) Q E s:=by
 let sz:∀b o,s.heap.get? b=!o->b≠s.heap.objs.size:=λb o e=>aU^aO e;let itd:∀{h:cv}{z:ae}{i:O},h.IsListIter z l i->∀o vs n,h.get? z=!o->o.data≠.seq vs n:=λWP o vs n e z=>by let#[o',e',_,d']:=WP;rw[e] at e';cases e';rw[d'] at z;cases z
 let lst:∀{h:cv},(∀b o,s.heap.get? b=!o->h.get? b=!o)->h.IsList l XL:=λk=>(pl.keeps k).isList;let pl0:=pl;let#[ox,c,hx,e1,_]:=pl0;show Lx.call (n:=n) (St:=λz i h=>z≠B/\(∀b o,s.heap.get? b=!o->b≠z/\h.get? b=!o)/\(i<=n->h.IsListIter z l i)/\D (min i n) h) hx e1 () (λh Q E k g=>nk h Q E (pl.keeps k) g) (λh t Q E k g=>?_) (λz=>#[λi h t Q E hi y g=>?_,λh t Q E y g=>?_]) λz h t y=>?_;let k0:∀b o,s.heap.get? b=!o->h.get? b=!o:=λb o e=>k _ _^eS _ e;let lt1:∀b o,h.get? b=!o->b≠h.objs.size:=λb o e=>aU^aO e;let hdi:dE≠s.heap.objs.size:=aR^lt1 _ _^k _ _^jB _ rfl;show wpAny_pyIter_list (s:={ s with heap:=h,toks:=t }) (lst k0)^g _ _ #[hdi,λb o e=>#[lt1 b o^k0 b o e,eS _^k0 b o e],λj=>#[_,jB _ rfl,Z,Z],?_];rw[Nat.zero_min];show keep _ _ _ dE new hdi (λo vs c e=>absurd Z^lt1 _ _^k _ _ e) λb o j e=>eS _^k _ _ e;let#[zd,kp,WP,dd]:=y;let#[T,u,v,o,c,hT,h2,h3,h4,p]:=hp i hi;rw[mO^iD hi] at dd;let WP:=WP^iD hi;show wpAny_pyNext_list_item (s:={ s with heap:=h,toks:=t }) WP (lst λb o e=>(kp b o e).2) hT λh1 akl Lw=>g h1 t T ?_;let k1:∀b o,s.heap.get? b=!o->h1.get? b=!o:=λb o e=>Lw.extBut b o (kp b o e).1 (kp b o e).2;show#[u,v,o,c,k1 _ _ h2,h3,h4,λQ E g=>p h1 t Q E k1 (keep _ _ _ z dd zd (itd WP) λb o b1 e=>Lw.extBut b o b1 e) λh2 t2 d2 sb=>g h2 t2 #[zd,λb o e=>#[(kp b o e).1,sb.extBut b o (sz b o e)^k1 b o e],λj=>?_,?_]];let#[oi,Nj,ri]:=akl;show#[oi,sb.extBut z oi zd Nj,ri];rw[mO hi];show d2;let#[zd,kp,WP,dd]:=y;let WP:=WP^ay _;show wpAny_pyNext_list_end (s:={ s with heap:=h,toks:=t }) hh WP (lst λb o e=>(kp b o e).2) (vM ∅) λh' k'=>g h' #[zd,λb o e=>#[(kp b o e).1,k' b o (kp b o e).1 (kp b o e).2],λz=>absurd z^Nat.not_succ_le_self n,?_];rw[Nat.min_self] at dd;rw[pM^gf n];show keep _ _ _ z dd zd (itd WP) λb o b1 e=>k' b o b1 e;let#[zd,kp,WP,dd]:=y;rw[pM^gf n] at dd;show q h t (λb o e=>(kp b o e).2) dd
end L2
namespace ZP
def Ly{e T:ae}{b:cf}{XV:Array J}{Tl:J}{Q:Option J->ap->eL}(hh:A.handled=aw)
  (he:vX am e it i T b Tl)(WP:s.heap.IsListIter it l i)(hl:s.heap.IsList l XV)(hx:XV[i]?=aw)(q:∀h',Heap.ExtBut it am h'->Q aw { s with heap:=h' }):wpAny (model prog w) A (pyNext^¬e) Q E s:=by let ty:s.TypeIs (¬e) "enumerate" := #[_,he,Z];unfold pyNext;show au^wpAny_attempt^wpAny_callSpecial?_slot (name:=Str.ofString "__next__") ty F.slot_enumerate_next^wpAny_call_entry F.slot_enumerate_next ty F.entry_enumerate_next ?_^F.args_enumerate_next_1 _;change wpAny _ _ (field (¬e) 2 >>= _) _ _ _;show au^wpAny_field (i:=2) he Z rfl ?_;show au (wpAny_nextOf_list_end hh WP hl hx λh' y k hy=>?_);let#[o,ho,hc]:=hy;show au^wpAny_isInstance (T := "StopIteration") (b:=true) #[o,ho,hc] isSubtype_stop^aW ?_;show q _ k
end ZP
namespace L2
def GU{e:ae}{XL:List J}(rv:Vals xs XL)(KM:e≠it)(DO:d≠e)(hdi:d≠it)(hdl:d≠l)(hle:l≠e)(hli:l≠it)(vs:O->V)(Oy:∀i x,xs[i]?=!x->vs i=x):
  Js prog w e d "enumerate" [e,it] ab (λi=>.inl (i:M)) vs (λi h=>((∃Tl,IsEnum h e it i Tl)\/0<i/\∃T b x o,ZP.vX h e it i T b x/\h.get? T=!o/\T≠d/\T≠e/\T≠it)/\h.IsListIter it l i/\h.IsList l XL.toArray) where
 ty:=λi s st=>by rcases st.1 with⟨Tl,h⟩|⟨_,T,b,x,o,h,_⟩;show#[_,h,Z];show#[_,h,Z]
 nd:=()
 self:=λA s Q E st q=>by rcases st.1 with⟨Tl,h⟩|⟨i0,_⟩;show wpAny_pyIter_enum h q;show absurd i0^gK _
 nk:=λA i s Q E hh st q=>by rcases st.1 with⟨Tl,h⟩|⟨_,T,b,x,o,h,_⟩;show ZP.sy h hh q;show ZP.sy h hh q
 frame:=λi h h' st k=>by show#[?_,?_,?_];rcases st.1 with⟨Tl,q⟩|⟨i0,T,b,x,o,q,hT,n1,n2,n3⟩;show .inl #[Tl,k e _ (aR DO) q];show .inr #[i0,T,b,x,o,k e _ (aR DO) q,k T _ n1 hT,n1,n2,n3];let#[o,q,r]:=st.2.1;show#[o,k it o (aR hdi) q,r];let#[o,q,r]:=st.2.2;show#[o,k l o (aR hdl) q,r]
 item:=λA i s Q E hh hi st q=>by
  let hx:xs[i]?=!(xs[i]'hi):=by simp
  let#[u,hu,ru]:=rv.get hx;let hvi:vs i=xs[i]:=Oy i _ hx;let hlk:∀h':cv,(∀b o,b≠e->b≠it->s.heap.get? b=!o->h'.get? b=!o)->h'.IsList l XL.toArray:=λh' k=>let⟨o,a,r⟩:=st.2.2;#[o,k l o hle hli a,r];let hsz:∀b,b∈[e,it]->b≠s.heap.objs.size:=by
   intro b hb;erw[aP,d9,or_false] at hb;rcases hb with r|r<;>rw[r];rcases st.1 with⟨Tl,h⟩|⟨_,T,b,x,o,h,_⟩<;>show aU^aO h
   .let#[o,a,_]:=st.2.1;show aU^aO a
  let se:=hsz e (by simp);let si:=hsz it (by simp);rcases st.1 with⟨Tl,h⟩|⟨_,T,b,x,o,h,hT,n1,n2,n3⟩
  .show wpAny_pyNext_enum_item h st.2.1 st.2.2 (x:=u) (by simpa using hu) KM λh' a1 a2 a3 z a5=>?_;show q h' _ _ u #[_,Z] (by rw[hvi];show ru) (λhd=>#[.inr #[Nat.succ_pos _,_,false,u,_,a1,a3,hd,aR se,aR si],a2,hlk h' a5]) a3 λb o hb k=>a5 b o (λr=>hb^by simp[r]) (λr=>hb^by simp[r]) k
  .show ZP.GS h hT st.2.1 st.2.2 (x:=u) (by simpa using hu) KM n2 n3 λh' b' a1 a2 a3 a5=>?_;show q h' _ _ u #[_,Z] (by rw[hvi];show ru) (λz=>#[.inr #[Nat.succ_pos _,T,b',x,o,a1,a5 T o n2 n3 hT,n1,n2,n3],a2,hlk h' a5]) a3 λb o hb k=>a5 b o (λr=>hb^by simp[r]) (λr=>hb^by simp[r]) k
 done:=λA s Q E hh st q=>by
  let hl:XL.toArray[ab]?=none:=by erw[mL];show iA (by rw[rv.length];show ay _)
  rcases st.1 with⟨Tl,h⟩|⟨_,T,b,x,o,h,hT,n1,n2,n3⟩;show wpAny_pyNext_enum_end hh h st.2.1 st.2.2 hl λh' k=>q h' λb o hb r=>k b o (λy=>hb^by simp[y]) r;show ZP.Ly hh h st.2.1 st.2.2 hl λh' k=>q h' λb o hb r=>k b o (λy=>hb^by simp[y]) r
section
def oH(xs:List V):List (Key×V):=e9 (λi=>.inl (i:M)) (λi=>xs.getD i .cB) ab
def aaE(K:aC)(Q:VK):List V->Hp->Prop:=λvs H=>∃a xs,vs=[¬a]/\bI K H a xs/\∀p,H p=aw->Q (¬p)^upd H p^.dK^oH xs
def u0(K:aC)(ta:TA):TE:=λY H Q=>ta Y H^aaE K Q
theorem DP{a:dr}{ta:TA}{p1 p2 p3 p4:Pos}(Ll:Gl X "dict")(hm1:X.mg "dict" = none)(W7:Gl X "enumerate")(Ki:X.mg "enumerate" = none)(ha:PA X [a] ta)(hc:⇑(X.calm=true))
  (he:⇑(starEach [a] ax=(false,eval a ax)::starEach [] X.env))(TD:⇑((backTo p3^starEach [] ax).any (·.1)=false))
  (he1:⇑(starEach [Expr.Call (.Name "enumerate" p2) [a] [] p3] ax=[(false,eval (Expr.Call (.Name "enumerate" p2) [a] [] p3) ax)])):
  PE X (.Call (.Name "dict" p1) [.Call (.Name "enumerate" p2) [a] [] p3] [] p4)^u0 dq ta:=by
 intro X1 s Y H Q I h;show wpAny_Call_Name_kw^jE I Ll hm1 BT.yv ?_;show jN ?_ he1 Z;rw[he1];change wpAny _ _ (spliced [(false,eval (Expr.Call (.Name "enumerate" p2) [a] [] p3) ax)]) _ _ s;show mH ?_;show wpAny_Call_Name_kw^jE I W7 Ki BT.vV ?_;show jN (dw (ha p3 X1 s Y H _ I h) λus s1 zq=>?_) he TD;let#[vs,H1,I1,rv,q1]:=zq;let#[pa,xs,Z,hx,q]:=q1;let#[u,Z,r1]:=vals1 rv;cases r1;let#[XL,v1,pl,z1]:=I1.list hx;let hpa:pa<s1.heap.objs.size:=by let#[o,ho,_]:=pl.isList;show aO ho
 let hA:X.A.in1.in1.handled=none:=I1.ok.hd hc;show call_enumerate_list pl.isList λh' hE hI hsz hk=>nW ?_;let I2:Inv X X1 Y H1 { s1 with heap:=h',toks:=s1.toks }:=I1.kept hk;let fr:∀b,bn<=b->lD X X1 H1 b:=λb hb=>I1.rM hb^I1.hok.fresh hb;let zl:bn+2<=h'.objs.size:=by have:=hsz;lia
 let apB:@LT.lt O _ pa s1.heap.objs.size:=hpa;let n1:@Ne O dC (bn+1):=∅;let n2:@Ne O dC s1.heap.objs.size:=∅;let n3:@Ne O dC pa:=∅;let n4:@Ne O pa (bn+1):=∅;let n5:@Ne O pa s1.heap.objs.size:=∅;let big:@LT.lt O _ sysModules s1.heap.objs.size:=I1.big;let n6:@Ne O dC sysModules:=∅;show Js.call (s:={ s1 with heap:=h',toks:=s1.toks }) (GU (l:=pa) (d:=dC) v1 (Nat.succ_ne_self _) n1 n2 n3 n4 n5 (λi=>xs.getD i .cB) (λi x e=>by simp[List.getD,e])) ?_ hA z1 #[.inl #[_,hE],hI,let⟨o,e1,r⟩:=pl.isList;#[o,hk _ _ e1,r]] λh2 tk rs k2 dd W1=>?_
 .intro b hb;erw[aP,d9,or_false] at hb;change b<dC;rcases hb with r|r<;>rw[r];show(show @LT.lt O _ (bn+1) dC by lia);show(show @LT.lt O _ bn dC by lia)
 let fp2:∀b∈[bn+1,bn],lD X X1 H1 b:=by intro b hb;erw[aP,d9,or_false] at hb;rcases hb with r|r<;>rw[r];show fr _^gf _;show fr _^ay _
 let I3:Inv X X1 Y H1 { s1 with heap:=h2,toks:=tk }:=Inv.rZ (s:={ s1 with heap:=h',toks:=s1.toks }) (fp:=[bn+1,bn]) I2 (λb o hb e=>k2 b o hb e) fp2;let fd:=fr dC ∅;let I4:=I3.AF fd (o:=.dK^oH xs) #[bP (iZ _ _ _) z1,beq_eq_false_iff_ne.mpr n6,rs,W1,dd];show#[¬_,_,I4,Z,q _ fd.1]
variable {Y:St}
def aaF{ta:TA}(h:ta Y H^aaE K Q):u0 K ta Y H Q:=h
def anC(hS:bI K H a xs)(h:∀p H',gX H p (.dK^oH xs) H'->Q (¬p) H'):aaE K Q [¬a] H:=#[a,xs,Z,hS,λp hp=>h p _ #[hp,Z]]
theorem yH(ks:O->Key)(vs:O->V)(k:Key):∀n,(∀i,i<n->ks i≠k)->c9 (e9 ks vs n) k=aw
 | 0,_=>rfl
 | n+1,h=>by change c9 (putK (e9 ks vs n) (ks n)^vs n) k=aw;rw[ki,if_neg (λe=>h n (fZ _) e.symm)];show yH ks vs k n λi hi=>h i^je hi
theorem AL(ks:O->Key)(vs:O->V)(i:O):∀n,i<n->(∀j,i<j->j<n->ks j≠ks i)->c9 (e9 ks vs n)^ks i=!(vs i)
 | 0,h,_=>absurd h^jf _
 | n+1,h,hu=>by change c9 (putK (e9 ks vs n) (ks n)^vs n)^ks i=_;rw[ki];by_cases e:i=n;subst e;rw[if_pos Z];rw[if_neg (λr=>hu n ∅ (fZ _) r.symm)];show AL ks vs i n ∅ λj h1 h2=>hu j h1 ∅
theorem ON{x:V}(h:xs[i]?=!x):c9 (oH xs)^.inl (i:M)=!x:=by
 let hi:i<xs.length:=(gq h).1;have:=AL (λi=>.inl (i:M)) (λi=>xs.getD i .cB) i ab hi λj h1 z e=>by have:=Sum.inl.inj e;lia
 unfold oH;rw[this];simp[List.getD,h]
theorem GV{k:M}(h:k<0\/(ab:M)<=k):c9 (oH xs)^.inl k=none:=by show yH _ _ _ _ λi hi e=>?_;have:=Sum.inl.inj e;lia
end
section
variable {nx bk ct:St->Hp->eL}{Y:St}{P:cf->Hp->eL}{ty:TE}{t u:TS}
def anD{ti:TIp}{x:V}(e:Y[i]?=!!x)(h:te Y H λy H1=>ti x y H1 λz H2=>gM i z Y H2 nx):Zy i te ti #[nx,rt,bk,ct] Y H:=#[x,e,h]
def anE{f:M->M->M}{i j:M}(h:Q (.int^f i j) H):ipI f (.int i) (.int j) H Q:=#[i,j,Z,Z,h]
end
def GW{ds:List J}{T:ae}{o:du}{XV:Array J}(l:K.lookup T=!o)(hs:o.data=.seq XV n)(hd:fd.defaults=¬T)
  (h:∀us:List J,(us++ds).length=ci->∃k:Option^Array J->Sem^List (bc×J),bindArgs fd #[us,[]]=seqItems? fd.defaults >>= k/\k^some XV=pure^ps.zip (us++ds)):Binds K fd ps ds:=λs us X hl =>
 let⟨_,h1,h2⟩:=h us hl
 .of_defaults hd (X _ _ l) hs h1 h2
def DQ{T:ae}{o:du}{XV:Array J}(l:K.lookup T=!o)(hs:o.data=.seq XV n)(hd:fd.defaults=¬T)
  (h:∀us:List J,dv=ci->∃k:Option^Array J->Sem^List (bc×J),bindArgs fd #[us,[]]=seqItems? fd.defaults >>= k/\k^some XV=pure^ps.zip us):Binds K fd ps [] :=
 GW l hs hd λus hl=>by rw[cZ] at hl ⊢;show h us hl
section
variable {nx bk ct:St->Hp->eL}{Y:St}{ta:TA}
end
end L2
namespace HT
end HT
namespace L2
variable {vs:List V}
section
variable {nx bk ct:St->Hp->eL}{Y:St}
end
section
variable {nx bk ct:St->Hp->eL}{Y:St}{t:TA}{fs IN:List (bc×V)}{f:bc}{z:V}{E:XK}
def aeR(K:aC)(f:bc)(Q:VK):VK:=λx H1=>∃a C dx fs v,x=¬a/\H1 a=!.ins C dx fs/\Dh K C/\eV K C f/\fs.lookup f=!v/\Q v H1
def akm(h:ta Y H^aeR K f Q):K1 K ta f Y H Q:=h
def anF(h:H a=!.ins C dx fs)(c:Dh K C)(n:eV K C f)(l:fs.lookup f=!v)(q:Q v H):aeR K f Q (¬a) H:=#[a,C,dx,fs,v,Z,h,c,n,l,q]
def Xo(K:aC)(f:bc)(y:V)(Y:St)(nx:St->Hp->eL):VK:=λx H2=>∃a C dx fs,x=¬a/\H2 a=!.ins C dx fs/\Dh K C/\eV K C f/\fs.length<1000/\nx Y^upd H2 a^.ins C dx^fU f y fs
def akn(h:tv Y H λy H1=>ta Y H1^Xo K f y Y nx):adY K ta tv f #[nx,rt,bk,ct] Y H:=h
def ako(h:H a=!.ins C dx fs)(c:Dh K C)(n:eV K C f)(hl:fs.length<1000)(e:fU f y fs=IN)(q:∀H',mT H a (.ins C dx IN) H'->nx Y H'):Xo K f y Y nx (¬a) H:=#[a,C,dx,fs,Z,h,c,n,hl,by rw[e];show q _ rfl]
def OO(C:ae)(f:bc)(a:ae)(Y:St)(nx:St->Hp->eL):VK:=λz H3=>∃dx' IN,H3 a=!.ins C dx' IN/\IN.length<1000/\nx Y^upd H3 a^.ins C dx'^fU f z IN
def Xp(K:aC)(f:bc)(tv:TE)(rd:V->V->Hp->VK->eL)(Y:St)(nx:St->Hp->eL):VK:=λx H1=>∃a C dx fs v,x=¬a/\H1 a=!.ins C dx fs/\Dh K C/\eV K C f/\fs.lookup f=!v/\tv Y H1 λy H2=>rd v y H2^OO C f a Y nx
def acQ{rd:V->V->Hp->VK->eL}(h:ta Y H^Xp K f tv rd Y nx):IV K ta tv rd f #[nx,rt,bk,ct] Y H:=h
def akp{rd:V->V->Hp->VK->eL}(h:H a=!.ins C dx fs)(c:Dh K C)(n:eV K C f)(l:fs.lookup f=!v)(k:tv Y H λy H2=>rd v y H2^OO C f a Y nx):Xp K f tv rd Y nx (¬a) H:=#[a,C,dx,fs,v,Z,h,c,n,l,k]
def akq(h:H a=!.ins C dx fs)(hl:fs.length<1000)(e:fU f z fs=IN)(q:∀H',mT H a (.ins C dx IN) H'->nx Y H'):OO C f a Y nx z H:=#[dx,fs,h,hl,by rw[e];show q _ rfl]
def akr{i j:M}(h:Q (.int (i+j)) H):adZ (.int i) (.int j) H Q:=#[i,j,Z,Z,h]
def aaG{i j:M}(h:Q (.int (i-j)) H):ad0 (.int i) (.int j) H Q:=#[i,j,Z,Z,h]
def spM(sp:Sp)(E:XK)(Q:VK)(x:V):List V->Hp->Prop:=λvs H=>sp (x::(vs++[])) H Q E
def Xq(C:ae)(m:bc)(sp:Sp)(E:XK)(t:TA)(Y:St)(Q:VK):VK:=λx H1=>∃a dx fs,x=¬a/\H1 a=!.ins C dx fs/\fs.lookup m=aw/\t Y H1^spM sp E Q x
def ah3(h:ta Y H^Xq C m sp E t Y Q):Ax C m sp [] E ta t Y H Q:=h
def aks(h:H a=!.ins C dx fs)(l:fs.lookup m=aw)(k:t Y H^spM sp E Q^¬a):Xq C m sp E t Y Q (¬a) H:=#[a,dx,fs,Z,h,l,k]
def anG{x:V}(h:sp (x::vs) H Q E):spM sp E Q x vs H:=by unfold spM;rw[cZ];show h
def OP(C:ae)(sp:Sp)(E:XK)(Q:VK):List V->Hp->Prop:=λvs H1=>∀x dx,H1 x=aw->H1 dx=aw->dx≠x->sp (.ref x::(vs++[])) (upd (upd H1 dx^.own x) x^.ins C dx []) (λv H2=>v=.cB/\Q (¬x) H2) E
def ah4(h:t Y H^OP C sp E Q):WW C sp [] E t Y H Q:=h
def aaH(h:∀x dx H2,H x=aw->H dx=aw->dx≠x->H2=upd (upd H dx^.own x) x^.ins C dx []->sp (.ref x::vs) H2 (λv H3=>v=.cB/\Q (¬x) H3) E):OP C sp E Q vs H:=λx dx h1 h2 h3=>by rw[cZ];show h x dx _ h1 h2 h3 Z
def B7{a:dr}{ta:TA}{p1 p2 p3 p4:Pos}(e:dq=K)(Ll:Gl X "dict")(hm1:X.mg "dict" = none)(W7:Gl X "enumerate")(Ki:X.mg "enumerate" = none)(ha:PA X [a] ta)(hc:⇑(X.calm=true))
  (he:⇑(starEach [a] ax=(false,eval a ax)::starEach [] X.env))(TD:⇑((backTo p3^starEach [] ax).any (·.1)=false))
  (he1:⇑(starEach [Expr.Call (.Name "enumerate" p2) [a] [] p3] ax=[(false,eval (Expr.Call (.Name "enumerate" p2) [a] [] p3) ax)])):
  PE X (.Call (.Name "dict" p1) [.Call (.Name "enumerate" p2) [a] [] p3] [] p4)^u0 K ta:=e▸DP Ll hm1 W7 Ki ha hc he TD he1
end
def T5(k:bc):List bc->Option O
 | []=>none
 | a::r=>if a=k then !0 else(T5 k r).map (· + 1)
def fN{k:bc}{ks:List bc}{o:Option O}(h:T5 k ks=o):(ks.zip vs).lookup k=o.bind λi=>vs[i]?:=by
 subst h;induction ks generalizing vs with
 | nil=>rfl
 | cons a r ih =>
  cases vs with
  | nil=>cases T5 k (a::r)<;>simp
  | cons v vs =>
   by_cases e:a=k;simp[T5,e];simp[T5,e,List.lookup,beq_false_of_ne^aR e,ih];cases T5 k r<;>simp
def jH{k:bc}{x:V}{ks:List bc}(h:T5 k ks=!i)(hi:i<=dA):fU k x^ks.zip vs=ks.zip (vs.take i++x::vs.drop (i+1)):=by
 induction ks generalizing vs i with
 | nil=>cases h
 | cons a r ih =>
  by_cases e:a=k;cases vs<;>simp_all [T5,fU]<;>simp[<- h]
  .erw[T5,e,if_false] at h;let#[j,hj,Z]:=cU.mp h;cases vs with
   | nil=>cases hi
   | cons v vs=>simp[fU,e,ih hj^Nat.le_of_succ_le_succ hi]
def Xr:List Str:=["code", "sides", "at", "marked", "word", "sent", "answer", "steps"]
def tw1(co:V):List (bc×V):=Xr.zip [co]
def tw2(co si:V):List (bc×V):=Xr.zip [co,si]
def tw3(co si pl:V):List (bc×V):=Xr.zip [co,si,pl]
def tw4(co si pl mk:V):List (bc×V):=Xr.zip [co,si,pl,mk]
def tw5(co si pl mk wd:V):List (bc×V):=Xr.zip [co,si,pl,mk,wd]
def tw6(co si pl mk wd se:V):List (bc×V):=Xr.zip [co,si,pl,mk,wd,se]
def tw7(co si pl mk wd se an:V):List (bc×V):=Xr.zip [co,si,pl,mk,wd,se,an]
def uz(co si pl mk wd se an st:V):List (bc×V):=Xr.zip [co,si,pl,mk,wd,se,an,st]
section
variable {co si pl mk wd se an st x:V}
def OQ:fU "code" co []=tw1 co:=rfl
def T6:(tw1 co).length<1000:=dz Z
def OR:fU "sides" si^tw1 co=tw2 co si:=jH (i:=1) ()^dz Z
def T7:(tw2 co si).length<1000:=dz Z
def OS:fU "at" pl^tw2 co si=tw3 co si pl:=jH (i:=2) ()^dz Z
def T8:(tw3 co si pl).length<1000:=dz Z
def OT:fU "marked" mk^tw3 co si pl=tw4 co si pl mk:=jH (i:=3) ()^dz Z
def T9:(tw4 co si pl mk).length<1000:=dz Z
def OU:fU "word" wd^tw4 co si pl mk=tw5 co si pl mk wd:=jH (i:=4) ()^dz Z
def Ua:(tw5 co si pl mk wd).length<1000:=dz Z
def OV:fU "sent" se^tw5 co si pl mk wd=tw6 co si pl mk wd se:=jH (i:=5) ()^dz Z
def Ub:(tw6 co si pl mk wd se).length<1000:=dz Z
def OW:fU "answer" an^tw6 co si pl mk wd se=tw7 co si pl mk wd se an:=jH (i:=6) ()^dz Z
def Uc:(tw7 co si pl mk wd se an).length<1000:=dz Z
def OX:fU "steps" st^tw7 co si pl mk wd se an=uz co si pl mk wd se an st:=jH (i:=7) ()^dz Z
def Ud:(uz co si pl mk wd se an st).length<1000:=dz Z
def Ue:(uz co si pl mk wd se an st).lookup ("code" : bc)=!co:=fN (o:=!0) ()
def Ug:(uz co si pl mk wd se an st).lookup ("sides" : bc)=!si:=fN (o:=!1) ()
def Uh:(uz co si pl mk wd se an st).lookup ("at" : bc)=!pl:=fN (o:=!2) ()
def Ui:fU "at" x^uz co si pl mk wd se an st=uz co si x mk wd se an st:=jH (i:=2) ()^dz Z
def Uj:(uz co si pl mk wd se an st).lookup ("marked" : bc)=!mk:=fN (o:=!3) ()
def Uk:fU "marked" x^uz co si pl mk wd se an st=uz co si pl x wd se an st:=jH (i:=3) ()^dz Z
def Ul:(uz co si pl mk wd se an st).lookup ("word" : bc)=!wd:=fN (o:=!4) ()
def Um:fU "word" x^uz co si pl mk wd se an st=uz co si pl mk x se an st:=jH (i:=4) ()^dz Z
def Uo:(uz co si pl mk wd se an st).lookup ("sent" : bc)=!se:=fN (o:=!5) ()
def Uq:(uz co si pl mk wd se an st).lookup ("answer" : bc)=!an:=fN (o:=!6) ()
def Ur:fU "answer" x^uz co si pl mk wd se an st=uz co si pl mk wd se x st:=jH (i:=6) ()^dz Z
def Us:(uz co si pl mk wd se an st).lookup ("steps" : bc)=!st:=fN (o:=!7) ()
def Ut:fU "steps" x^uz co si pl mk wd se an st=uz co si pl mk wd se an x:=jH (i:=7) ()^dz Z
def aaI:(uz co si pl mk wd se an st).lookup ("box" : bc)=none:=fN (o:=none) ()
def aaJ:(uz co si pl mk wd se an st).lookup ("told" : bc)=none:=fN (o:=none) ()
def aaK:(uz co si pl mk wd se an st).lookup ("turn" : bc)=none:=fN (o:=none) ()
def aaL:(uz co si pl mk wd se an st).lookup ("step" : bc)=none:=fN (o:=none) ()
def aaM:(uz co si pl mk wd se an st).lookup ("must_cry" : bc)=none:=fN (o:=none) ()
def aaN:(uz co si pl mk wd se an st).lookup ("do_row" : bc)=none:=fN (o:=none) ()
def aaO:(uz co si pl mk wd se an st).lookup ("go_on" : bc)=none:=fN (o:=none) ()
end
section
variable {Y:St}{t:TA}
end
end L2
namespace ZP
def Ag:entryFor table "list.__getattribute__" = !Builtin.«object.__getattribute__»:=entryFor_alias (id' := "object.__getattribute__") (by kernel_rfl) () () (by kernel_rfl)
def B8:typeLookup (.type "list") "__getattr__" = pure none:=by rw[typeLookup_type,builtinLookup_eq_fast];kernel_rfl
def B9:typeLookup (.type "list") "keys" = pure none:=by rw[typeLookup_type,builtinLookup_eq_fast];kernel_rfl
def Ah(x:ae)(XL:Array J)(n:O)(sl:Array^Option J)(u:Tok):
  Meets (Builtin.«object.__getattribute__» #[[¬x,.str "keys" u],[]]) (λA R s=>s.heap.get? x=!{ cls:=.type "list", dict:=none,data:=.seq XL n,slots:=sl }/\raisesAttr (¬x) "keys" A R s):=by
 show Meets.of_wp λprog w A R s q=>?_;let#[h0,g0,d0,t0,o0]:=s;let#[hx,q]:=q;let hT:(#[h0,g0,d0,t0,o0]:ap).TypeIs (¬x) "list" := #[_,hx,Z];let hmiss:=B9;unfold Builtin.«object.__getattribute__»
 repeat (any_goals (first|assumption|wp_step))
 show wpAny_raiseAttrError q.1 q.2 (attrMsg_fits ()^by size_fits)
def Uu{x:ae}{XL:Array J}{Q:Option J->ap->eL}(hx:s.heap.get? x=!{ cls:=.type "list", dict:=none,data:=.seq XL n,slots:=sl })(hA:A.handled=aw)
  (q:∀h' tk,(∀b o,s.heap.get? b=!o->h'.get? b=!o)->Q aw { s with heap:=h',toks:=tk }):wpAny (model prog w) A (getAttr? (¬x) "keys") Q E s:=by
 let#[h0,g0,d0,t0,o0]:=s;let hT:∀tk',(#[h0,g0,d0,tk',o0]:ap).TypeIs (¬x) "list" := λz=>#[_,hx,Z];let e1:=sub_AttributeError;let e2:=F.slot_list_getattribute.lookup;let e3:=F.slot_list_getattribute.bind^¬x;let e4:=B8;unfold getAttr? getAttrBy? getAttrBy
 repeat (any_goals (first|assumption|show hT _|((with_reducible show wpAny _ _ (call (Value.builtin "list.__getattribute__") _ _) _ _ _);show call_meets F.slot_list_getattribute (hT _) Ag (F.args_list_getattribute_2 _ _) (Ah x XL n sl _) #[hx,hA,λh' tk' e he=>?_])|wp_step))
 let#[t',u',hth]:=he.there;change wpAny _ _ (getattributeRaised _ _ _ _ _ _ _) _ _ _;unfold getattributeRaised
 repeat (any_goals (first|assumption|wp_step))
 show q _ _ he.keeps
end ZP
namespace L2
def DR{XL:Array J}(hh:A.handled=aw)(h:cv)(Q:Option J->ap->eL)(E:J->ap->eL)(pl:PlainL h l XL)(g:∀h' tk,(∀b o,h.get? b=!o->h'.get? b=!o)->Q aw { s with heap:=h',toks:=tk }):wpAny (model prog w) A (getAttr? (¬l) "keys") Q E { s with heap:=h }:=by let#[#[cls,dc,da,sl],c,e0,e1,e2,e3]:=pl;simp only at e1 e2 e3;subst e1 e2 e3;show ZP.Uu e0 hh g
def GX{XL:Array J}{ks:O->Key}{vs:O->V}{Q:J->ap->eL}(hx:PlainL am l XL)(hh:A.in1.in1.handled=aw)(hn:n<=sizeLine)(hsz:XL.size=n)
  (hp:∀i,i<n->∃(T:ae)(u v:J)(o:du)(c:O),XL[i]?=!.ref T/\s.heap.get? T=!o/\o.cls=.type "tuple" /\ o.data=.seq #v[u,v] c/\RelV (kV^ks i) u/\RelV (vs i) v)
  (q:∀h' tk rs,(∀b o,s.heap.get? b=!o->h'.get? b=!o)->h'.DictOf (bT prog w) B rs->KV (e9 ks vs n) rs->Q (¬B) { s with heap:=h',toks:=tk }):
  wpAny (model prog w) A (call (.type "dict") [¬l]) Q E s:=by show AK (D:=λi h=>∃rs,h.DictOf (bT prog w) B rs/\KV (e9 ks vs i) rs) hx (DR hh) hh hsz #[[],Heap.DictOf.new am,.nil] (λi h h' it ⟨rs,⟨o,es,ep,x,r⟩,W1⟩ ne _ k=>#[rs,#[o,es,ep,k _ o (aR ne) x,r],W1]) (λi hi=>?_) λh t k ⟨rs,dd,W1⟩=>q h t rs k dd W1;let#[T,u,v,o,c,a1,a2,a3,a4,ru,rv]:=hp i hi;show#[T,u,v,o,c,a1,a2,a3,a4,λh t Q E z y g=>?_];let#[rs,dd,W1]:=y;show wpAny_dictSet_pairs (hsz:=by rw[<- W1.length];show bP (iZ ks vs i)^bP (iD hi) hn) (qm ru) dd λh2 d2 sb=>g h2 _ #[_,d2,W1.put (ks i) rv] sb
noncomputable def mW(ps:List (Key×V)):List (Key×V):=e9 (λi=>(ps.getD i (.inl 0,.cB)).1) (λi=>(ps.getD i (.inl 0,.cB)).2) ci
def vc(H:Hp):List V->List (Key×V)->Prop:=Paired λu p=>∃t,u=¬t/\H t=!.tup [kV p.1,p.2]
def aeS(K:aC):List V->Hp->VK->Prop:=λvs H Q=>∃a us ps,vs=[¬a]/\bI K H a us/\vc H us ps/\∀p,H p=aw->Q (¬p)^upd H p^.dK^mW ps
def Lz:∀{us:List V}{ps:List (Key×V)},vc H us ps->dv=ci/\∀i,i<ci->∃t,us[i]?=!.ref t/\H t=!.tup [kV (ps.getD i (.inl 0,.cB)).1,(ps.getD i (.inl 0,.cB)).2]:=by
 intro us ps h;induction h with
 | nil=>show#[Z,λi h=>absurd h^jf _]
 | cons h t ih =>
  let#[e,k]:=ih;show#[by simp[e],λi hi=>?_];cases i with
  | zero =>
   let#[z,Z,hz]:=h;show#[z,Z,hz]
  | succ i=>show k i^Nat.lt_of_succ_lt_succ hi
theorem vY(hc:X.calm=ag):ef X (.type "dict")^aeS X.K:=by
 intro X1 s Y H xs us Q I r h;let#[l,ul,ps,Z,hS,hP,q]:=h;let#[u,Z,r1]:=vals1 r;cases r1;let#[XL,rv,pl,hz]:=I.list hS;let#[e1,hk]:=Lz hP;let hA:X.A.in1.in1.handled=none:=I.ok.hd hc;let big:@LT.lt O _ sysModules s.heap.objs.size:=I.big;let n6:@Ne O B sysModules:=∅;let hl:=rv.length;show GX (n:=ci) (ks:=λi=>(ps.getD i (.inl 0,.cB)).1) (vs:=λi=>(ps.getD i (.inl 0,.cB)).2) pl hA ∅ (by rw[bB];lia) (λi hi=>?_) λh' tk rs k' d' W1=>?_
 .let#[t,ht,htt]:=hk i hi;let#[w,hw,PH]:=rv.get ht;cases PH;let#[RF,rv2,pt,_]:=I.tuple^dD.of htt;let#[o,ho,GE,n,hd]:=pt;cases rv2 with
  | cons a1 b1 =>
   cases b1 with
   | cons a2 b2 =>
    cases b2;show#[t,_,_,o,n,by simpa using hw,ho,GE,hd,a1,a2]
 .have I3:Inv X X1 Y H { s with heap:=h',toks:=tk }:=I.kept k';let fd:lD X X1 H s.heap.objs.size:=I.rM (ay _)^I.hok.fresh^ay _;let I4:=I3.AF fd (o:=.dK^mW ps) #[bP (iZ _ _ _) ∅,beq_eq_false_iff_ne.mpr n6,rs,W1,d'];show#[¬_,_,I4,Z,q _ fd.1]
def Xs{us:List V}{ps:List (Key×V)}(hS:bI K H a us)(hP:vc H us ps)(h:∀p H',gX H p (.dK^mW ps) H'->Q (¬p) H'):aeS K [¬a] H Q:=#[a,us,ps,Z,hS,hP,λp hp=>h p _ #[hp,Z]]
def anH{x:M}(hd:H a=!.dK kvs)(h:Q (.bl (c9 kvs^.inl x).isSome) H):rDI (.int x) (¬a) H Q:=#[a,_,Z,.inl #[kvs,.inl x,.inl hd,Z,Z],h]
theorem oJ(f:O->M):∀n,argBest (λi j=>decide (f i>f j)) n<=n/\∀i,i<=n->f i<=f (argBest (λi j=>decide (f i>f j)) n)
 | 0=>#[ay _,λi h=>by rw[Nat.le_zero.mp h];show Int.le_refl _]
 | n+1=>by
  let#[h1,h2]:=oJ f n;by_cases h:f (n+1)>f^argBest (λi j=>decide (f i>f j)) n
  .have e:argBest (λi j=>decide (f i>f j)) (n+1)=n+1:=by erw[argBest];rw[if_pos^decide_eq_true h]
   rw[e];show#[ay _,λi hi=>?_];rcases dg i (n+1) with hl|hl
   .have:=h2 i ∅;lia
   .rw[show i=n+1 by lia];show Int.le_refl _
  .have e:argBest (λi j=>decide (f i>f j)) (n+1)=argBest (λi j=>decide (f i>f j)) n:=by erw[argBest];rw[if_neg^by simpa using h]
   rw[e];show#[∅,λi hi=>?_];rcases dg i (n+1) with hl|hl;show h2 i ∅
   .rw[show i=n+1 by lia];lia
theorem AM:∀{xs:List M}{XL:List J},Vals (xs.map V.int) XL->∃ps:List (M×Tok),XL=ps.map (λp=>.int p.1 p.2)/\ps.map (·.1)=xs
 | [],_,.nil=>#[[],Z,Z]
 | x::xs,_,.cons r t=>by let#[u,Z]:=r;let#[ps,Z,e]:=AM t;show#[(x,u)::ps,Z,by simp[e]]
def Xu:V->List V->Hp->VK->Prop:=λx vs H Q=>∃i,x=.int i/\vs=[]/\Q (.int (Builtin.Int.intBits i:O)) H
def Uv:MtR X "int.bit_length" Xu:=by intro X1 s Y H x vs v us Q I rx rv h;let#[i,Z,Z,q]:=h;let#[t,Z]:=rx;cases rv;show call_int_bit_length #[.int _,H,I.tok _,#[_,Z],q]
def anI{i:M}{A:eL}(h:A):WZ K "int" (.int i) H/\A:=#[Z,h]
def akB{i:M}(h:Q (.int (Builtin.Int.intBits i:O)) H):Xu (.int i) [] H Q:=#[i,Z,Z,h]
section
variable {Y:St}
def GY{x:V}(d e:PyData)(k:O)(hk:k<=64)(hx:RD K H x d)(hy:RD K H y e)(hs:Sh k d)(Md:Sh k e)(h:Q (.bl^PyData.eqv d e) H):OD K x y H Q:=#[d,e,hx,hy,hs.shaped hk,Md.shaped hk,h]
end
section
variable {Y:St}
end
section
variable {Y:St}
end
def OY:List V->Hp->VK->Prop:=λxs H Q=>∃a kvs,xs=[¬a]/\H a=!.dK kvs/\∀l,H l=aw->Q (¬l)^upd H l^.lst (kvs.map λz=>kV z.1)
def LA{k:Key}{v:J}(h:(bT P w).is k v=ag):RelV (kV k) v:=by
 rw[Ge] at h;cases k with
 | inl i=>show Value.isInt_shape h
 | inr x=>show Value.isStrOf_shape h
def LB{vs:List (Key×J)}(r:KV kvs vs):∀{us:List J},dv=dA->(∀(j:O)(v:J),us[j]?=!v->∃k x,vs[j]?=!(k,x)/\(bT P w).is k v=ag)->Vals (kvs.map λz=>kV z.1) us:=by
 induction r with
 | nil =>
  intro us hl _;cases us with
  | nil=>show .nil
  | cons u us=>simp at hl
 | @cons p q kvs vs h _ ih =>
  intro us hl hk;cases us with
  | nil=>simp at hl
  | cons u us =>
   let#[k,x,e,hi]:=hk 0 u Z;let e':q=(k,x):=by simpa using e
   show .cons ?_ (ih (by simpa using hl) λj v hv=>by
    let#[k,x,e,hi]:=hk (j+1) v (by simpa using hv);show#[k,x,by simpa using e,hi])
   change RelV (kV p.1) u;rw[h.1,e'];show LA hi
theorem yI(hc:X.calm=ag):ef X (.type "list") OY:=by intro X1 s Y H xs us Q I r h;let#[a,kvs,Z,ha,q]:=h;let#[u,Z,ru]:=vals1 r;cases ru;let#[z,hd,vs,W1,dd]:=W3 I.hok ha;let#[ep,da]:=dd.dictAt;let hl:=W1.length;show PySem.W.kdl_call (PySem.W.kdl_dict (knd:=bT bi cq) hd) (I.ok.hd hc) da ∅ λh' tk TK c' hk hS TC=>?_;show#[¬B,_,I.laid (t':=tk) hk (ay _) (o:=.lst (kvs.map λz=>kV z.1)) #[by rw[aq];show z,TK.toList,c',?_,?_],Z,q _^I.hok.fresh^ay _];show LB W1 (by rw[dU];show TC.1) λj v e=>TC.2 j v (by rw[<- gG];show e);rw[hS,Array.toArray_toList]
def DS(K:aC)(a:ae)(n:O):It :=
 #[λi H=>i<n/\∃xs x,dD K H a xs/\ab=n/\xs[n-1-i]?=!x,λi H x H'=>H'=H/\∀xs,dD K H a xs->xs[n-1-i]?=!x,λi H=>i=n/\∃xs,dD K H a xs/\ab=n]
theorem LC(a it:ae)(n:O):Turn P w K tg (DS K a n) [it] it (λi h=>RV.uX h it a ((n:M)-1-(i:O))) where
 mem:=by simp
 obj:=λi h st b hb=>by
  let e:b=it:=by simpa using hb
  subst e;let#[o,e,c,d]:=st;show#[o,e,λv z=>by rw[d] at z;cases z]
 keep:=λi h h' st k=>st.at λo e=>k it (by simp) o e
 item:=by
  intro X hP hw hK hc i X1 s Y H E I hf st hg;subst hP hw hK;let#[hi,xs,x,hq,hl,hx]:=hg;let#[XL,rv,p,hz]:=I.tuple hq;let#[u,hu,ru]:=rv.get hx;let#[f0,f1,f2,f3,f4,f5]:=hf it (by simp);let XB:=rv.length;let e:(n:M)-1-(i:O)=((n-1-i:O):M):=∅;rw[e] at st;let h62:XL.toArray.size<2 ^ 62:=by rw[bB];show qB (show XL.length<=sizeLine by lia) ()
  show RV.next_item st p (x:=u) (by simpa using hu) h62 λh' tk Ts sb=>?_;let I1:Inv X X1 Y H { s with heap:=h',toks:=tk }:=I.turned (t':=tk) (λb o hb e=>(sb.2 b hb).trans e) f0 f1 f3 f4 f5;let e2:((n-1-i:O):M)-1=(n:M)-1-((i+1:O):M):=∅;rw[e2] at Ts;let#[o,eo,c,d]:=id Ts;show#[u,Z,Dq (s:={ s with heap:=h',toks:=tk }) eo c d () #[x,H,I1,ru,#[Z,λys hy=>by rw[I.Av hy hq];show hx],Ts,λb hb=>(hf b hb).1]]
 done:=by intro X hP hw hK hc i X1 s Y H E I hf st hg;subst hP hw hK;let#[hi,xs,hq,hl]:=hg;let#[f0,f1,f2,f3,f4,f5]:=hf it (by simp);let e:(n:M)-1-(i:O) = -1:=∅;rw[e] at st;show RV.next_end (I.ok.hd hc) st λh' eb=>#[Z,I.turned (t':=s.toks) (λb o hb e=>eb b o hb e) f0 f1 f3 f4 f5]
 self:=λq q q q q st h=>RV.uY st h
def Xv(K:aC)(tl:TE):TI:=λY H R=>tl Y H λx H1=>∃a xs,x=¬a/\dD K H1 a xs/\R (DS K a ab) H1
theorem Ju{x:dr}{p2 p3:Pos}(hg:Gl X "reversed")(hm:X.mg "reversed" = none)(hx:PE X x tx)(hc:X.calm=ag)(he:starEach [x] ax=[(false,eval x ax)]):
  PI X tg (.Call (.Name "reversed" p2) [x] [] p3)^Xv dq tx:=by
 intro X1 s Y H R I h;show wpAny_Call_Name_kw^jE I hg hm BT.yw ?_;show jN ?_ he Z;rw[he];change wpAny _ _ (spliced [(false,eval x ax)]) _ _ s;show mH (dw (hx X1 s Y H _ I h) λv s1 zq=>?_);let#[y,H1,I1,r1,q1]:=zq;show nW ?_;let#[a,xs,e,hq,q]:=q1;subst e;cases r1;let#[XL,rv,pl,hz]:=I1.tuple hq;let hl:=rv.length;let hsz:XL.toArray.size<=sizeLine:=by rw[bB];lia
 let h62:XL.toArray.size<2 ^ 62:=qB hsz ();show RV.rV pl ∅ λtk0=>?_;let st:RV.uX (s1.heap.push^RV.qJ a ((XL.toArray.size:M)-1)) bn a ((ab:M)-1-((0:O):M)):=#[_,jB _ rfl,Z,by simp[RV.qJ,hl]];show RV.uY (s:={ s1 with heap:=_,toks:=tk0 }) st ?_;show#[bn,[bn],_,_,H1,Z,I1.kept (t':=tk0) λb o e=>eS _ e,LC a _ ab,st,λb hb=>?_,q];let e:b=s1.heap.objs.size:=by simpa using hb
 subst e;show I1.rM (ay _)^I1.hok.fresh^ay _
section
variable {nx bk ct:St->Hp->eL}{Y:St}
def ah6(hd:H a=!.dK kvs)(h:∀l H',gX H l (.lst (kvs.map λz=>kV z.1)) H'->Q (¬l) H'):OY [¬a] H Q:=#[a,kvs,Z,hd,λl hl=>h l _ #[hl,Z]]
def DT(K:aC)(R:It->Hp->eL):V->Hp->Prop:=λx H1=>∃a xs,x=¬a/\dD K H1 a xs/\R (DS K a ab) H1
def akC{tl:TE}{R:It->Hp->eL}(h:tl Y H^DT K R):Xv K tl Y H R:=h
def Ca{p:ae}{R:It->Hp->eL}(hS:dD K H p xs)(h:R (DS K p ab) H):DT K R (¬p) H:=#[p,xs,Z,hS,h]
theorem OZ{tb:TS}(Pv:O->St->Hp->eL)(h0:Pv 0 Y H)(hl:∀i Y H,i<=ab->Pv i Y H->dD K H a xs)
  (hs:∀i x Y H,xs.reverse[i]?=!x->Pv i Y H->g x Y H λY2 H2=>tb #[Pv (i+1),rt,nx,Pv (i+1)] Y2 H2)(hd:∀Y H,Pv ab Y H->nx Y H):Ni (DS K a ab) g tb nx rt Y H:=by show#[λi m Y H=>m=ab-i/\i<=ab/\Pv i Y H,#[ab,by simp,aV _,h0],?_];rintro i m Y H ⟨rfl,hi,p⟩;let q:=hl i Y H hi p;by_cases hlt:i<ab;let hx:xs[ab-1-i]?=!(xs[ab-1-i]'∅):=iR ∅;show .inr #[#[hlt,xs,_,q,Z,hx],Pv (i+1),λY' H' p'=>#[ab-(i+1),∅,Z,hlt,p'],λx H' y=>?_];let#[e,y]:=y;subst e;show hs i x Y H' ?_ p;rw[List.getElem?_reverse hlt];show y xs q;let e:i=xs.length:=∅;subst e;show .inl #[#[Z,xs,q,Z],hd Y H p]
end
def Nk(g:TG)(tb:TS)(rt:VK)(br nx:St->Hp->eL):List V->St->Hp->eL
 | []=>nx
 | x::xs=>λY H=>g x Y H λY2 H2=>tb #[Nk g tb rt br nx xs,rt,br,Nk g tb rt br nx xs] Y2 H2
section
variable {nx:St->Hp->eL}{Y:St}{tb:TS}
def O0{x:V}(hx:xs[i]?=!x):Nk g tb rt nx nx^xs.drop i=λY H=>g x Y H λY2 H2=>tb #[Nk g tb rt nx nx^xs.drop (i+1),rt,nx,Nk g tb rt nx nx^xs.drop (i+1)] Y2 H2:=by let#[hi,e]:=gq hx;rw[BC hi,e];rfl
def aaP(C:∀H,dD K H a xs)(h:Nk g tb rt nx nx xs Y H):Ni (SE K a) g tb nx rt Y H:=by show f_tup (xs:=xs) (λi Y H=>Nk g tb rt nx nx (xs.drop i) Y H) h (λi Y H z z=>C H) (λi x Y H hx p=>?_) λY H p=>?_;rw[O0 hx] at p;show p;rw[List.drop_length] at p;show p
def Jv(C:∀H,dD K H a xs)(h:Nk g tb rt nx nx xs.reverse Y H):Ni (DS K a ab) g tb nx rt Y H:=by show OZ (xs:=xs) (λi Y H=>Nk g tb rt nx nx (xs.reverse.drop i) Y H) h (λi Y H z z=>C H) (λi x Y H hx p=>?_) λY H p=>?_;rw[O0 hx] at p;show p;rw[<- lz,List.drop_length] at p;show p
def Uw(hS:dD K H a [])(h:nx Y H):Ni (DS K a 0) g tb nx rt Y H:=#[λi m Y' H'=>i=0/\Y'=Y/\H'=H,#[0,Z,Z,Z],λi m Y' H' ⟨e1,e2,e3⟩=>by
 subst e1 e2 e3;show .inl #[#[Z,[],hS,Z],h]]
end
section
variable {τ:St}
end
section
variable {nx bk ct:St->Hp->eL}{Y:St}{t u:TS}
def Jw(t u:TS):TS:=KR t u
def akD{D:Ends}(h:Jw t u D Y H):KR t u D Y H:=h
def aaQ(h:∀nx':St->Hp->eL,(∀Y H,u #[nx,rt,λz z=>False,λz z=>False] Y H->nx' Y H)->t #[nx',rt,λz z=>False,λz z=>False] Y H):Jw t u #[nx,rt,λz z=>False,λz z=>False] Y H:=h _ λz z x=>x
def GZ(h:∀nx':St->Hp->eL,(∀Y H,u #[nx,rt,bk,ct] Y H->nx' Y H)->t #[nx',rt,bk,ct] Y H):Jw t u #[nx,rt,bk,ct] Y H:=h _ λz z x=>x
def aaR(h:∀no bk' ct':St->Hp->eL,(∀Y H,nx Y H->no Y H)->(∀Y H,bk Y H->bk' Y H)->(∀Y H,ct Y H->ct' Y H)->∀nx':St->Hp->eL,(∀Y H,u #[no,rt,bk',ct'] Y H->nx' Y H)->t #[nx',rt,bk',ct'] Y H):Jw t u #[nx,rt,bk,ct] Y H:=h _ _ _ (λz z x=>x) (λz z x=>x) (λz z x=>x) _ λz z x=>x
def aeT{c:TT}(h:∀kt kf:Hp->eL,(∀H,t #[nx,rt,bk,ct] Y H->kt H)->(∀H,u #[nx,rt,bk,ct] Y H->kf H)->c Y H λb H1=>if b=ag then kt H1 else kf H1):S8 c t u #[nx,rt,bk,ct] Y H:=h _ _ (λz x=>x) λz x=>x
end
end L2
namespace SN
open PySem
variable {xs:Array O}
theorem O1(hs:xs.toList.Pairwise (· < ·)):∀(fuel lo hi:O),hi-lo<=fuel->lo<=hi->hi<=xs.size->(∀i v,i<lo->xs[i]?=!v->v<j)->(∀i v,hi<=i->xs[i]?=!v->j<=v) ->
  ∀p,SetTable.below.go xs j fuel lo hi=p->p<=xs.size/\(∀i v,i<p->xs[i]?=!v->v<j)/\∀i v,p<=i->xs[i]?=!v->j<=v:=by
 let mono:∀{i k:O}{v u:O},i<k->xs[i]?=!v->xs[k]?=!u->v<u:=λ{i k v u} hik hi hk=>by rw[<- gG] at hi hk;let#[h1,e1]:=gq hi;let#[h2,e2]:=gq hk;rw[<- e1,<- e2];show nY.mp hs i k h1 h2 hik
 intro fuel;induction fuel with
 | zero =>
  intro lo hi hf hlh hsz h1 h2 p e;unfold SetTable.below.go at e;subst e;have:lo=hi:=∅;show#[∅,h1,λi v Id=>h2 i v ∅]
 | succ fuel ih =>
  intro lo hi hf hlh hsz h1 h2 p e;unfold SetTable.below.go at e;by_cases hlt:lo<hi
  .rw[if_pos hlt] at e;dsimp only at e;let hm:(lo+hi) / 2<xs.size:=∅;let hg:xs[(lo+hi) / 2]?=some xs[(lo+hi) / 2]:=ig hm;let hgd:xs.getD ((lo+hi) / 2) j=xs[(lo+hi) / 2]:=by simp[Array.getD,hm]
   rw[hgd] at e;by_cases hc:xs[(lo+hi) / 2]<j
   .rw[if_pos hc] at e;show ih ((lo+hi) / 2+1) hi ∅ ∅ hsz (λi v Id hv=>?_) h2 p e;rcases dg i ((lo+hi) / 2) with hl|hg'
    .have:=mono hl hv hg;lia
    .have:i=(lo+hi) / 2:=∅;subst this;rw[hg] at hv;cases hv;show hc
   .rw[if_neg hc] at e;show ih lo ((lo+hi) / 2) ∅ ∅ ∅ h1 (λi v Id hv=>?_) p e;rcases dg ((lo+hi) / 2) i with hl|hg'
    .have:=mono hl hg hv;lia
    .have:i=(lo+hi) / 2:=∅;subst this;rw[hg] at hv;cases hv;lia
  .rw[if_neg hlt] at e;subst e;show#[∅,h1,λi v Id=>h2 i v ∅]
theorem mX(hs:xs.toList.Pairwise (· < ·))(j:O):SetTable.below xs j<=xs.size/\(∀i v,i<SetTable.below xs j->xs[i]?=!v->v<j)/\∀i v,SetTable.below xs j<=i->xs[i]?=!v->j<=v :=
 O1 hs xs.size 0 xs.size ∅ ∅ (ay _) (λi v h=>absurd h^jf _) (λi v h hv=>by
  have:=(qj.mp hv).1;lia) _ rfl
theorem G0(hs:xs.toList.Pairwise (· < ·)):SetTable.below xs 0=0:=by let#[h1,h2,_]:=mX hs 0;rcases Nat.eq_zero_or_pos^SetTable.below xs 0 with e|hp;show e;have:=h2 0 xs[0] hp (ig ∅);lia
theorem G1(hs:xs.toList.Pairwise (· < ·)){v:O}(hv:xs[i]?=!v):SetTable.below xs (v+1)=i+1:=by
 let#[h1,h2,h3]:=mX hs (v+1);let hi:=(qj.mp hv).1;let mono:∀{i k:O}{v u:O},i<k->xs[i]?=!v->xs[k]?=!u->v<u:=λ{i k v u} hik hi hk=>by rw[<- gG] at hi hk;let#[h1,e1]:=gq hi;let#[h2,e2]:=gq hk;rw[<- e1,<- e2];show nY.mp hs i k h1 h2 hik
 rcases Nat.lt_trichotomy (SetTable.below xs (v+1)) (i+1) with hl|he|hg;have:=h3 i v ∅ hv;lia;show he;let hk:i+1<xs.size:=∅;let hu:=ig hk;let h4:=h2 (i+1) _ hg hu;let h5:=mono (fZ i) hv hu;lia
theorem qp(hs:xs.toList.Pairwise (· < ·))(hj:∀(i:O)(v:O),xs[i]?=!v->v≠j):(SetTable.insertAt xs (SetTable.below xs j) j).toList.Pairwise (· < ·):=by
 let#[h1,h2,h3]:=mX hs j;rw[SetTable.toList_insertAt];let hmt:∀v∈xs.toList.take^SetTable.below xs j,v<j:=λv hv=>by
  let#[i,hi]:=iC.mp hv;let hlt:i<SetTable.below xs j:=by have:=(gq hi).1;rw[cC] at this;lia
  rw[uD hlt,gG] at hi;show h2 i v hlt hi
 let hmd:∀v∈xs.toList.drop^SetTable.below xs j,j<v:=λv hv=>by let#[i,hi]:=iC.mp hv;rw[List.getElem?_drop,gG] at hi;let h4:=h3 _ v (oh _ _) hi;let h5:=hj _ v hi;lia
 rw[List.pairwise_append];show#[hs.sublist (List.take_sublist ..),?_,λa ha b hb=>?_];rw[uI];show#[hmd,hs.sublist (List.drop_sublist ..)]
 .have:=hmt a ha;rcases aP.mp hb with e|hb;lia
  .have:=hmd b hb;lia
end SN
namespace SG
open PySem
variable {es:Array (M×J)}{t:SetTable}{tp:ae}{o:du}{ys:List O}{Q:J->ap->eL}
structure Tab (led:Bool) (es:Array (Int×Value)) (t:SetTable):Prop where
 led:t.led=led
 LD:t.dummies=#[]
 up:t.place.toList.Pairwise (· < ·)
 fits:t.fits es.size=true
def Tab.sz(T:Tab led es t):t.place.size=es.size:=by have:=T.fits;unfold SetTable.fits at this;erw[qk,beq_iff_eq] at this;show this.1
def sA(h:t.dummies=#[])(j:O):SetTable.has t.dummies j=false:=by unfold SetTable.has;rw[h];simp
theorem qM(hs:t.place.toList.Pairwise (· < ·))(h:t.slot j=.empty):∀(i:O)(v:O),t.place[i]?=!v->v≠j:=by
 intro i v hv e;subst e;let#[h1,h2,h3]:=SN.mX hs v;let hi:SetTable.below t.place v<=i:=by rcases dg i^SetTable.below t.place v with hl|hg;show absurd (h2 i v hl hv)^gK _;show hg
 let hlt:=(qj.mp hv).1;let hb:SetTable.below t.place v<t.place.size:=qB hi hlt;let hg:=ig hb;let h4:=h3 _ _ (ay _) hg;let hi2:SetTable.below t.place v=i:=by rcases dg (SetTable.below t.place v) i with hl|hge;rw[<- gG] at hv hg;let#[a1,e1]:=gq hg;let#[a2,e2]:=gq hv;have:=nY.mp hs _ _ a1 a2 hl;rw[e1,e2] at this;lia;lia
 unfold SetTable.slot at h;dsimp only at h;rw[hi2,hv] at h;simp at h
def DU(hd:t.dummies=#[])(f:O->M)(x:M):∀(fuel:O)(p:SetTable.Probe)(j:O)(dm:Option O),p.dummy=aw->SetTable.probe.go t f x fuel p=!.empty j dm->dm=aw/\t.slot j=.empty:=by
 intro fuel;induction fuel with
 | zero=>intro p j dm _ h;cases h
 | succ fuel ih =>
  intro p j dm hp h;let adv:(t.advance p).dummy=none:=by unfold SetTable.advance;split<;>show hp
  unfold SetTable.probe.go at h;cases hs:t.slot p.j with
  | empty =>
   rw[hs] at h;cases h;show#[hp,hs]
  | dummy =>
   exfalso;unfold SetTable.slot at hs;dsimp only at hs;rw[sA hd] at hs;split at hs<;>cases hs
  | live i =>
   rw[hs] at h;dsimp only at h;split at h;cases h;show ih _ j dm adv h
def LF(hd:t.dummies=#[]){x:M}{b:cf}(h:t.freeSlot x=!(j,b)):b=bj/\t.slot j=.empty:=by
 unfold SetTable.freeSlot at h;cases e:t.probe (λz=>x+1) x^t.probeStart x with
 | none=>rw[e] at h;cases h
 | some m =>
  cases m with
  | candidate _ _ _=>rw[e] at h;cases h
  | empty k dm =>
   rw[e] at h;let#[Z,h2]:=DU hd _ _ _ _ k dm Z e;cases h;show#[Z,h2]
def sC(n:O):(Array.range n).toList.Pairwise (· < ·):=by rw[Array.toList_range];show BG
def Tab.lay(T:Tab led es t)(h:M)(x:J):
  ∃SU t1 gv,layNew t es h x=(SU,t1,false,gv)/\Tab led SU t1/\SU.toList.Perm (es.toList++[(h,x)]):=by
 let hp:=layNew_perm t es h x;let hf:=layNew_fits t es h x;rw[Array.toList_push] at hp;cases e:t.freeSlot h with
 | none =>
  let el:layNew t es h x=(es.push (h,x),t.standIn (cn+1),false,true):=by unfold layNew;rw[e]
  rw[el] at hp hf;show#[_,_,_,el,#[T.led,Z,sC _,hf],hp]
 | some q =>
  let#[j,b]:=q;let#[Z,hs]:=LF T.LD e;let aaS:t.put j=({ t with place:=SetTable.insertAt t.place (SetTable.below t.place j) j },SetTable.below t.place j):=by unfold SetTable.put;rw[sA T.LD];rfl
  let el:layNew t es h x=(SetTable.insertAt es (SetTable.below t.place j) (h,x),({ t with place:=SetTable.insertAt t.place (SetTable.below t.place j) j }:SetTable).orStandIn (SetTable.insertAt es (SetTable.below t.place j) (h,x)).size,false,not (({ t with place:=SetTable.insertAt t.place (SetTable.below t.place j) j }:SetTable).fits (SetTable.insertAt es (SetTable.below t.place j) (h,x)).size)):=by unfold layNew;rw[e];dsimp only;rw[aaS]
  rw[el] at hp hf;dsimp only at hp hf;show#[_,_,_,el,#[?_,?_,?_,hf],hp];unfold SetTable.orStandIn;split<;>show T.led;unfold SetTable.orStandIn;split;show T.LD;rfl;unfold SetTable.orStandIn;split;show SN.qp T.up^qM T.up hs;show sC _
def Tab.aeU(T:Tab led es t)(n:O):
    ∃SU t1 gv,relayAll t es n=(SU,t1,gv)/\Tab led SU t1/\SU.toList.Perm es.toList:=by
  let hp:=relayAll_perm t es n;let hf:=relayAll_fits t es n;generalize hR:relayAll t es n=R at hp hf;let#[SU,t1,gv]:=R;dsimp only at hp hf;show#[SU,t1,gv,Z,#[?_,?_,?_,hf],hp]<;>clear hp hf<;>unfold relayAll at hR<;>cases e:t.relaid (es.map (·.1)) n with
  | none =>
    rw[e] at hR;cases hR
    first|show T.led|rfl|show sC _
  | some q =>
    let#[t',od]:=q;rw[e] at hR;dsimp only at hR;split at hR
    · obtain⟨rfl,rfl,_⟩:_/\_/\_:=by simpa only[Prod.mk.injEq] using hR
      unfold SetTable.relaid SetTable.laid at e;cases e2:SetTable.layClean (SetTable.sizeAbove n-1)^es.map (·.1) with
      | none=>rw[e2] at e;cases e
      | some ow =>
        rw[e2] at e;cases e
        first
          | show T.led
          | rfl
          | (rw[List.toList_toArray,nZ]
             show List.Pairwise.filterMap _ (λa b SL x hx y hy=>?_)^BG (n:=SetTable.sizeAbove n-1+1);let#[_,_,Z]:=cU.mp hx;let#[_,_,Z]:=cU.mp hy;show SL)
    · cases hR
      first|show T.led|rfl|show sC _
open PySem.Spec PyProof.Rows
noncomputable def cV(w:cw):Bool:=w.params.followText "set-order"
def Ux:entryFor table "set.__iter__" = !Builtin.«frozenset.__iter__»:=entryFor_alias (id' := "frozenset.__iter__") (by kernel_rfl) Z () (by kernel_rfl)
def kT:Slot "set_iterator" "__next__" "set_iterator.__next__" := .of (owner := "set_iterator") (n := "__next__") (by rw[typeLookup_type,builtinLookup_eq_fast];kernel_rfl) () () () (by first|show .inl ()|show .inr ()) (by rw[isSubtype_type];kernel_rfl)
def Jx:entryFor table "set_iterator.__next__" = !Builtin.«set_iterator.__next__»:=entryFor_of_tree (by kernel_rfl)
def Jy(a:J):argsOk "set_iterator.__next__" #[[a],[]]:=by unfold argsOk;kernel_rfl
def xB:Slot "set_iterator" "__iter__" "set_iterator.__iter__" := .of (owner := "set_iterator") (n := "__iter__") (by rw[typeLookup_type,builtinLookup_eq_fast];kernel_rfl) () () () (by first|show .inl ()|show .inr ()) (by rw[isSubtype_type];kernel_rfl)
def Jz:entryFor table "set_iterator.__iter__" = !Builtin.«dict_keyiterator.__iter__»:=entryFor_alias (id' := "dict_keyiterator.__iter__") (by kernel_rfl) Z () (by kernel_rfl)
def JA(a:J):argsOk "set_iterator.__iter__" #[[a],[]]:=by unfold argsOk;kernel_rfl
noncomputable def ord(w:cw)(a:ae)(es:Array (M×J))(ep:O):Array (M×J):=if cV w=ag then pickOrder (w.params.setOrder a ep) es else es
theorem qN{α:Type}:∀(l:List α)(i:O)(h:i<d4),(l[i]::l.eraseIdx i).Perm l
 | x::l,0,_=>qy _
 | x::l,i+1,h=>by
  let hi:i<l.length:=by simpa using h
  erw[List.getElem_cons_succ,List.eraseIdx_cons_succ];show(List.Perm.swap x l[i] _).trans^(qN l i hi).cons x
theorem AN{α:Type}(nx:O->O):∀(fuel k:O)(left:List α)(out:Array α),left.length<=fuel->(pickOrder.go nx fuel k left out).toList.Perm (out.toList++left)
 | 0,k,left,out,h=>by
  unfold pickOrder.go;rw[List.eq_nil_of_length_eq_zero^Nat.le_zero.mp h,cZ]
 | fuel+1,k,left,out,h=>by
  unfold pickOrder.go;cases e:left[nx k % left.length]? with
  | none =>
   dsimp only;have:left=[]:=by
    cases left with
    | nil=>rfl
    | cons x l =>
     let hlt:nx k % (x::l).length<(x::l).length:=Nat.mod_lt _^Nat.zero_lt_succ _;rw[iR hlt] at e;cases e
   rw[this,cZ]
  | some x =>
   dsimp only;let#[hlt,ex]:=gq e;let hl:(left.eraseIdx (nx k % left.length)).length<=fuel:=by rw[List.length_eraseIdx_of_lt hlt];lia
   show(AN nx fuel (k+1) _ (out.push x) hl).trans ?_;rw[Array.toList_push,jD];show List.Perm.append_left _ ?_;have:=qN left _ hlt;rw[ex] at this;show this
def O2(w:cw)(a:ae)(es:Array (M×J))(ep:O):(ord w a es ep).toList.Perm es.toList:=by unfold ord;split;unfold pickOrder;have:=AN (w.params.setOrder a ep) cn 0 es.toList #[] (by simp);simpa using this;show qy _
def Ai{Yf:Model}{src:Source}{Q:O->ap->eL}(hn:n≠0)(h:∀i,i<n->Q i { s with drawn:=s.drawn.bump src }):wpAny Yf A (choose src n) Q E s :=
 λz z z=>#[hn,h _^Nat.mod_lt _^Nat.pos_of_ne_zero hn]
theorem yJ{Yf:Model}{A:Around}{E:J->ap->eL}{α:Type}:∀(n:O)(xs:List α)(s:ap)(Q:List α->ap->eL),ab<=n->(∀ys d',ys.Perm xs->Q ys { s with drawn:=d' })->wpAny Yf A (drawOrder n xs) Q E s
 | 0,xs,s,Q,hn,h=>by
  have:xs=[]:=List.eq_nil_of_length_eq_zero^Nat.le_zero.mp hn;subst this;show aW^h [] s.drawn^qy _
 | n+1,[],s,Q,hn,h=>aW^h [] s.drawn^qy _
 | n+1,x::xs,s,Q,hn,h=>by
  unfold drawOrder;show au (Ai (by simp) λi hi=>?_);let e:(x::xs)[i]?=some (x::xs)[i]:=iR hi;rw[e];dsimp only;let hl:((x::xs).eraseIdx i).length<=n:=by rw[List.length_eraseIdx_of_lt hi];erw[ck] at hn ⊢;lia
  show au (yJ n _ _ _ hl λys d' hp=>aW ?_);show h _ d'^(hp.cons _).trans^qN _ i hi
def sD{α:Type}{Q:α->ap->eL}(hh:A.handled=aw)(h:∀h' e o,(∀b x,s.heap.get? b=!x->h'.get? b=!x)->h'.get? e=!o->o.cls=.type "StopIteration" -> E (¬e) { s with heap:=h' }):wpAny (model prog w) A (newExc (.type "StopIteration") [] >>= λx=>(raiseNew x:Sem α)) Q E s:=by show au ?_;erw[newExc,newTuple];show au (wpAny_newObj_type (au (m:=firstArgMember _ _)^wpAny_of_eq (a:=Value.none) (by first|rfl|(erw[firstArgMember];rfl))^wpAny_newObj_type ?_^by size_fits)^by size_fits);erw[raiseNew];show au^wpAny_handled ?_;rw[hh];show au^aW^wpAny_throw^h _ _ _ (λb x e=>eS _^eS _ e) (jB _ rfl) Z
def Still(w:cw)(es:Array (M×J))(t:SetTable):=cV w=ag\/t.plain=ag\/cn<=1
def O3(w:cw)(a:ae)(o:du)(es:Array (M×J))(ep:O)(t:SetTable)(it:ae)(i:O)(h:cv):eL :=
 h.get? a=!o/\∃oi sl,h.get? it=!oi/\oi.cls=.type "set_iterator" /\ oi.data=.fields #v[.int ((sl:O):M) 0,.int ((i:O):M) 0,¬a,.int ((cn:O):M) 0,.int ((ep:O):M) 0]/\(cV w=bj->SetTable.below t.place sl=i)
def O3.ty(h:O3 w a o es ep t it i am):s.TypeIs (¬it) "set_iterator" := by let#[_,oi,sl,h1,h2,_]:=h;show#[oi,h1,h2]
theorem Uy{sl:O}{Q:Option (J×O)->ap->eL}(ho:s.heap.get? a=!o)(hd:o.data=.set es ep t)(T:Tab (not (cV w)) es t)(TW:Still w es t)(hb:cV w=bj->SetTable.below t.place sl=i)
  (h:∀S7,(∀e,(ord w a es ep)[i]?=!e->cV w=bj->SetTable.below t.place S7=i+1)->Q ((ord w a es ep)[i]?.map λe=>(e.2,S7)) s):wpAny (model prog w) A (setNext a sl i ep) Q E s:=by
 unfold setNext;show au^wpAny_setState_of ho hd T.fits ?_;dsimp only;unfold setsByText;show au^au^wpAny_askSetting^aW ?_;change wpAny _ _ (if cV w=ag then _ else _) _ _ _;cases hx:cV w with
 | true =>
  rw[if_pos Z];erw[bne_self_eq_false,cK,if_false];show au ?_;unfold setWalk;show au^wpAny_setState_of ho hd T.fits ?_;dsimp only;unfold setsByText;show au^au^wpAny_askSetting^aW ?_;change wpAny _ _ (if cV w=ag then _ else _) _ _ _;rw[if_pos hx];show au^wpAny_askSetting^aW^aW ?_;have:=h sl (λe q z=>by rw[hx] at z;cases z);unfold ord at this;rw[if_pos hx] at this;show this
 | false =>
  rw[if_neg ()];let aeV:t.led=true:=by rw[T.led,hx];rfl
  let hz:=T.sz;let hup:=T.up;let P2:=hb hx;let He:ord w a es ep=es:=by unfold ord;rw[hx];rfl
  rw[He] at h;let HI:(not t.plain&&decide (cn>1))=false:=by rcases TW with e|e|e;rw[hx] at e;cases e;rw[e];rfl;have:decide (cn>1)=false:=decide_eq_false ∅;rw[this,Bool.and_false]
  clear T hb ho hd TW;let#[mask,place,dummies,finger,led,moves,plain]:=t;dsimp only at aeV hz hup P2 h HI;subst aeV;change wpAny _ _ (if(not plain&&decide (cn>1))=ag then _ else _) _ _ _;rw[if_neg (by rw[HI];decide)];show au^wpAny_of_eq (a:=Unit.unit) Z ?_;dsimp only;rw[P2];rcases dg i es.size with hlt|hge
  .have e1:es[i]?=some es[i]:=ig hlt;let e2:place[i]?=some place[i]:=ig ∅;rw[e1,e2];show aW ?_;have:=h (place[i]+1) (λq q q=>SN.G1 hup e2);rw[e1] at this;show this
  .have e1:es[i]?=none:=vM hge;rw[e1];show aW ?_;have:=h 0 (λe z=>by rw[e1] at z;cases z);rw[e1] at this;show this
def JB{Q:Option J->ap->eL}(hh:A.handled=aw)(UV:a≠it)(hd:o.data=.set es ep t)(T:Tab (not (cV w)) es t)(TW:Still w es t)
  (I:O3 w a o es ep t it i am)(hQ:∀e,(ord w a es ep)[i]?=!e->∀h',O3 w a o es ep t it (i+1) h'->(∀b x,b≠it->s.heap.get? b=!x->h'.get? b=!x)->Q (!e.2) { s with heap:=h' })
  (hN:(ord w a es ep)[i]?=aw->∀h',(∀b x,b≠it->s.heap.get? b=!x->h'.get? b=!x)->Q aw { s with heap:=h' }):wpAny (model prog w) A (pyNext^¬it) Q E s:=by
 let ty:=I.ty;let#[ho,oi,sl,Nj,hc,hf,hb]:=I;unfold pyNext;show au^wpAny_attempt^wpAny_callSpecial?_slot (name:=Str.ofString "__next__") ty kT^wpAny_call_entry kT ty Jx ?_^Jy _;unfold Builtin.«set_iterator.__next__»;show au^wpAny_of_eq (a:=(Value.ref it,[])) Z ?_;show au^wpAny_fieldsOf Nj hf ?_;dsimp only;show au^wpAny_setEntries_of ho hd T.fits ?_;rw[if_neg^by simp];rw[show((sl:O):M).toNat=sl from Z,show((i:O):M).toNat=i from Z,show((ep:O):M).toNat=ep from Z];show au (Uy ho hd T TW hb λS7 P2=>?_);cases hi:(ord w a es ep)[i]? with
 | some e =>
  change wpAny _ _ (do setField (¬it) 0^rawInt S7;setField (¬it) 1^rawInt ((i:M)+1);ret e.2) _ _ s;let g1:=fz (Obj.mapFields (·.setIfInBounds 0 (rawInt S7))) Nj^jM^eT hf _;let d1:=eT hf (·.setIfInBounds 0 (rawInt S7));let hk:∀(f g:du->du)(b:ae)(x:du),b≠it->s.heap.get? b=!x->((s.heap.update it f).update it g).get? b=!x:=λf g b x hb e=>by rw[iT _ _ _ _ hb,iT _ _ _ _ hb];show e
  show au^wpAny_setField Nj hf (by simp)^au^wpAny_setField g1 d1 (by simp)^aW #[_,Z,aW^hQ e hi _ #[hk _ _ _ _ UV ho,_,S7,fz _ g1^jM^eT d1 _,(mP ..).trans^(mP ..).trans hc,?_,λhx=>P2 e hi hx]^hk _ _];rw[eT d1];simp[rawInt]
 | none =>
  change wpAny _ _ (do setField (¬it) 2 .none;raiseNew (<- newExc (.type "StopIteration") [])) _ _ s;show au^wpAny_setField Nj hf (by simp) (sD (show A.in1.handled=aw from hh) λh' e o k he hc=>au^wpAny_isInstance (T := "StopIteration") (b:=true) #[_,he,hc] isSubtype_stop^aW (hN hi h' λb x hb e=>k _ _ (by rw[iT _ _ _ _ hb];show e)))
def LG(hh:A.handled=aw)(UV:a≠it)(hd:o.data=.set es ep t)(T:Tab (not (cV w)) es t)(TW:Still w es t):
  Walks prog w A it [it,a] [it] (ord w a es ep).size (λi v=>∃e,(ord w a es ep)[i]?=!e/\v=e.2) (λi h=>O3 w a o es ep t it i h) where
 sub:=λb hb=>by simp at hb;simp[hb]
 frame:=λi h h' st hk=>by let#[h1,oi,sl,h2,r]:=st;show#[hk a (by simp) o h1,oi,sl,hk it (by simp) oi h2,r]
 item:=λi s Q E hi st hQ=>JB hh UV hd T TW st (λe he h' Ts hk=>hQ _ h' s.toks #[_,he,Z] Ts λb x hb e=>hk b x (λz=>hb^by simp[z]) e) λh=>by rw[ig hi] at h;cases h
 done:=λs Q E st hQ=>JB hh UV hd T TW st (λe h=>by rw[vM^ay _] at h;cases h) λq h' hk=>hQ h' s.toks λb x hb e=>hk b x (λz=>hb^by simp[z]) e
 self:=λi s Q E st hQ=>by let ty:=st.ty;show wpAny_pyIter_slot ty xB^wpAny_call_entry xB ty Jz ?_^JA _;change wpAny _ _ (ret^¬it) _ _ s;show aW #[_,Z, "set_iterator", _,ty,kT.lookup,hQ]
def O4(a:ae)(o:du)(es:Array (M×J))(ep:O)(tp:ae)(ys:List O)(it:ae)(i:O)(h:cv):eL :=
 h.get? a=!o/\(∃ot n,h.get? tp=!ot/\ot.data=.seq (ys.map λ(j:O)=>rawInt j).toArray n)/\∃oi,h.get? it=!oi/\oi.cls=.type "set_iterator" /\ oi.data=.fields #v[¬tp,.int ((i:O):M) 0,¬a,.int ((cn:O):M) 0,.int ((ep:O):M) 0]
def O4.ty(h:O4 a o es ep tp ys it i am):s.TypeIs (¬it) "set_iterator" := by let#[_,_,oi,h1,h2,_]:=h;show#[oi,h1,h2]
def JC{Q:Option J->ap->eL}(hh:A.handled=aw)(UV:a≠it)(hnt:tp≠it)(hd:o.data=.set es ep t)(Tb:t.fits cn=ag)
  (I:O4 a o es ep tp ys it i am)(hQ:∀j,ys[i]?=!j->∃e,es[j]?=!e/\∀h',O4 a o es ep tp ys it (i+1) h'->(∀b x,b≠it->s.heap.get? b=!x->h'.get? b=!x)->Q (!e.2) { s with heap:=h' })
  (hN:ys[i]?=aw->∀h',(∀b x,b≠it->s.heap.get? b=!x->h'.get? b=!x)->Q aw { s with heap:=h' }):wpAny (model prog w) A (pyNext^¬it) Q E s:=by
 let ty:=I.ty;let#[ho,#[ot,nt,JD,hdt],oi,Nj,hc,hf]:=I;unfold pyNext;show au^wpAny_attempt^wpAny_callSpecial?_slot (name:=Str.ofString "__next__") ty kT^wpAny_call_entry kT ty Jx ?_^Jy _;unfold Builtin.«set_iterator.__next__»;show au^wpAny_of_eq (a:=(Value.ref it,[])) Z ?_;show au^wpAny_fieldsOf Nj hf ?_;dsimp only;show au^wpAny_setEntries_of ho hd Tb ?_;rw[if_neg^by simp];show au^wpAny_seqItems JD hdt ?_;dsimp only;rw[show((i:O):M).toNat=i from Z];let e1:((ys.map λ(j:O)=>rawInt j).toArray)[i]?=(ys[i]?).map λj=>rawInt (j:O):=by rw[mL,bJ]
 rw[e1];cases hi:ys[i]? with
 | some j =>
  let#[e,he,hQ]:=hQ j hi;change wpAny _ _ (do let x <- setNextDrawn a ((j:O):M).toNat ((ep:O):M).toNat;setField (¬it) 1^rawInt ((i:M)+1);ret x) _ _ s;rw[show((j:O):M).toNat=j from Z,show((ep:O):M).toNat=ep from Z];show au ?_;unfold setNextDrawn;show au^wpAny_setState_of ho hd Tb ?_;dsimp only;rw[if_neg^by simp,he];show aW^au^wpAny_setField Nj hf (by simp)^aW #[_,Z,aW (hQ _ #[by rw[iT _ _ _ _ UV];show ho,#[ot,nt,by rw[iT _ _ _ _ hnt];show JD,hdt],_,fz _ Nj^jM^eT hf _,(mP ..).trans hc,?_] λb x hb e=>by rw[iT _ _ _ _ hb];show e)];rw[eT hf];simp[rawInt]
 | none =>
  change wpAny _ _ (do setField (¬it) 0^rawInt 0;setField (¬it) 2 .none;raiseNew (<- newExc (.type "StopIteration") [])) _ _ s;let g1:=fz (Obj.mapFields (·.setIfInBounds 0 (rawInt 0))) Nj^jM^eT hf _;let d1:=eT hf (·.setIfInBounds 0 (rawInt 0));show au^wpAny_setField Nj hf (by simp)^au^wpAny_setField g1 d1 (by simp) (sD (show A.in1.handled=aw from hh) λh' e o k he hc=>au^wpAny_isInstance (T := "StopIteration") (b:=true) #[_,he,hc] isSubtype_stop^aW (hN hi h' λb x hb e=>k _ _ (by rw[iT _ _ _ _ hb,iT _ _ _ _ hb];show e)))
noncomputable def vZ(es:Array (M×J))(ys:List O):Array (M×J):=(ys.map λj=>es.toList.getD j (0,.none)).toArray
def G2(h:ys.Perm^List.range cn):(vZ es ys).toList.Perm es.toList:=by
 unfold vZ;rw[List.toList_toArray];show(h.map _).trans ?_;have:(List.range cn).map (λj=>es.toList.getD j (0,.none))=es.toList:=by show List.ext_getElem (by simp) λi h1 h2=>?_;erw[ya,List.getElem_range];rw[xm,iR h2];rfl
 rw[this]
def DV(hh:A.handled=aw)(UV:a≠it)(hnt:tp≠it)(hd:o.data=.set es ep t)(Tb:t.fits cn=ag)(hp:ys.Perm^List.range cn):
  Walks prog w A it [it,a,tp] [it] (vZ es ys).size (λi v=>∃e,(vZ es ys)[i]?=!e/\v=e.2) (λi h=>O4 a o es ep tp ys it i h) where
 sub:=λb hb=>by simp at hb;simp[hb]
 frame:=λi h h' st hk=>by let#[h1,#[ot,nt,h2,h3],oi,h4,r]:=st;show#[hk a (by simp) o h1,#[ot,nt,hk tp (by simp) _ h2,h3],oi,hk it (by simp) oi h4,r]
 item:=λi s Q E hi st hQ=>by
  let Id:i<ys.length:=by simpa[vZ] using hi
  show JC hh UV hnt hd Tb st (λj e1=>?_) λh=>by rw[iR Id] at h;cases h
  obtain⟨e,e2⟩:∃e,es[j]?=some e:=#[_,ig^gJ.mp^hp.mem_iff.mp^jd e1];show#[_,e2,λh' Ts hk=>hQ _ h' s.toks #[e,?_,Z] Ts λb x hb e=>hk b x (λz=>hb^by simp[z]) e];unfold vZ;rw[mL,bJ,e1];change some^es.toList.getD j (0,.none)=_;rw[xm,gG,e2];rfl
 done:=λs Q E st hQ=>JC hh UV hnt hd Tb st (λj h=>by simp[vZ] at h) λq h' hk=>hQ h' s.toks λb x hb e=>hk b x (λz=>hb^by simp[z]) e
 self:=λi s Q E st hQ=>by let ty:=st.ty;show wpAny_pyIter_slot ty xB^wpAny_call_entry xB ty Jz ?_^JA _;change wpAny _ _ (ret^¬it) _ _ s;show aW #[_,Z, "set_iterator", _,ty,kT.lookup,hQ]
theorem O5(ho:s.heap.get? a=!o)(hx:o.ExactSet)(hd:o.data=.set es ep t)(T:Tab (not (cV w)) es t)(hsz:cn<=100000)
  (h:∀(it:ae)(h':cv)(d':Drawn)(fp:List ae)(od:Array (M×J))(St:O->cv->eL),(∀b x,s.heap.get? b=!x->h'.get? b=!x)->B<=it->(∀b∈fp,b=a\/B<=b)->od.toList.Perm es.toList ->
   (∀A':Around,A'.handled=aw->Walks prog w A' it fp [it] od.size (λi v=>∃e,od[i]?=!e/\v=e.2) St)->St 0 h'->Q (¬it) { s with heap:=h',drawn:=d' }):wpAny (model prog w) A (pyIter^¬a) Q E s:=by
 let ty:s.TypeIs (¬a) "set" := #[o,ho,hx.1];let hlt:=aO ho;show wpAny_pyIter_slot ty F.slot_set_iter^wpAny_call_entry F.slot_set_iter ty Ux ?_^F.args_set_iter_1 _;unfold Builtin.«frozenset.__iter__»;show au^wpAny_of_eq (a:=a) Z ?_;show au (m:=Builtin.Frozenset.sizeOf a)^au^wpAny_setEntries_of ho hd T.fits^aW ?_;unfold setDrawn;show au^au^wpAny_setState_of ho hd T.fits ?_;dsimp only;unfold setsByText;show au^au^wpAny_askSetting^aW^aW ?_;change wpAny _ _ (if(not (cV w)&&(not t.plain&&decide (cn>1)))=ag then _ else _) _ _ _;by_cases HI:(not (cV w)&&(not t.plain&&decide (cn>1)))=ag
 .rw[if_pos HI];show au (yJ cn (List.range cn) s _ (by simp) λys d' hp=>?_);let Nw:ce=es.size:=by rw[hp.length_eq,uF]
  show au^wpAny_newTuple ?_ (by rw[aq,Nw,sizeLine_eq];lia);show au^wpAny_setEpoch_of (eS _ ho) hd T.fits^au^wpAny_newObj_type^aW #[_,Z, "set_iterator", _,#[_,jB _ rfl,Z],kT.lookup,?_];dsimp only;let hz:(s.heap.push { cls:=.type "tuple", data:=.seq (ys.map λ(i:O)=>rawInt i).toArray }).objs.size=B+1:=by rw[fJ]
  show h _ _ d' [_,a,B] (vZ es ys) _ (λb x e=>eS _^eS _ e) (by rw[hz];show gf _) (λb hb=>?_) (G2 hp) (λA' hA=>DV hA (tp:=B) (by rw[hz];show aU^je hlt) (by rw[hz];show aU^fZ _) hd T.fits hp) ?_
  .erw[aP,d9,or_false] at hb;rcases hb with e|e|e;rw[e,hz];show .inr^gf _;show .inl e;rw[e];show .inr^ay _
  .show#[eS _^eS _ ho,#[_,_,eS _^jB _ rfl,Z],_,jB _ rfl,Z,Z]
 .rw[if_neg HI];let TW:Still w es t:=by unfold Still;cases hb:cV w;cases TD:t.plain;rw[hb,TD] at HI;simp at HI;show .inr^.inr HI;show .inr^.inl Z;show .inl Z
  show au^aW^au^wpAny_setEpoch_of ho hd T.fits^au^wpAny_newObj_type^aW #[_,Z, "set_iterator", _,#[_,jB _ rfl,Z],kT.lookup,?_];show h B _ s.drawn [B,a] (ord w a es ep) _ (λb x e=>eS _ e) (ay _) (λb hb=>?_) (O2 w a es ep) (λA' hA=>LG hA (aU hlt) hd T TW) ?_
  .erw[aP,d9,or_false] at hb;rcases hb with e|e;rw[e];show .inr^ay _;show .inl e
  .show#[eS _ ho,_,0,jB _ rfl,Z,Z,λz=>SN.G0 T.up]
def aaT(es:List (M×J)):=∀e∈es,∃n k,e=(hashInt n,Value.int n k)
def Small(led:cf)(h:cv)(a:ae)(ns:List M):eL :=
 ∃o es ep t,h.get? a=!o/\o.ExactSet/\o.data=.set es ep t/\Tab led es t/\aaT es.toList/\cn=ns.length/\ns.Nodup/\∀n,n∈ns↔∃k,((hashInt n,Value.int n k):M×J)∈es.toList
def Small.at'(S:Small led h a ns)(e:∀o,h.get? a=!o->h'.get? a=!o):Small led h' a ns:=by let#[o,es,ep,t,ho,r]:=S;show#[o,es,ep,t,e o ho,r]
def aaT.elems{es:List (M×J)}(h:aaT es):ElemsOf (intKind prog w) es:=λe he=>by let#[n,k,Z]:=h e he;show#[#[n,intKind_is _ _ _ _,Z],Z]
def DW(b:cf){s1:ap}{R:Unit->ap->eL}(h:R Unit.unit s1):wpAny (model prog w) A (match b with|true=>rule "set.scan.the-table-gave-way" | false=>pure Unit.unit) R E s1:=by cases b;show aW h;show wpAny_rule h
theorem DX(ho:s.heap.get? a=!o)(hx:o.ExactSet)(hd:o.data=.set es ep t){SU:Array (M×J)}{t1:SetTable}(T1:Tab led SU t1)(hz:SU.size<=100000)
  {g:cf->Sem Unit}(hg:∀(b:cf)(s₁:ap)(Q':Unit->ap->eL),Q' Unit.unit s₁->wpAny (model prog w) A (g b) Q' E s₁){R:Option cf->ap->eL}
  (h:∀h' o2 sE LH t2,Heap.SameBut a am h'->h'.get? a=!o2->o2.ExactSet->o2.data=.set sE LH t2->Tab led sE t2->sE.toList.Perm SU.toList->R (!true) { s with heap:=h' }):
  wpAny (model prog w) A (do
    storeSet a SU t1
    if(not bj&&t1.tooFull)=ag then do
      g (relayAll t1 SU^SetTable.grown SU.size).2.2
      storeSet a (relayAll t1 SU^SetTable.grown SU.size).1 (relayAll t1 SU^SetTable.grown SU.size).2.1
      pure^!true
     else pure^!true) R E s:=by
 show au^wpAny_storeSet_of ho hd ?_ (by rw[sizeLine_eq];lia);let Ll:=fz (Obj.putSet SU t1) ho (by rw[putSet_of SU t1 hd];rfl);rw[putSet_of SU t1 hd] at Ll;let Lw:=k9 am a^Obj.putSet SU t1;split
 .let#[sE,t2,gv,er,T2,SF]:=T1.aeU^SetTable.grown SU.size;rw[er];dsimp only;let hz2:sE.size=SU.size:=by rw[<- dU,SF.length_eq,dU]
  show au^hg _ _ _ ?_;show au^wpAny_storeSet_of Ll Z ?_ (by rw[sizeLine_eq];lia);let W7:=fz (Obj.putSet sE t2) Ll (by rw[putSet_of sE t2 Z];rfl);rw[putSet_of sE t2 Z] at W7;show aW^h _ _ sE _ t2 (Lw.trans^k9 _ a _) W7 hx Z T2 SF
 .show aW^h _ _ SU _ t1 Lw Ll hx Z T1^qy _
theorem add_int{k:M}{q:Tok}{Q:cf->ap->eL}(hS:Small led am a ns)(hl:ns.length<=4000)
  (h:∀b h',Heap.SameBut a am h'->Small led h' a (if k∈ns then ns else ns++[k])->Q b { s with heap:=h' }):wpAny (model prog w) A (setAddHashed a (.int k q)^hashInt k) Q E s:=by
 let#[o,es,ep,t,ho,hx,hd,T,hI,hz,nd,mem]:=hS;let hel:=hI.elems (prog:=prog) (w:=w);let hb:cn<scanBound:=by unfold scanBound;lia
 let isk:(intKind prog w).is k^.int k q=true:=intKind_is _ _ _ _;unfold setAddHashed setAddHashedIn;show wpAny_holding^au^wpAny_setState_of ho hd T.fits ?_;dsimp only;rw[byScan_of (knd:=intKind prog w) Z hb hel,if_pos Z];unfold setAddByScan;show au^au^wpAny_rule^au^wpAny_setScan_of (knd:=intKind prog w) isk ho hd T.fits hel ?_;cases hr:es.toList.findIdx? (λe=>(intKind prog w).is k e.2) with
 | some j =>
  dsimp only;let#[hj,hpj,_]:=List.findIdx?_eq_some_iff_getElem.mp hr;let Sr:k∈ns:=by rw[mem];let hm:=ly hj;let#[n,c,e3]:=hI _ hm;rw[e3] at hpj hm;have:k=n:=(intKind prog w).inj _ _ _ hpj^intKind_is _ _ _ _;rw[this];show#[c,hm]
  show aW^aW ?_;show h bj am (Heap.SameBut.refl a am) (by rw[if_pos Sr];show#[o,es,ep,t,ho,hx,hd,T,hI,hz,nd,mem])
 | none =>
  dsimp only;let IH:=List.findIdx?_eq_none_iff.mp hr;let O6:k∉ns:=λSr=>by let#[c,hc]:=(mem _).mp Sr;have:=IH _ hc;rw[intKind_is] at this;cases this
  let#[SU,t1,gv,hlay,T1,SF]:=T.lay (hashInt k)^.int k q;let hz1:SU.size=cn+1:=by rw[<- dU,SF.length_eq,aT,dU];rfl
  rw[hlay];dsimp only;show au^DW gv ?_;let fin:∀h' o2 sE LH t2,Heap.SameBut a am h'->h'.get? a=!o2->o2.ExactSet->o2.data=.set sE LH t2->Tab led sE t2->sE.toList.Perm SU.toList->Q ag { s with heap:=h' }:=λh' o2 sE LH t2 sb g2 x2 d2 T2 p2=>by
   let p3:=p2.trans SF;show h ag h' sb ?_;rw[if_neg O6];show#[o2,sE,LH,t2,g2,x2,d2,T2,λe he=>?_,by rw[aT,<- dU,p3.length_eq,aT,dU,hz];rfl,?_,λn=>?_];rcases aM.mp^p3.mem_iff.mp he with he|he;show hI e he;show#[k,q,aJ.mp he];rw[fB];show#[nd,by simp,λx hx' y hy e=>O6 (by rw[<- aJ.mp hy,<- e];show hx')]
   .rw[aM,aJ,mem n];constructor;rintro(⟨c,hc⟩|e);show#[c,p3.mem_iff.mpr^j8 _ hc];rw[e];show#[q,p3.mem_iff.mpr^by simp];rintro⟨c,hc⟩;rcases aM.mp^p3.mem_iff.mp hc with hc|hc;show .inl #[c,hc];rw[aJ] at hc;have:=congrArg Prod.snd hc;injection this with e1 e2;show .inr e1
  split
  .show au ?_;rw[hashByValue_scannable 8 (x:=.int k q) Z];show aW ?_;erw[plainKind,if_true];show DX ho hx hd T1 ∅ (λb s₁ Q' hq=>?_) λh' o2 sE LH t2 sb g2 x2 d2 T2 p2=>?_
   .cases b<;>first|show aW hq|show wpAny_rule hq
   .show aW^fin h' o2 sE LH t2 sb g2 x2 d2 T2 p2
  .show au^aW ?_;erw[if_true];show DX ho hx hd T1 ∅ (λb s₁ Q' hq=>?_) λh' o2 sE LH t2 sb g2 x2 d2 T2 p2=>?_
   .cases b<;>first|show aW hq|show wpAny_rule hq
   .show aW^fin h' o2 sE LH t2 sb g2 x2 d2 T2 p2
noncomputable def Cb(val:O->M):O->List M
 | 0=>[]
 | i+1=>if val i∈Cb val i then Cb val i else Cb val i++[val i]
theorem O7(val:O->M)(i:O):(Cb val i).length<=i:=by induction i with grind [Cb]
theorem O8(val:O->M)(i:O)(n:M):n∈Cb val i↔∃j,j<i/\n=val j:=by induction i with grind [Cb]
theorem O9{G:Array GenState->Array GenState->eL}{P:O->J->eL}{St:O->ap->eL}(W:WalksS prog w A.in1 I fp wr G n P St)(d:ae)(hd:d∉fp)(Sp:O->cv->eL)
  (at':∀i h h',Sp i h->(∀b o,b∉wr->h.get? b=!o->h'.get? b=!o)->Sp i h')
  (add:∀(E':J->ap->eL) i v (s':ap) (Q:cf->ap->eL),i<n->P i v->Sp i d6->(∀b h' tk,s'.toks<=tk->Heap.SameBut d d6 h'->Sp (i+1) h'->Q b { s' with heap:=h',toks:=tk })->wpAny (model prog w) A.in1 (setAdd d v) Q E' s'):
  ∀(m i:O)(s:ap),n-i=m->i<=n->St i s->Sp i am->(∀s',Moved (d::wr) G s s'->Sp n d6->R (.ok^.ret .none) s') ->
   codeAny (model prog w) A (.builtin "set.update.loop" #[[¬d,¬I],[]]) R s:=by
 let hdw:d∉wr:=λh=>hd^W.sub _ h;let up:∀b∈wr,b∈d::wr:=λb hb=>d8 _ hb;intro m;induction m with
 | zero =>
  intro i s em hi st hS hR;obtain rfl:i=n:=∅;show codeAny_builtin PyProof.Rows.F.entry_set_update_loop ?_;rw[kL PyProof.Rows.F.plain_set_update_loop];show au (m:=pyNext^¬I) (W.done s _ _ st λs' hm=>?_);show aW^hR s' (hm.mono up) (at' _ _ _ hS λb o hb e=>hm.heap b o hb e)
 | succ m ih =>
  intro i s em hi st hS hR;let hlt:i<n:=∅;show codeAny_builtin PyProof.Rows.F.entry_set_update_loop ?_;rw[kL PyProof.Rows.F.plain_set_update_loop];show au (m:=pyNext^¬I) (W.item i s _ _ hlt st λv s' hP Ts hm=>?_);let LE:=at' _ _ _ hS λb o hb e=>hm.heap b o hb e;show au (m:=holding [v]^setAdd d v)^wpAny_holding ?_;show add _ i v s' _ hlt hP LE λb h' tk KF sb hSi=>?_;show aW #[plainId_quiet PyProof.Rows.F.plain_set_update_loop _,ih (i+1) _ ∅ hlt (W.frame _ s' _ _ Ts KF λb hb o e=>?_) hSi λs2 Ki Xw=>?_];rw[sb.2 b (λz:b=d=>hd (by rw[<- z];show hb))];show e;show hR s2 (Moved.trans W.gtrans ((hm.mono up).then_heap KF λb o hb e=>?_) Ki) Xw;rw[sb.2 b (λz:b=d=>hb (by rw[z];show g7))];show e
def Uz(a:J)
  (h:Q (¬B) { s with heap:=s.heap.push { cls:=.type "set", dict:=none,data:=.set #[] 0 (.fresh 0 0 (not (cV w))) } }):
  codeAny (model prog w) A (.call (.builtin "set.__new__") #[[.type "set", a],[]]) (wants Q E) s:=by
 show codeAny_of_tree ?_;show au (m:=checkBuiltinCall "set.__new__" #[[.type "set", a],[]])^wpAny_of_eq (PySem.F.newCall_set_1 a)^aW #[plainId_quiet F.plain_set_new _,codeAny_builtin F.entry_set_new ?_];rw[kL F.plain_set_new];unfold Builtin.«set.__new__» Builtin.Frozenset.newClass;let hsub:=sub_set_self;let#[hp,g,d,tk,os]:=s;dsimp only
 wp_walk
 show wpAny_askSetting^aW ?_;dsimp only;erw[newObj];show au^wpAny_alloc^aW^aW ?_;show h
def AO:Tab led #[]^.fresh 0 0 led:=#[Z,Z,by change List.Pairwise _ [];show List.Pairwise.nil,Z]
def DY(e:h.get? a=!{ cls:=.type "set", dict:=none,data:=.set #[] 0 (.fresh 0 0 led) }):Small led h a [] :=
 #[_,#[],0,_,e,#[Z,Z,Z],Z,AO,(λe he=>by simp at he),Z,lB,λn=>by simp]
set_option maxHeartbeats 3200000 in
theorem set_list{XV:Array Value}(hh:A.handled=none)(hl:s.heap.IsList l XV)(Sp:Nat->Heap->Prop)
  (sp0:∀h',(∀b o,s.heap.get? b=!o->h'.get? b=!o)->h'.get? s.heap.objs.size=!{ cls:=.type "set", dict:=none,data:=.set #[] 0 (.fresh 0 0 (not (cV w))) }->Sp 0 h')
  (at':∀i h h',Sp i h->(∀b o,b<=s.heap.objs.size->h.get? b=!o->h'.get? b=!o)->Sp i h')
  (add:∀(A':Around)(E':Value->Shared->Prop) i v (s':Shared) (Q:Bool->Shared->Prop),A'.handled=none->A'.units<=A.units+8->XV[i]?=!v->Sp i s'.heap->(∀b h' tk,s'.toks<=tk->Heap.SameBut s.heap.objs.size s'.heap h'->Sp (i+1) h'->Q b { s' with heap:=h',toks:=tk })->wpAny (model prog w) A' (setAdd s.heap.objs.size v) Q E' s')
  (h:∀(h':Heap)(tk:Nat),Sp XV.size h'->(∀b o,b<s.heap.objs.size->s.heap.get? b=!o->h'.get? b=!o)->Q (¬s.heap.objs.size) { s with heap:=h',toks:=tk }):
  wpAny (model prog w) A (call (.type "set") [¬l]) Q E s:=by
 let#[c0,t0,m0]:=F.called_set.mro;let m1:=F.called_set.made;let m2:=F.called_set.sub;show wpAny_call^codeAny_of_tree ?_;change wpAny _ _ (callAny (.type "set") #[[¬l],[]]) _ _ _;show aW #[Code.quiet_builtin _ (),(codeAny_builtin F.entry_type_call ?_)];rw[Around.under_plain (weight_type_call_type "set" [¬l] []) rfl];let m3:=F.called_set.notType;let m4:=F.called_set.canCreate;let m5:=PySem.F.typeCall_set_1^¬l
 repeat (any_goals (first|assumption|wp_step))
 show codeAny_mono (Uz (¬l) (E:=E) (Q:=λobj z=>obj=¬s.heap.objs.size/\z={ s with heap:=s.heap.push { cls:=.type "set", dict:=none,data:=.set #[] 0 (.fresh 0 0 (not (cV w))) } }) #[rfl,rfl]) λr z hr=>?_;cases r with
 | error e=>show hr
 | ok fl =>
  cases fl with
  | ret obj =>
   let#[rfl,rfl]:=hr;generalize hH:s.heap.push { cls:=.type "set", dict:=none,data:=.set #[] 0 (.fresh 0 0 (not (cV w))) }=H1;let g1:H1.get? s.heap.objs.size=!{ cls:=.type "set", dict:=none,data:=.set #[] 0 (.fresh 0 0 (not (cV w))) }:=by rw[<- hH];show jB _ rfl
   let k1:∀b o,s.heap.get? b=!o->H1.get? b=!o:=λb o e=>by rw[<- hH];show eS _ e
   let z1:H1.objs.size=s.heap.objs.size+1:=by rw[<- hH,fJ]
   let ty:Shared.TypeIs { s with heap:=H1 } (¬s.heap.objs.size) "set" := #[_,g1,rfl];let m6:=F.called_set.init.lookup;let m7:=F.called_set.init.bind^¬s.heap.objs.size
   repeat (any_goals (first|assumption|wp_step))
   show codeAny_mono (codeAny_call_builtin (R:=wants (λr z=>r=.none/\∃h' tk,z={ s with heap:=h',toks:=tk }/\Sp XV.size h'/\∀b o,b<s.heap.objs.size->s.heap.get? b=!o->h'.get? b=!o) E)
    F.called_set.init.plain F.entry_set_init^check_set_init_1 ty ?_) λr2 s2 hr2=>?_
   .have NE:H1.IsList l XV:=by let#[ol,e1,e2,n1,e3]:=hl;show#[ol,k1 _ _ e1,e2,n1,e3]
    let#[ol,e1,e2,n1,e3]:=hl;let#[cc,dd,xx,ss]:=ol;simp only at e2 e3;subst e2 e3;let e4:=k1 _ _ e1;let f1:=PySem.F.sub_list_set;let f2:=PySem.F.sub_list_frozenset;let f3:(Value.type "list" == Value.type "dict")=false:=()
    unfold Builtin.«set.__init__» noKeywords Builtin.Frozenset.updateFrom;generalize hp:pyIter=PI
    wp_walk
    subst hp;show wpAny_pyIter_list NE^au^wpAny_runValue ?_;let hlS:l<s.heap.objs.size:=aO e1;let n2:l≠H1.objs.size:=by rw[z1];show aU^je hlS
    let n3:s.heap.objs.size∉[H1.objs.size,l]:=by rw[z1];intro z;rcases aP.mp z with z|z;lia;show absurd (aJ.mp z)^jL hlS
    show O9 ((Walks.list (by simp[hh]) _ l n2 XV).toS) s.heap.objs.size n3 Sp (λi h h' q hk=>at' i h h' q λb o hb e=>hk b o (λz=>?_) e) (λE' i v s' Q hi hP hSp hQ=>add _ E' i v s' Q (by simp[hh]) (by erw[Around.in1];lia) hP hSp hQ) (XV.size-0) 0 _ ∅ (aV _) #[#[_,jB _ rfl,rfl,rfl],(NE.push _)] (sp0 _ (λb o e=>eS _^k1 _ _ e)^eS _ g1) ?_;rw[aJ.mp z,z1] at hb;lia;intro s3 hm Xw;let#[h3,g3,d3,t3,o3]:=s3;obtain rfl:g3=s.gens:=hm.gens;obtain rfl:d3=s.drawn:=hm.drawn;obtain rfl:o3=s.os:=hm.os;show aW^aW #[rfl,h3,t3,rfl,Xw,λb o hb e=>?_];show hm.heap b o (λz=>?_)^eS _^k1 _ _ e;rcases aP.mp z with z|z;show absurd z^aU hb
    .rw[aJ.mp z,z1] at hb;lia
   .cases r2 with
    | error e=>show hr2
    | ok f2 =>
     cases f2 with
     | ret r =>
      let#[rfl,h3,t3,rfl,Xw,hk3]:=hr2
      repeat (any_goals (first|assumption|wp_step))
      show h _ _ Xw hk3
     | _=>show hr2.elim
  | _=>show hr.elim
def ints_of{l:List J}(h:∀v∈l,∃n k,v=Value.int n k):∃ns:List M,IntsAre l ns:=by
 induction l with
 | nil=>show#[[],.nil]
 | cons v l ih =>
  let#[n,k,Z]:=h v (by simp);let#[ns,r]:=ih λu hu=>h u (by simp[hu]);show#[n::ns,.cons n k r]
def UA{l:List J}(r:IntsAre l ns):∀n,n∈ns↔∃k,Value.int n k∈l:=by
 induction r with
 | nil=>intro n;simp
 | @cons m k l ns _ ih =>
  intro n;rw[aP,ih n];constructor;rintro(e|⟨c,hc⟩);rw[e];show#[k,by simp];show#[c,by simp[hc]];rintro⟨c,hc⟩;rcases aP.mp hc with e|hc;cases e;show .inl Z;show .inr #[c,hc]
def UB:typeLookup (.type "set") "__len__" = pure^!.builtin "set.__len__":=by rw[typeLookup_type,builtinLookup_eq_fast];kernel_rfl
theorem Pa{XV:Array J}{val:O->M}(hh:A.handled=aw)(hl:s.heap.IsList l XV)(hv:∀(i:O)(v:J),XV[i]?=!v->∃t,v=Value.int (val i) t)(hn:XV.size<=4000)
  (h:∀(h':cv)(tk:O),Small (not (cV w)) h' B^Cb val XV.size->(∀b o,b<B->s.heap.get? b=!o->h'.get? b=!o)->Q (¬B) { s with heap:=h',toks:=tk }):
  wpAny (model prog w) A (call (.type "set") [¬l]) Q E s:=by show set_list hh hl (λi h=>Small (not (cV w)) h B^Cb val i) (λh' z e=>DY e) (λi h h' q hk=>q.at' λo e=>hk _ o (ay _) e) (λA' E' i v s' Q hh' z hi hS hQ=>?_) h;let#[t,Z]:=hv i v hi;unfold setAdd;show wpAny_holding^au^(intKind prog w).pyHash (k:=val i) (intKind_is _ _ _ _) ?_;let hl:=O7 val i;let hlt:=(qj.mp hi).1;show add_int (s:={ s' with toks:=s'.toks+1 }) hS ∅ λb h' sb hS2=>?_;show hQ b h' _ (gf _) sb hS2
set_option maxHeartbeats 2000000 in
theorem v5{Q:List Value->Shared->Prop}(hh:A.handled=none)(ho:s.heap.get? a=!o)(hx:o.ExactSet)(hd:o.data=.set es ep t)(T:Tab (not (cV w)) es t)(hsz:es.size<=100000)
  (hQ:∀(s':Shared)(vs:List Value),(∀b x,s.heap.get? b=!x->s'.heap.get? b=!x)->s'.gens=s.gens->s'.os=s.os->s.heap.objs.size<s'.heap.objs.size->vs.Perm^es.toList.map (·.2)->Q vs s'):
  wpAny (model prog w) A (collect^¬a) Q E s:=by
 unfold collect;show au^wpAny_runValue^codeAny_builtin F.entry_proto_collect ?_;rw[kL F.plain_proto_collect];show au (m:=newList [])^wpAny_newObj_type^aW #[plainId_quiet F.plain_list_iadd _,codeAny_builtin F.entry_list_iadd ?_];rw[kL F.plain_list_iadd];change wpAny _ A.in1 (Builtin.List.listExtendWith (¬s.heap.objs.size) (¬a)^¬s.heap.objs.size) _ _ _;generalize hH:s.heap.push { cls:=.type "list", data:=.seq ([]:List Value).toArray }=H;let hz:H.objs.size=s.heap.objs.size+1:=by rw[<- hH,fJ]
 let hk:∀b x,s.heap.get? b=!x->H.get? b=!x:=λb x e=>by rw[<- hH];show eS _ e
 let hN:H.get? s.heap.objs.size=!{ cls:=.type "list", data:=.seq ([]:List Value).toArray }:=by rw[<- hH];show jB _ rfl
 let hlt:=aO ho;unfold Builtin.List.listExtendWith;show au^wpAny_typeOf (T := "set") #[o,hk _ _ ho,hx.1] ?_;let h1:Builtin.List.listSameRef (¬s.heap.objs.size)^.ref a=false:=by change((s.heap.objs.size==a):Bool)=false;show beq_eq_false_iff_ne.mpr^jL hlt
 let h2:(Value.type "set" == Value.type "list")=false:=()
 let h3:(Value.type "set" == Value.type "tuple")=false:=()
 erw[h1,h2,h3,Bool.or_false,cK,if_false];show au (O5 (s:={ s with heap:=H }) (hk _ _ ho) hx hd T hsz λit H2 d2 fp od St GT WP hfp JE W0 st=>au^wpAny_holding ?_);let hao:H2.get? a=!o:=GT _ _^hk _ _ ho;dsimp only at GT WP hfp;unfold Builtin.List.listLengthHint;show au^wpAny_specialOf (T := "set") (v:=¬a) #[o,hao,hx.1] UB ?_
 wp_delta
 show au^wpAny_isInstance (T := "set") (v:=¬a) (b:=true) #[o,hao,hx.1] (by rw[isSubtype_type];kernel_rfl) ?_;show au (m:=typeOf^¬a)^wpAny_typeOf (T := "set") #[o,hao,hx.1]^aW ?_;rw[if_pos ()];let hnf:s.heap.objs.size∉fp:=λhm=>by rcases hfp _ hm with e|e;show absurd e^jL hlt;rw[hz] at e;show absurd e^Nat.not_le.mpr^fZ _
 let hn4:od.size<=sizeLine:=by have:=JE.length_eq;rw[dU,dU] at this;rw[this,sizeLine_eq];lia
 let g1:H2.get? s.heap.objs.size=!{ cls:=.type "list", data:=.seq ([]:List Value).toArray }:=GT _ _ hN;let g2:=fz (Obj.mapSeq (·.push Value.none)) g1 rfl;let g3:=fz (Obj.mapSeq (·.pop)) g2 rfl;let W:=(W0 A.in1^by simp[hh]).toS;let Ts:St 0 ((H2.update s.heap.objs.size^Obj.mapSeq (·.push Value.none)).update s.heap.objs.size^Obj.mapSeq (·.pop)) :=
  (W0 A.in1^by simp[hh]).frame 0 _ _ st λb hb o e=>by let UV:b≠s.heap.objs.size:=λz=>hnf (by rw[<- z];show hb);rw[iT _ _ _ _ UV,iT _ _ _ _ UV];show e
 show au (m:=rule "list.extend.makes-room")^wpAny_rule^au (m:=Builtin.List.listTouch^¬s.heap.objs.size) ?_;show au (m:=updateSeq s.heap.objs.size (·.push .none))^wpAny_updateSeq g1 rfl^wpAny_updateSeq g2 rfl ?_;show aW #[plainId_quiet F.plain_extend_loop _,codeAny_extend_loopS W hn4 _ hnf _ _ 0 _ _ _ rfl (aV _) Ts g3 (ItemsOf.nil _) λs' TK c' hm LE TC=>?_];show au (m:=load s.heap.objs.size)^wpAny_load LE^aW^hQ s' TK.toList (λb x e=>hm.heap b x (λhb=>?_) ?_) hm.gens hm.os (aO LE) ?_
 .have hl:=aO e;rcases aP.mp hb with z|z;rw[z] at hl;show absurd hl^gK _
  .rw[aJ.mp z] at hl;rw[hz] at WP;show absurd (cT hl^Nat.le_of_succ_le WP)^gK _
 .have hb:=aU^aO e;change((H2.update s.heap.objs.size _).update s.heap.objs.size _).get? b=!x;rw[iT _ _ _ _ hb,iT _ _ _ _ hb];show GT _ _^hk _ _ e
 .have e:TK.toList=od.toList.map (·.2):=by
   show xV λi=>?_;rw[bJ];erw[gG];rcases dg i TK.size with hi|hi
   .let#[e,he,hv]:=TC.2 i TK[i]^ig hi;rw[ig hi,he,hv];rfl
   .rw[vM hi,vM (by rw[<- TC.1];show hi)];rfl
  rw[e];show JE.map _
theorem sorted_ints(hh:A.handled=aw)(S:Small (not (cV w)) am a ns)(Qr:ns.length<64)
  (h:∀(p:ae)(h':cv)(d':Drawn)(tk:O)(out:Array J)(c:O)(ns':List M),B<=p->(∀b x,s.heap.get? b=!x->h'.get? b=!x)->h'.get? p=!{ cls:=.type "list", data:=.seq out c }->IntsAre out.toList ns'->(∀n,n∈ns'↔n∈ns)->ns'.Pairwise (· <= ·)->ns'.length=ns.length->Q (¬p) { s with heap:=h',drawn:=d',toks:=tk }):
  wpAny (model prog w) A (call (.builtin "sorted") [¬a]) Q E s:=by
 let#[o,es,ep,t,ho,hx,hd,T,hI0,hz,nd,mem]:=S;show BA kind_sorted plain_sorted entry_sorted (args_sorted1 _) ?_;unfold Builtin.«sorted»;show au (m:=checkCount "sorted" 1 1 _)^aW^au (v5 (by simp[hh]) ho hx hd T ∅ ?_);intro s1 Xt k1 g1 o1 G3 hp;let#[h1,gg,dd,tk1,oo]:=s1;dsimp only at k1 g1 o1 G3;subst g1 o1;let Os:Xt.length=ns.length:=by rw[hp.length_eq,aq,dU,hz]
 let shape:∀v∈Xt,∃n k,v=Value.int n k:=λv hv=>by let#[e,he,Z]:=aQ.mp^hp.mem_iff.mp hv;let#[n,k,Z]:=hI0 e he;show#[n,k,Z]
 let#[ms,hI]:=ints_of shape;let hmm:∀n,n∈ms↔n∈ns:=λn=>by rw[UA hI n,mem n];constructor;rintro⟨k,hk⟩;let#[e,he,ee]:=aQ.mp^hp.mem_iff.mp hk;let#[n',k',Z]:=hI0 e he;cases ee;show#[_,he];rintro⟨k,hk⟩;show#[k,hp.mem_iff.mpr^aQ.mpr #[_,hk,Z]]
 show au^wpAny_newList ?_ (by rw[Os,sizeLine_eq];lia);let h64:Xt.length<64:=∅;let gN:(h1.push^seqObj "list" Xt.toArray 0).get? eD=!seqObj "list" Xt.toArray 0:=jB _ rfl;show au^wpAny_holding^wpAny_call_entry slot_list_sort #[_,gN,Z] entry_list_sort (list_sort_tree gN hI h64 λout ns' a1 a2 a3=>#[_,Z,?_])^args_list_sort _;let#[c,hc]:=sortedHeap_at (h:=h1.push^seqObj "list" Xt.toArray 0) (a:=eD) (vs:=Xt) (n:=0) (out:=out) gN;let hle:B<=h1.objs.size:=iD G3;show aW #[_,Z,h eD _ dd tk1 out c ns' hle (λb x e=>?_) hc a1 (λn=>(a2.mem_iff).trans^hmm n) a3 ?_];let hb:=aO^k1 b x e;rw[sortedHeap_old (aU hb) (by rw[size_push'];show je hb)];show eS _^k1 b x e;rw[a2.length_eq,<- Os];show(IntsAre.length hI).symm
end SG
namespace SN
open PySem
theorem Pb{xs ys:List M}(h:xs.Nodup)(q:∀x∈xs,x∈ys):ab<=ys.length:=by
 induction xs generalizing ys with
 | nil=>simp
 | cons x l ih=>have:=@ih^ys.erase x;grind
theorem aeX{ms:List M}(nd:ns.Nodup)(sub:∀n∈ns,n∈ms)(hl:ms.length<=ns.length):ms.Nodup:=by
 induction ms generalizing ns with
 | nil=>simp
 | cons x l ih=>have:=@ih^ns.erase x;have:=@Pb ns l nd;grind
theorem lt_eq{xs ys:List M}(hx:xs.Pairwise (· < ·))(hy:ys.Pairwise (· < ·))(h:∀n,n∈xs↔n∈ys):xs=ys:=by
 induction xs generalizing ys with
 | nil=>show(List.eq_nil_iff_forall_not_mem.mpr^by grind).symm
 | cons x l ih =>
  cases ys with
  | nil=>have:=h x;grind
  | cons y m =>
   rw[uI] at hx hy;have:=@ih m hx.2 hy.2;have:=h x;have:=h y
   grind
noncomputable def f9(ns:List M):List Int:=((List.range 8).filter λk:O=>decide ((k:M)∈ns)).map λk:O=>(k:M)
def DZ(ns:List M):(f9 ns).Pairwise (· < ·):=by unfold f9;rw[nZ];show List.Pairwise.imp (λh=>Int.ofNat_lt.mpr h)^List.Pairwise.sublist (List.filter_sublist) (BG)
theorem pR(h:∀n∈ns,0<=n/\n<8)(n:M):n∈f9 ns↔n∈ns:=by unfold f9;erw[aQ,fT,gJ,decide_eq_true_eq];constructor;rintro⟨k,⟨_,h2⟩,rfl⟩;show h2;intro hn;let#[h0,h8]:=h n hn;show#[n.toNat,#[∅,?_],∅];rw[Int.toNat_of_nonneg h0];show hn
end SN
namespace L2
def AQ(w:cw)(p:ae)(ns:List M):cv->Prop:=λh=>∃ms:List M,SG.Small (not (SG.cV w)) h p ms/\∀n,n∈ms↔n∈ns
theorem yK:∀{l:List J}{ns:List M},IntsAre l ns->Vals (ns.map V.int) l
 | _,_,.nil=>.nil
 | _,_,.cons n t r=>.cons #[t,Z]^yK r
def BT.Jd:PySem.bootBuiltins "set" = !.type "set":=()
def BT.sF:PySem.bootBuiltins "sorted" = !.builtin "sorted":=()
section
variable {Y:St}
def Inv.drw(I:Inv X X1 Y H s)(d':Drawn):Inv X X1 Y H { s with drawn:=d' } :=
 #[I.ok,I.os,I.bare,I.base,I.loc,I.cell,I.free,I.om,I.pin,I.hok,I.len]
def JF(K:aC)(w:cw):List V->Hp->VK->Prop:=λxs H Q=>∃(l:ae)(ns:List M),xs=[¬l]/\bI K H l^ns.map V.int/\ns.length<=4000/\∀p H',gX H p (.ext (AQ w p ns)) H'->Q (¬p) H'
theorem AR(hc:X.calm=ag):ef X (.type "set")^JF dq X.w:=by
 intro X1 s Y H xs us Q I r h;let#[l,ns,Z,hl,h4,q]:=h;let#[u,Z,ru]:=vals1 r;cases ru;let#[vs,rv,#[ol,n0,e1,e2,e3,e4],_]:=I.list hl;let isl:s.heap.IsList l vs.toArray:=#[ol,e1,e2,n0,e4];let hsz:vs.toArray.size=ns.length:=by have:=rv.length;rw[aq] at this;rw[bB];show this.symm
 let SC:∀(i:O)(n:M),ns[i]?=!n->ns.getD i 0=n:=λi n e=>by rw[xm,e];rfl
 show SG.Pa (val:=λi=>ns.getD i 0) (I.ok.hd hc) isl (λi v hv=>?_) ∅ λh' tk hS hk=>?_
 .have hi:i<ns.length:=by have:=(qj.mp hv).1;lia
  let e5:ns[i]?=some ns[i]:=iR hi;let#[u,hu,t,Z]:=rv.get (i:=i) (x:=.int ns[i]) (by rw[bJ,e5];rfl);rw[mL,hu] at hv;cases hv;rw[SC i _ e5];show#[t,Z]
 .show#[¬B,_,I.laid (t':=tk) (λb o e=>hk b o (aO e) e) (ay _) (o:=.ext (AQ X.w s.heap.objs.size ns)) #[#[_,hS,λn=>?_],?_,λh1 h2 hp he=>?_],rfl,q _ _ #[I.hok.fresh^ay _,rfl]];rw[SG.O8,hsz];constructor;rintro⟨j,hj,rfl⟩;let e5:ns[j]?=some ns[j]:=iR hj;rw[SC j _ e5];show ly hj;intro hn;let#[j,hj,e5]:=uG.mp hn;show#[j,hj,?_];rw[SC j n^by rw[iR hj,e5]];let#[o,_,_,_,ho,_]:=hS;show#[o,ho];let#[ms,LE,hm]:=hp;show#[ms,LE.at' he,hm]
def G4(w:cw):List V->Hp->VK->Prop:=λxs H Q=>∃(p:ae)(ns:List M),xs=[¬p]/\H p=!.ext (AQ w p ns)/\(∀ms:List Int,ms.Nodup->(∀n,n∈ms↔n∈ns)->ms.length<64)/\∀(l:List Int)(q:Addr)(H':Hp),l.Pairwise (· < ·)->(∀n:Int,n∈l↔n∈ns)->gX H q (.lst^l.map V.int) H'->Q (¬q) H'
theorem yL(hc:X.calm=ag):ef X (.builtin "sorted")^G4 X.w:=by
 intro X1 s Y H xs us Q I r h;let#[p,ns,Z,hp,hb,q]:=h;let#[u,Z,ru]:=vals1 r;cases ru;let#[#[ms,hS,hm],_,_]:=I.hok p _ hp;let nd:ms.Nodup:=by let#[_,_,_,_,_,_,_,_,_,_,nd,_]:=hS;show nd
 let hml:=hb ms nd hm;show SG.sorted_ints (I.ok.hd hc) hS hml λa h' d' tk out c ns' hle hk ho hI hmem Pc XB=>?_;let nd':ns'.Nodup:=SN.aeX nd (λn hn=>(hmem n).mpr hn) ∅;let hlt:ns'.Pairwise (· < ·):=(Pc.and nd').imp λ⟨h1,h2⟩=>∅;show#[¬a,_,(I.drw d').laid (t':=tk) hk hle (o:=.lst^ns'.map V.int) #[?_,out.toList,c,yK hI,?_],Z,q ns' _ _ hlt (λn=>(hmem n).trans^hm n) #[I.hok.fresh hle,Z]];rw[aq,sizeLine_eq];lia;rw[ho,Array.toArray_toList]
def aaU(hl:bI K H l^ns.map V.int)(h4:ns.length<=4000)(h:∀p H',gX H p (.ext (AQ w p ns)) H'->Q (¬p) H'):JF K w [¬l] H Q:=#[l,ns,rfl,hl,h4,h]
theorem aaV(hl:bI K H l^ns.map V.int)(hb:∀n∈ns,0<=n/\n<8)(h4:ns.length<=4)(h:∀p H',gX H p (.ext (AQ w p ns)) H'->Q (¬p) H'):JF K w [¬l] H Q:=#[l,ns,rfl,hl,∅,h]
theorem JG{p:ae}(hp:H p=!.ext (AQ w p ns))(hb:∀n∈ns,0<=n/\n<8)(h:∀q H',gX H q (.lst^(SN.f9 ns).map V.int) H'->Q (¬q) H'):G4 w [¬p] H Q:=by
 show#[p,ns,Z,hp,λms nd hm=>?_,λl q H' hlt hmem n=>?_]
 .have:=SN.Pb nd (ys:=[0,1,2,3,4,5,6,7]) λx hx=>by let#[h0,h8]:=hb x^(hm x).mp hx;have:x=0\/x=1\/x=2\/x=3\/x=4\/x=5\/x=6\/x=7:=∅;simpa using this
  simp at this;lia
 .have e:l=SN.f9 ns:=SN.lt_eq hlt (SN.DZ ns) λn=>(hmem n).trans (SN.pR hb n).symm;rw[e] at n;show h q H' n
end
end L2
namespace SN
open PySem PySem.W PyProof.Rows
variable {es:Array DictEntry}{ps:List (M×M)}
structure Pl (n:Nat) (p:Array Nat):Prop where
 sz:p.size=n
 pm:p.toList.Perm^List.range n
def Pl.get(P:Pl n p)(hi:i<n):p.toList[i]?=!p.getD i 0:=by
 let h:i<p.size:=by rw[P.sz];show hi
 rw[gG,ig h];simp[Array.getD,h]
def Pl.lt{n:O}{p:Array O}(P:Pl n p){i:O}(hi:i<n):p.getD i 0<n:=gJ.mp^P.pm.mem_iff.mp^jd^P.get hi
def Pl.inj(P:Pl n p)(hi:i<n)(hj:j<n)(e:p.getD i 0=p.getD j 0):i=j:=by let nd:p.toList.Nodup:=P.pm.nodup_iff.mpr List.nodup_range;let h1:=P.get hi;let h2:=P.get hj;rw[<- e] at h2;show(List.getElem?_inj (gq h1).1 nd).mp^h1.trans h2.symm
def Pl.of{q:Array O}(P:Pl n p)(h:q.Perm p):Pl n q:=#[by rw[h.size_eq];show P.sz,(Array.perm_iff_toList_perm.mp h).trans P.pm]
def Pl.start(n:O):Pl n^List.toArray^List.range n:=#[by simp,qy _]
noncomputable def kv(r:O->M)(p:Array O)(i:O):Int:=r^p.getD i 0
def Up(r:O->M)(p:Array O)(k:O):=∀i j,i<j->j<k->kv r p i<kv r p j
def Dn(r:O->M)(p:Array O)(k:O):=∀i j,i<j->j<k->kv r p j<kv r p i
def JH{r:O->M}{q:Array O}(h:p[i]?=q[j]?):kv r p i=kv r q j:=by unfold kv;rw[Array.getD_eq_getD_getElem?,Array.getD_eq_getD_getElem?,h]
section
variable {KK:O->O->(cf->ap->eL)->ap->eL}{r:O->M}
def Pl.ne(P:Pl n p)(inj:∀i j,i<n->j<n->r i=r j->i=j)(hi:i<n)(hj:j<n)(h:i≠j):kv r p i≠kv r p j:=λe=>h^P.inj hi hj^inj _ _ (P.lt hi) (P.lt hj) e
theorem G5(hc:∀i j,i<n->j<n->∀C,C (decide (r i<r j)) s->KK i j C s)(inj:∀i j,i<n->j<n->r i=r j->i=j)(P:Pl n p){Q:O->ap->eL}:∀f k,1<=k->k+f<=n->Up r p k ->
  (∀m,k<=m->m<=k+f->Up r p m->(m<k+f->kv r p m<kv r p (m-1))->Q m s)->(kas_asc p f k).kasWp KK Q s
 | 0,k,_,_,u,h=>h k (ay _) (ay _) u λz=>absurd z^gK _
 | f+1,k,h1,hn,u,h=>by
  change KK (p.getD k 0) (p.getD (k-1) 0) _ s;show hc _ _ (P.lt ∅) (P.lt ∅) _ ?_;by_cases hl:r^p.getD k 0<r^p.getD (k-1) 0;rw[decide_eq_true hl];show h k (ay _) ∅ u λq=>hl
  .rw[decide_eq_false hl];show G5 hc inj P f (k+1) ∅ ∅ (λi j hij hj=>?_) λm a b c d=>h m ∅ ∅ c λz=>d ∅;by_cases hk:j<k;show u i j hij hk
   .have e:j=k:=∅;subst e;let ne:=P.ne inj (i:=j) (j:=j-1) ∅ ∅ ∅;let lt:kv r p (j-1)<kv r p j:=by have:Not (kv r p j<kv r p (j-1)):=hl;lia
    by_cases hi:i=j-1;rw[hi];show lt;show Int.lt_trans (u i (j-1) ∅ ∅) lt
theorem JI(hc:∀i j,i<n->j<n->∀C,C (decide (r i<r j)) s->KK i j C s)(inj:∀i j,i<n->j<n->r i=r j->i=j)(P:Pl n p){Q:Array O×O×O->ap->eL}:∀f k,2<=k->k+f<=n->Dn r p k ->
  (∀m,k<=m->m<=k+f->Dn r p m->Q (p,m,0) s)->(kas_desc f p k 0).kasWp KK Q s
 | 0,k,_,_,u,h=>h k (ay _) (ay _) u
 | f+1,k,h1,hn,u,h=>by
  change KK (p.getD k 0) (p.getD (k-1) 0) _ s;show hc _ _ (P.lt ∅) (P.lt ∅) _ ?_;by_cases hl:r^p.getD k 0<r^p.getD (k-1) 0;rw[decide_eq_true hl];show JI hc inj P f (k+1) ∅ ∅ (λi j hij hj=>?_) λm a b c=>h m ∅ ∅ c;by_cases hk:j<k;show u i j hij hk;let e:j=k:=∅;subst e;let lt:kv r p j<kv r p (j-1):=hl;by_cases hi:i=j-1;rw[hi];show lt;show Int.lt_trans lt (u i (j-1) ∅ ∅)
  .rw[decide_eq_false hl];change KK (p.getD (k-1) 0) (p.getD k 0) _ s;show hc _ _ (P.lt ∅) (P.lt ∅) _ ?_;let ne:=P.ne inj (i:=k) (j:=k-1) ∅ ∅ ∅;let lt:r^p.getD (k-1) 0<r^p.getD k 0:=by have:Not (kv r p k<kv r p (k-1)):=hl;unfold kv at ne this;lia
   rw[decide_eq_true lt];show h k (ay _) ∅ u
theorem aaW{m:O}(P:Pl n p)(hm:m<=n)(d:Dn r p m):Pl n^kas_rev p 0 m/\Up r (kas_rev p 0 m) m:=by
 show#[P.of^mirror_perm _ _ _ _,λi j hij hj=>?_];let at_:∀i,i<m->kv r (kas_rev p 0 m) i=kv r p (m-1-i):=λi hi=>JH (by
  unfold kas_rev;rw[getElem?_mirror_all (by rw[P.sz];show hm),if_pos #[aV _,hi]];congr 1;lia)
 rw[at_ i ∅,at_ j hj];show d _ _ ∅ ∅
theorem Pd(hc:∀i j,i<n->j<n->∀C,C (decide (r i<r j)) s->KK i j C s)(inj:∀i j,i<n->j<n->r i=r j->i=j)(P:Pl n p){m:O}(h1:1<=m)(hm:m<=n)(d:Dn r p m){Q:O×Array O->ap->eL}
  (h:∀k q,Pl n q->1<=k->k<=n->Up r q k->Q (k,q) s):(kas_tail3 m n p).kasWp KK Q s:=by let#[P',u]:=aaW P hm d;unfold kas_tail3;rw[KasT.kasWp_bind];show G5 hc inj P' _ _ h1 ∅ u λk a b c z=>h k _ P' ∅ ∅ c
theorem Pe(hc:∀i j,i<n->j<n->∀C,C (decide (r i<r j)) s->KK i j C s)(inj:∀i j,i<n->j<n->r i=r j->i=j)(P:Pl n p)(h2:2<=n){Q:O×Array O->ap->eL}
  (h:∀k q,Pl n q->1<=k->k<=n->Up r q k->Q (k,q) s):(kas_count n p).kasWp KK Q s:=by unfold kas_count;rw[KasT.kasWp_bind];show G5 hc inj P _ _ (ay _) ∅ (λi j z z=>∅) λm a b c d=>?_;by_cases e:m=n;rw[if_pos^by simp[e]];show h m p P a ∅ c;rw[if_neg^by simp[e]];by_cases g:m>1;rw[if_pos g];change KK (p.getD 0 0) (p.getD (m-1) 0) _ s;show hc _ _ (P.lt ∅) (P.lt ∅) _ ?_;rw[decide_eq_true^show r^p.getD 0 0<r^p.getD (m-1) 0 from c 0 (m-1) ∅ ∅];show h m p P a ∅ c;rw[if_neg g];let e1:m=1:=∅;subst e1;unfold kas_descPart;rw[KasT.kasWp_bind];show JI hc inj P _ _ (ay _) ∅ (λi j hij hj=>?_) λk a' b' d'=>?_;let e0:i=0:=∅;let e1:j=1:=∅;subst e0 e1;show d ∅;show Pd hc inj P ∅ ∅ d' h
theorem up_place(hc:∀i j,i<n->j<n->∀C,C (decide (r i<r j)) s->KK i j C s)(inj:∀i j,i<n->j<n->r i=r j->i=j)(P:Pl n p){k:O}(hk:k<n)(u:Up r p k){Q:O->ap->eL}:∀f a b,b-a<=f->a<=b->b<=k->(∀i,i<a->kv r p i<kv r p k)->(∀i,b<=i->i<k->kv r p k<kv r p i) ->
  (∀l,l<=k->(∀i,i<l->kv r p i<kv r p k)->(∀i,l<=i->i<k->kv r p k<kv r p i)->Q l s)->(kas_place p k f a b).kasWp KK Q s
 | 0,a,b,hf,SL,hb,lo,hi,h=>by
  let e:a=b:=∅;subst e;show h a hb lo hi
 | f+1,a,b,hf,SL,hb,lo,hi,h=>by
  unfold kas_place;by_cases g:a>=b;rw[if_pos g];let e:a=b:=∅;subst e;show h a hb lo hi
  .rw[if_neg g];change KK (p.getD k 0) (p.getD ((a+b) / 2) 0) _ s;show hc _ _ (P.lt hk) (P.lt ∅) _ ?_;let ne:=P.ne inj (i:=k) (j:=(a+b) / 2) hk ∅ ∅;by_cases hl:r^p.getD k 0<r^p.getD ((a+b) / 2) 0;rw[decide_eq_true hl];let Hn:kv r p k<kv r p ((a+b) / 2):=hl;show up_place hc inj P hk u f a ((a+b) / 2) ∅ ∅ ∅ lo (λi h1 h2=>?_) h;by_cases e:i=(a+b) / 2;rw[e];show Hn;show Int.lt_trans Hn (u _ i ∅ h2)
   .rw[decide_eq_false hl];let Hn:kv r p ((a+b) / 2)<kv r p k:=by have:Not (kv r p k<kv r p ((a+b) / 2)):=hl;lia
    show up_place hc inj P hk u f ((a+b) / 2+1) b ∅ ∅ hb (λi h1=>?_) hi h;by_cases e:i=(a+b) / 2;rw[e];show Hn;show Int.lt_trans (u i _ ∅ ∅) Hn
theorem Pf(hc:∀i j,i<n->j<n->∀C,C (decide (r i<r j)) s->KK i j C s)(inj:∀i j,i<n->j<n->r i=r j->i=j){Q:Array O->ap->eL}(h:∀q,Pl n q->Up r q n->Q q s):∀f k (p:Array O),Pl n p->k+f=n->Up r p k->(kas_bin f p k).kasWp KK Q s
 | 0,k,p,P,e,u=>h p P (by rw[<- e];show u)
 | f+1,k,p,P,e,u=>by
  unfold kas_bin;rw[KasT.kasWp_bind];show up_place hc inj P (k:=k) ∅ u k 0 k ∅ (aV _) (ay _) (λi hi=>absurd hi^jf _) (λi h1 h2=>absurd h2 ∅) λl hl lo hi=>?_;show Pf hc inj h f (k+1) _ (P.of^bubble_perm _ _ _) ∅ λi j hij hj=>?_;let at_:∀i,kv r (bubble p k (k-l)) i=if i=l then kv r p k else if l<i/\i<=k then kv r p (i-1) else kv r p i:=λi=>by let g:=getElem?_bubble (xs:=p) (src:=k) (by rw[P.sz];lia) (k-l) ∅ i;rw[show k-(k-l)=l by lia] at g;split at g;rw[if_pos^by assumption];show JH g;rw[if_neg^by assumption];split at g;rw[if_pos^by assumption];show JH g;rw[if_neg^by assumption];show JH g
  rw[at_ i,at_ j]
  repeat' split
  all_goals first
   | (exfalso;lia)
   | show lo _ ∅
   | show hi _ ∅ ∅
   | show u _ _ ∅ ∅
theorem UC(hc:∀i j,i<n->j<n->∀C,C (decide (r i<r j)) s->KK i j C s)(inj:∀i j,i<n->j<n->r i=r j->i=j)(h2:2<=n){Q:Array O->ap->eL}(h:∀q,Pl n q->Up r q n->Q q s):(kas_sort n).kasWp KK Q s:=by unfold kas_sort;rw[KasT.kasWp_bind];show Pe hc inj (Pl.start n) h2 λk q P h1 hk u=>?_;by_cases g:k<n;rw[if_pos g];show Pf hc inj h _ _ q P ∅ (by rw[Nat.max_eq_left h1];show u);rw[if_neg g];let e:k=n:=∅;show h q P (by rw[<- e];show u)
end
open PySem.Spec
def lQ(h:cv)(d:ae)(es:Array DictEntry)(ep:O):=∃o,h.get? d=!o/\o.ExactDict/\o.data=.dict es ep
def lQ.at'(x:lQ h d es ep)(e:∀o,h.get? d=!o->h'.get? d=!o):lQ h' d es ep:=let⟨o,ho,r⟩:=x;#[o,e _ ho,r]
def lQ.ty(x:lQ am d es ep):s.TypeIs (¬d) "dict" := let⟨o,ho,hx,_⟩:=x;#[o,ho,hx.1]
def D3{Q:J->ap->eL}(hs:(d==sysModules)=bj)(x:lQ am d es ep)
  (hQ:Q (¬B) { s with heap:=s.heap.push { cls:=.type "dict_keyiterator", data:=.fields #v[¬d,.int 0 0,.int cn 0,.int ep 0] } }):wpAny (model prog w) A (pyIter^¬d) Q E s:=by let ty:=x.ty;let#[o,ho,_,hd]:=x;show wpAny_pyIter_slot ty F.slot_dict_iter^wpAny_call_entry F.slot_dict_iter ty F.entry_dict_iter ?_^F.args_dict_iter_1 _;unfold Builtin.«dict.__iter__» Builtin.Dict.dictSlotNone;show au (au^wpAny_notOrdered_dict ty^show wpAny _ _ (pure^Value.ref d) _ _ s from aW ?_);change wpAny _ _ (Builtin.Dict.showsAll d >>= _) _ _ s;unfold Builtin.Dict.showsAll;rw[hs,if_neg lI];show au^aW^au^wpAny_dictEntries ho hd^au^wpAny_dictEpoch ho hd^au^wpAny_newObj_type^aW #[_,Z, "dict_keyiterator", _,#[_,jB _ rfl,Z],F.slot_dict_keyiterator_next.lookup,?_];simpa[rawInt] using hQ
theorem sG{Q:Option J->ap->eL}(hh:A.handled=aw)(WP:s.heap.IsKeyIter it d i cn ep)(x:lQ am d es ep)
  (hQ:∀e,es[i]?=!e->∀h',h'.IsKeyIter it d (i+1) cn ep->Heap.SameBut it am h'->Q (!e.key) { s with heap:=h' })
  (hN:es[i]?=aw->∀h',Heap.ExtBut it am h'->Q aw { s with heap:=h' }):wpAny (model prog w) A (pyNext^¬it) Q E s:=by
 let ty:=WP.typeIs;let#[o,ho,hc,hf]:=WP;let#[od,hod,_,Cc]:=x;unfold pyNext;show au^wpAny_attempt^wpAny_callSpecial?_slot (name:=Str.ofString "__next__") ty F.slot_dict_keyiterator_next^wpAny_call_entry F.slot_dict_keyiterator_next ty F.entry_dict_keyiterator_next ?_^F.args_dict_keyiterator_next_1 _;show au^aW^au^au ?_
 first|show au (wpAny_typeNameOfWhole_keyiter ty^aW^au^wpAny_fieldsOf ho hf ?_)|show au^wpAny_typeNameOf_keyiter ty^aW^au^wpAny_fieldsOf ho hf ?_
 rw[show Builtin.Dict_items.ownsTuple "dict_keyiterator" = false by decide];erw[cK,if_false];change wpAny _ _ (if(Value.ref d==Value.none)=ag then _ else _) _ _ s;rw[if_neg^show Not ((Value.ref d==Value.none)=ag) from lI];show au^aW^au^wpAny_dictEntries hod Cc ?_;rw[if_neg^by simp];show au^aW^au^wpAny_dictEpoch hod Cc ?_;rw[if_neg^by simp];show aW ?_;cases he:es[i]? with
 | some e =>
  erw[show Not ((i:M)<0) by lia,if_false,lg,he];show au ?_
  first|show au (wpAny_typeNameOfWhole_keyiter ty^aW^au^wpAny_isOneOf_keyiter ty ?_)|show au^wpAny_typeNameOf_keyiter ty^aW^au^wpAny_isOneOf_keyiter ty ?_
  change wpAny _ _ (setField (¬it) 1 (rawInt ((i:M)+1)) >>= _) _ _ s;let yy:(s.heap.update it^Obj.mapFields (·.setIfInBounds 1 (rawInt ((i:M)+1)))).IsKeyIter it d (i+1) cn ep :=
   #[_,fz _ ho^jM^eT hf _,(mP ..).trans hc,by rw[eT hf];simp[rawInt]]
  show au^wpAny_setField ho hf (by simp)^au^wpAny_holding ?_;show au (wpAny_isOneOf_keyiter (s:={ s with heap:=s.heap.update it (Obj.mapFields (·.setIfInBounds 1 (rawInt ((i:M)+1)))) }) yy.typeIs^show wpAny _ _ (pure e.key) _ _ _ from ?_);show aW^aW #[_,Z,aW^hQ e he _ yy (k9 ..)]
 | none =>
  erw[show Not ((i:M)<0) by lia,if_false,lg,he];show au ?_
  first|show au (wpAny_typeNameOfWhole_keyiter ty^aW ?_)|show au^wpAny_typeNameOf_keyiter ty^aW ?_
  change wpAny _ _ (setField (¬it) 0 .none >>= _) _ _ s;show au^wpAny_setField ho hf (by simp) (SG.sD (show A.in1.handled=aw from hh) λh' e o k he' hc=>au^wpAny_isInstance (T := "StopIteration") (b:=true) #[_,he',hc] isSubtype_stop^aW (hN he h' λb x hb e=>k _ _^(k9 ..).extBut b x hb e))
def LI(hh:A.handled=aw)(I d:ae)(UV:d≠I)(es:Array DictEntry)(ep:O):Walks prog w A I [I,d] [I] cn (λi v=>∃e,es[i]?=!e/\v=e.key) (λi h=>h.IsKeyIter I d i cn ep/\lQ h d es ep) where
 sub:=λb hb=>by simp at hb;simp[hb]
 frame:=λz z z st hk=>#[st.1.at λo e=>hk I (by simp) o e,st.2.at' λo e=>hk d (by simp) o e]
 item:=λi s Q E hi st hQ=>by show sG hh st.1 st.2 (λe e1 h' h1 h2=>hQ _ h' s.toks #[_,e1,Z] #[h1,st.2.at' λo e=>h2.extBut d o UV e] λb o hb e=>h2.extBut b o (λh=>hb^by simp[h]) e) λh=>by rw[ig hi] at h;cases h
 done:=λs Q E st hQ=>sG hh st.1 st.2 (λe h=>by rw[vM^ay _] at h;cases h) λz h' h1=>hQ h' s.toks λb o hb e=>h1 b o (λh=>hb^by simp[h]) e
 self:=λz z z z st hQ=>wpAny_pyIter_keyiter st.1 hQ
def UD(lo:(d==sysModules)=bj):KdlSrc prog w "dict" d d cn (λi v=>∃e,es[i]?=!e/\v=e.key) (λh=>lQ h d es ep) where
 type:=λz x=>x.ty
 there:=λz x=>#[let⟨_,ho,_⟩:=x;aO ho,let⟨_,ho,_⟩:=x;aO ho]
 keep:=λz z x hk=>x.at' λo e=>hk d (.inl Z) o e
 notList:=()
 notTuple:=()
 hint:=λz z z z x hq=>kdl_hint_dict x.ty hq
 iter:=λz s hh x=>#[_,_,(λz z hq=>D3 lo x hq),LI hh _ d (let⟨_,ho,_⟩:=x;aU^aO ho) es ep,#[#[_,jB _ rfl,Z,Z],x.at' λo e=>eS _ e]]
def Pg(hh:A.handled=aw)(lo:(d==sysModules)=bj)(x:lQ am d es ep)(hz:cn<=sizeLine)
  (hR:∀h' tk Xt c,(∀b o,s.heap.get? b=!o->h'.get? b=!o)->h'.get? B=!{ cls:=.type "list", dict:=none,data:=.seq Xt c,slots:=#[] }->ItemsOf (λi v=>∃e,es[i]?=!e/\v=e.key) Xt cn->R (.ok^.ret^¬B) { s with heap:=h',toks:=tk }):
  codeAny (model prog w) A (.builtin "proto.collect" #[[¬d],[]]) R s:=by show codeAny_builtin F.entry_proto_collect ?_;rw[kL F.plain_proto_collect];let hlt:d<s.heap.objs.size:=let⟨_,ho,_⟩:=x;aO ho;show au (m:=newList [])^wpAny_newObj_type^aW #[plainId_quiet F.plain_list_iadd _,codeAny_builtin F.entry_list_iadd ?_];rw[kL F.plain_list_iadd];change wpAny _ A.in1 (Builtin.List.listExtendWith (¬B) (¬d)^¬B) _ _ _;show kdl_extend (s:={ s with heap:=s.heap.push { cls:=.type "list", data:=.seq ([]:List J).toArray } }) (R:=R) (UD lo) hh (x.at' λo e=>eS _ e) B (jL hlt) (jL hlt) _ 0 (jB _ rfl) (λh' tk Xt c hk hS TC=>hR h' tk Xt c (λb o e=>hk b o (aU^aO e)^eS _ e) hS TC) hz
def D4{Q:List J->ap->eL}(hh:A.handled=aw)(lo:(d==sysModules)=bj)(x:lQ am d es ep)(hz:cn<=sizeLine)
  (hQ:∀h' tk Xt,(∀b o,s.heap.get? b=!o->h'.get? b=!o)->B<dC->ItemsOf (λi v=>∃e,es[i]?=!e/\v=e.key) Xt cn->Q Xt.toList { s with heap:=h',toks:=tk }):wpAny (model prog w) A (collect^¬d) Q E s:=by unfold collect;show au^wpAny_runValue (Pg hh lo x hz λh' tk Xt c hk hS TC=>?_);show au (m:=load B)^wpAny_load hS^aW^hQ h' tk Xt hk (aO hS) TC
abbrev kj(h:cv):List J->List (M×M)->Prop:=Paired λv p=>∃x o n t u,v=¬x/\h.get? x=!o/\o.cls=.type "tuple" /\ o.data=.seq #v[.int p.1 t,.int p.2 u] n
noncomputable def rk(p:M×M):Int:=p.1*1000+p.2
theorem aeY{a b c d:M}(h1:0<=b/\b<1000)(h2:0<=d/\d<1000):decide (rk (a,b)<rk (c,d))=if a=c then decide (b<d) else decide (a<c):=by unfold rk;dsimp only;split;rw[decide_eq_decide];lia;rw[decide_eq_decide];lia
theorem aaX{p q:M×M}(h1:0<=p.2/\p.2<1000)(h2:0<=q.2/\q.2<1000)(e:rk p=rk q):p=q:=by let#[a,b]:=p;let#[c,d]:=q;unfold rk at e;dsimp only at *;let e1:a=c:=∅;let e2:b=d:=∅;rw[e1,e2]
theorem UE{x y:ae}{ox oy:du}{a b c d:M}{t1 t2 t3 t4:Tok}{Q:cf->ap->eL}(hx:s.heap.get? x=!ox)(dx:ox.data=.seq #v[.int a t1,.int b t2] n)(hy:s.heap.get? y=!oy)(dy:oy.data=.seq #v[.int c t3,.int d t4] k)
  (h:Q (if a=c then decide (b<d) else decide (a<c)) s):wpAny (model prog w) A (keyLt' (tuples' ag) (¬x)^¬y) Q E s:=by show kat_lt hx dx hy dy^kat_cons^wpAny_eqBool_int ?_;by_cases e:a=c;rw[if_pos e] at h;rw[show(a==c)=ag by simpa using e];show kat_yes^kat_cons^wpAny_eqBool_int ?_;by_cases e2:b=d;rw[show(b==d)=ag by simpa using e2];rw[decide_eq_false ∅] at h;show kat_yes^kat_nil h;rw[show(b==d)=bj by simpa using e2];show kat_no^kat_one _ _^PyProof.Rows.lt_int h;rw[if_neg e] at h;rw[show(a==c)=bj by simpa using e];show kat_no^oneLt_int h
def UG(hp:kj h vs ps):∃fs:List J,KatTups h vs fs/\fs.length=ci/\∀v∈fs,∃i t,v=Value.int i t:=by
 induction hp with
 | nil=>show#[[],.nil,Z,λv hv=>nomatch hv]
 | cons z _ ih =>
  let#[x,o,n,t,u,e,h1,h2,h3]:=z;let#[fs,a1,a2,a3]:=ih;subst e;show#[_::fs,KatTups.cons h1 h2 h3 Z a1,by simp[a2],λv hv=>?_];rcases aP.mp hv with e|hv;show#[_,_,e];show a3 v hv
def Ph(hp:kj h vs ps):∀{i:O},i<ci->∃x o n t u,vs.getD i Value.none=¬x/\h.get? x=!o/\o.data=.seq #v[.int (ps.getD i (0,0)).1 t,.int (ps.getD i (0,0)).2 u] n:=by
 induction hp with
 | nil=>show λ{i} hi=>absurd hi^jf _
 | cons z _ ih =>
  intro i hi;cases i with
  | zero =>
   let#[x,o,n,t,u,e,h1,h2,h3]:=z;show#[x,o,n,t,u,e,h1,h3]
  | succ i =>
   let#[x,o,n,t,u,h]:=ih (i:=i) (by simpa using hi);show#[x,o,n,t,u,by simpa using h]
def kj.keep(x:kj h vs ps)(k:∀b o,o.cls=.type "tuple" -> h.get? b=!o->h'.get? b=!o):kj h' vs ps:=L2.Paired.KP x λv p ⟨x,o,n,t,u,e,h1,h2,h3⟩=>#[x,o,n,t,u,e,k _ _ h2 h1,h2,h3]
theorem UH:∀{vs:List J},dA<2->(vs.toArray.zip vs.toArray).map (·.2)=List.toArray ((List.toArray^List.range dA).toList.map λi=>vs.getD i Value.none)
 | [],_=>by simp
 | [v],_=>by simp[List.range_succ]
 | _::_::_,h=>by erw[ck] at h;lia
set_option maxHeartbeats 1000000 in
theorem D5{r:Nat->Int}{P:PySem.Fin->Shared->Prop}(ho:s.heap.get? a=!seqObj "list" vs.toArray n)(h64:vs.length<64)
  (hT:∀G:Heap,(∀b o vs' n',o.cls=.type "tuple" -> o.data=.seq vs' n'->s.heap.get? b=!o->G.get? b=!o)->∃fs:List Value,KatTups G vs fs/\fs.length=vs.length/\∀v∈fs,∃i t,v=Value.int i t)
  (hc:∀G:Heap,(∀b o vs' n',o.cls=.type "tuple" -> o.data=.seq vs' n'->s.heap.get? b=!o->G.get? b=!o)->∀i j,i<vs.length->j<vs.length->∀(E':Value->Shared->Prop)(C:Bool->Shared->Prop),C (decide (r i<r j)) { s with heap:=G }->wpAny (model prog w) A (keyLt' (tuples' true) (vs.getD i Value.none)^vs.getD j Value.none) C E' { s with heap:=G })
  (inj:∀i j,i<vs.length->j<vs.length->r i=r j->i=j)
  (h:∀q:Array Nat,Pl vs.length q->Up r q vs.length->P (.done^.ret .none) { s with heap:=sortedHeap s.heap a vs (List.toArray (q.toList.map λi=>vs.getD i Value.none)) }):
  wpAny (model prog w) A (Builtin.«list.sort» #[[¬a],[]]) P E s:=by
 let ha:a<s.heap.objs.size:=aO ho;obtain⟨e1,ho1⟩:∃e1,(s.heap.update a (Obj.mapSeq λx=>#[])).get? a=some (seqObj "list" #[] e1):=#[_,get?_update_seq ho (λx=>#[])];let kp:∀b o,b≠a->s.heap.get? b=!o->(((s.heap.update a (Obj.mapSeq λx=>#[])).push^seqObj "tuple" vs.toArray 0).push^seqObj "list" #[] 0).get? b=!o:=λb o hba e=>eS _^eS _^(iT _ _ _ _ hba).trans e;let ho6:(((s.heap.update a (Obj.mapSeq λx=>#[])).push^seqObj "tuple" vs.toArray 0).push^seqObj "list" #[] 0).get? a=!seqObj "list" #[] e1:=eS _^eS _ ho1;rw[list_sort_plain];show au^listItems_at ho rfl^au^listUpdate_at ho rfl ?_ (by rw[bB,sizeLine_eq];lia)^aV _;show au^seqEpoch_at ho1 rfl^au^wpAny_newTuple ?_ (by change vs.length<=_;rw[sizeLine_eq];lia);show au^wpAny_newList (wpAny_holding ?_)^aV _;change wpAny (model prog w) A _ P E { s with heap:=((s.heap.update a (Obj.mapSeq λx=>#[])).push (seqObj "tuple" vs.toArray 0)).push (seqObj "list" #[] 0) };let KG:∀b o vs' n',o.cls=.type "tuple" -> o.data=.seq vs' n'->s.heap.get? b=!o->(((s.heap.update a (Obj.mapSeq λx=>#[])).push^seqObj "tuple" vs.toArray 0).push^seqObj "list" #[] 0).get? b=!o:=λb o x x hc x e=>kp b o (λz=>by subst z;rw[ho] at e;cases e;show absurd (show Value.type "list" = .type "tuple" from hc) ()) e;let uh:∀out,((((s.heap.update a (Obj.mapSeq λx=>#[])).push^seqObj "tuple" vs.toArray 0).push^seqObj "list" #[] 0)).update a (Obj.mapSeq λx=>out)=sortedHeap s.heap a vs out:=λx=>rfl;generalize (((s.heap.update a (Obj.mapSeq λx=>#[])).push^seqObj "tuple" vs.toArray 0).push^seqObj "list" #[] 0)=G at *;dsimp only;let fin:∀q:Array Nat,Pl vs.length q->Up r q vs.length->P (.done^.ret .none) { s with heap:=G.update a (Obj.mapSeq λx=>List.toArray (q.toList.map λi=>vs.getD i Value.none)) }:=λq hq u=>by rw[uh];show h q hq u
 by_cases h2:vs.toArray.size<2
 .rw[if_pos h2,if_pos h2];show au^aW ?_;rw[StateT.run_pure];show au^aW^au^seqEpoch_at ho6 rfl^au^listUpdate_at ho6 rfl ?_ (aV _) ?_
  .erw[bne_self_eq_false,cK,if_false];have:=fin (List.toArray^List.range vs.length) (Pl.start _) (λi j hij hj=>by rw[bB] at h2;lia);let e:(arrOf^SortSt.mk' general' (vs.toArray.zip vs.toArray) #[] 7 none).map (·.2)=List.toArray ((List.toArray^List.range vs.length).toList.map λi=>vs.getD i Value.none):=by show UH (by rw[bB] at h2;show h2)
   rw[e];show aW this
  .change((vs.toArray.zip vs.toArray).map _).size<=_;rw[Array.size_map,Array.size_zip,bB,sizeLine_eq];lia
 .have h2':2<=vs.length:=by rw[bB] at h2;lia
  rw[if_neg h2,if_neg h2];let#[fs,k1,k2,k3]:=hT G KG;show au (kat_kind (T:=.type "int") k1 ∅ (λv hv=>by let#[i,t,rfl]:=k3 v hv;show Looks.of_pure rfl) rfl ?_);let kd:((Value.type "int") != (Value.type "tuple"))=true:=()
  rw[kd];show au (wpAny_mono (kat_run (prog:=prog) (w:=w) (A:=A) (κ:=tuples' true) (vs:=vs) (ks:=vs) (Q:=λTs s'=>s'={ s with heap:=G }/\failedOf Ts=none/\∃q,Pl vs.length q/\Up r q vs.length/\(arrOf Ts).map (·.2)=List.toArray (q.toList.map λi=>vs.getD i Value.none))
   (G:=λq s'=>s'={ s with heap:=G }/\Pl vs.length q/\Up r q vs.length) rfl h2' ∅ (λq Ts s' x har hf hg=>#[hg.1,hf,q,hg.2.1,hg.2.2,kat_snds rfl har]) ?_) ?_ λx x e=>e)
  .show UC (r:=r) (λi j hi hj C hC=>?_) inj ∅ λq hq u=>#[rfl,hq,u];show hc G KG i j hi hj _ C hC
  .rintro⟨⟨⟩,Ts⟩ s' ⟨rfl,hf,q,hq,u,eo⟩;dsimp only;show au^seqEpoch_at ho6 rfl^au^listUpdate_at ho6 rfl ?_ (aV _) ?_;rw[hf];erw[bne_self_eq_false,cK,if_false];rw[eo];show aW^fin q hq u;rw[eo,bB,aq,dU,hq.sz,sizeLine_eq];lia
theorem D6{P:PySem.Fin->ap->eL}(ho:s.heap.get? a=!seqObj "list" vs.toArray n)(hP:kj am vs ps)(hb:∀p∈ps,0<=p.2/\p.2<1000)(nd:ps.Nodup)(h64:ci<64)
  (h:∀q:Array O,Pl ci q->(∀i j,i<j->j<ci->rk^ps.getD (q.getD i 0) (0,0)<rk^ps.getD (q.getD j 0) (0,0))->P (.done^.ret .none) { s with heap:=sortedHeap am a vs (List.toArray (q.toList.map λi=>vs.getD i Value.none)) }):
  wpAny (model prog w) A (Builtin.«list.sort» #[[¬a],[]]) P E s:=by
 let XB:dA=ps.length:=hP.length;let PG:∀G:cv,(∀b o vs' n',o.cls=.type "tuple" -> o.data=.seq vs' n'->s.heap.get? b=!o->G.get? b=!o)->kj G vs ps:=λG k=>L2.Paired.KP hP λv p ⟨x,o,n,t,u,e,h1,h2,h3⟩=>#[x,o,n,t,u,e,k _ _ _ _ h2 h3 h1,h2,h3];let mem:∀i,i<ci->ps.getD i (0,0)∈ps:=λi hi=>by rw[xm,iR hi];show ly hi
 show D5 (r:=λi=>rk^ps.getD i (0,0)) ho ∅ (λG k=>by rw[XB];show UG^PG G k) (λG k i j hi hj E' C hC=>?_) (λi j hi hj e=>?_) λq hq u=>?_;rw[XB] at hi hj;let#[x,ox,n1,t1,u1,ex,gx,dx]:=Ph (PG G k) hi;let#[y,oy,n2,t2,u2,ey,gy,dy]:=Ph (PG G k) hj;rw[ex,ey];show UE (s:={ s with heap:=G }) gx dx gy dy ?_;rw[<- aeY (hb _^mem i hi) (hb _^mem j hj)];show hC;rw[XB] at hi hj;let e2:=aaX (hb _^mem i hi) (hb _^mem j hj) e;rw[xm,iR hi,xm,iR hj] at e2;show(x9 nd).mp e2;rw[XB] at hq u;show h q hq u
theorem G6{Q:J->ap->eL}(hh:A.handled=aw)(lo:(d==sysModules)=bj)(x:lQ am d es ep)(hP:kj am (es.toList.map (·.key)) ps)(hb:∀p∈ps,0<=p.2/\p.2<1000)(nd:ps.Nodup)(h64:ci<64)
  (h:∀(p:ae)(h':cv)(tk c:O)(q:Array O),B<=p->(∀b x,s.heap.get? b=!x->h'.get? b=!x)->h'.get? p=!{ cls:=.type "list", data:=.seq (List.toArray (q.toList.map λi=>(es.toList.map (·.key)).getD i Value.none)) c }->Pl ci q->(∀i j,i<j->j<ci->rk^ps.getD (q.getD i 0) (0,0)<rk^ps.getD (q.getD j 0) (0,0))->Q (¬p) { s with heap:=h',toks:=tk }):
  wpAny (model prog w) A (call (.builtin "sorted") [¬d]) Q E s:=by
 let hes:cn=ps.length:=by have:=hP.length;rw[aq,dU] at this;show this
 show BA kind_sorted plain_sorted entry_sorted (args_sorted1 _) ?_;unfold Builtin.«sorted»;show au (m:=checkCount "sorted" 1 1 _)^aW^au^D4 (by simp[hh]) lo x (by rw[hes,sizeLine_eq];lia) ?_;intro h1 tk1 Xt k1 G3 XV;let aaY:Xt.toList=es.toList.map (·.key):=by
  apply xV;intro i;rcases dg i es.size with hi|hi
  .have Id:i<Xt.size:=by rw[XV.1];show hi
   let#[e,he,ee]:=XV.2 i Xt[i]^ig Id;rw[gG,ig Id,bJ,gG,he,ee];rfl
  .rw[iA (by rw[dU,XV.1];show hi),iA (by rw[aq,dU];show hi)]
 rw[aaY];let Op:(es.toList.map (·.key)).length=ps.length:=hP.length;let hP1:kj h1 (es.toList.map (·.key)) ps:=hP.keep λb o z e=>k1 b o e;generalize es.toList.map (·.key)=vs at *;show au^wpAny_newList ?_ (by rw[Op,sizeLine_eq];lia);let gN:(h1.push^seqObj "list" vs.toArray 0).get? eD=!seqObj "list" vs.toArray 0:=jB _ rfl;show au^wpAny_holding^wpAny_call_entry slot_list_sort #[_,gN,Z] entry_list_sort (D6 gN (hP1.keep λb o z e=>eS _ e) hb nd h64 λq hq u=>#[_,Z,?_])^args_list_sort _;let#[c,hc]:=sortedHeap_at (h:=h1.push^seqObj "list" vs.toArray 0) (a:=eD) (vs:=vs) (n:=0) (out:=List.toArray (q.toList.map λi=>vs.getD i Value.none)) gN;show aW #[_,Z,h eD _ tk1 c q (iD G3) (λb x e=>?_) hc hq u];let hb:=aO^k1 b x e;rw[sortedHeap_old (aU hb) (by rw[size_push'];show je hb)];show eS _^k1 b x e
end SN
namespace L2
variable {p q:M×M}{ps:List (M×M)}
abbrev oK(H:Hp):List V->List (M×M)->Prop:=Paired λv p=>∃a,v=¬a/\H a=!.tup [.int p.1,.int p.2]
def sI{α β:Type}{F:α->β->eL}{l₁:List α}{l₂:List β}(hp:Paired F l₁ l₂):∀{i:O}{x:α},l₁[i]?=!x->∃y,l₂[i]?=!y/\F x y:=by
 induction hp with
 | nil=>show λ{i x} e=>by simp at e
 | cons h _ ih =>
  intro i x e;cases i with
  | zero=>cases e;show#[_,Z,h]
  | succ i=>show ih e
noncomputable def Aa(p:M×M):List Key:=[.inl p.1,.inl p.2]
def UI(e:Aa p=Aa q):p=q:=by let#[a,b]:=p;let#[c,d]:=q;unfold Aa at e;dsimp only at e;injection e with e1 e2;injection e1 with e1;injection e2 with e2 _;injection e2 with e2;rw[e1,e2]
section
variable {Y:St}
def Inv.pair(I:Inv X X1 Y H s)(h:H a=!.tup [.int p.1,.int p.2]):∃o n t u,s.heap.get? a=!o/\o.cls=.type "tuple" /\ o.data=.seq #v[.int p.1 t,.int p.2 u] n:=by
 let#[_,XL,r,o,h1,h2,n,h3]:=(show dQ bi cq H am a^.tup [.int p.1,.int p.2] from I.hok a _ h);cases r with
 | cons r1 r =>
  cases r with
  | cons r2 r =>
   cases r;let#[t,Z]:=r1;let#[u,Z]:=r2;show#[o,n,t,u,h1,h2,h3]
noncomputable def SI(h:cv)(p:M×M):J->cf
 | .ref a=>match h.get? a with
  | some o=>match o.data with
   | .seq XL _=>match XL.toList with
    | [.int i _,.int j _]=>decide ((i,j)=p)
    | _=>false
   | _=>false
  | none=>false
 | _=>false
def Pj{o:du}{t u:Tok}(e:h.get? a=!o)(d:o.data=.seq #v[.int p.1 t,.int p.2 u] n):SI h q^.ref a=decide (p=q):=by unfold SI;dsimp only;rw[e];dsimp only;rw[d]
def LJ{oa ob:du}{m:O}{t1 t2 u1 u2:Tok}(ea:s.heap.get? a=!oa)(ca:oa.cls=.type "tuple")(da:oa.data=.seq #v[.int p.1 t1,.int p.2 t2] n)(eb:s.heap.get? b=!ob)(cb:ob.cls=.type "tuple")(db:ob.data=.seq #v[.int q.1 u1,.int q.2 u2] m)(hu:A.units+1<cLine):
  SeqAt.EqAt A s (¬a) (¬b) (decide (p=q)):=by
 let ra:Reads am (¬a) (.tuple [.int p.1,.int p.2]) _:=.tuple ea ca da (by simpa using ReadsAll.cons (.int p.1 t1)^.cons (.int p.2 t2) .nil);let rb:Reads am (¬b) (.tuple [.int q.1,.int q.2]) _:=.tuple eb cb db (by simpa using ReadsAll.cons (.int q.1 u1)^.cons (.int q.2 u2) .nil);let e:PyData.eqv (.tuple [.int p.1,.int p.2])^.tuple [.int q.1,.int q.2]=decide (p=q):=by let#[a,b]:=p;let#[c,d]:=q;change((a==c)&&((b==d)&&true))=_;by_cases h1:a=c;by_cases h2:b=d;subst h1 h2;simp;simp[h2];simp[h1]
 rw[<- e];show SeqAt.eqAt_reads _ _ A s _ _ _ _ ra rb Z rfl hu
def JJ(I:Inv X X1 Y H s)(q:M×M)(hp:oK H xs ps)(hv:Vals xs us):us.any^SI am q=decide (q∈ps):=by
 induction hp generalizing us with
 | nil=>cases hv;simp
 | @cons _ p _ ps z _ ih =>
  let#[a,e,h]:=z;cases hv with
  | cons rv rs =>
  subst e;cases rv;let#[o,n,t,u,h1,h2,h3]:=I.pair h;rw[lq,Pj h1 h3,ih rs];by_cases e:p=q;simp[e];let e':Not (q=p):=λz=>e z.symm;simp[e,e']
def Pk(I:Inv X X1 Y H s)(hu:A.units+1<cLine)(hb:H b=!.tup [.int q.1,.int q.2]):∀{xs:List V}{ps:List (M×M)}{us:List J},oK H xs ps->Vals xs us->∀u∈us,SeqAt.EqAt A s u (¬b)^SI am q u:=by
 intro xs ps us hp rv;induction hp generalizing us with
 | nil=>cases rv;show λu hm=>nomatch hm
 | cons z r ih =>
  cases rv with
  | cons rv rs =>
   intro u hm;let#[a,e,h]:=z;rcases aP.mp hm with z|z
   .subst z e;cases rv;let#[o,n,t,u,h1,h2,h3]:=I.pair h;let#[o',n',t',u',h1',h2',h3']:=I.pair hb;rw[Pj h1 h3];show LJ h1 h2 h3 h1' h2' h3' hu
   .show ih rs u z
def LK(K:aC)(neg:cf):R2:=λx y H Q=>∃(b l:ae)(q:M×M)(xs:List V)(ps:List (M×M)),x=¬b/\y=¬l/\H b=!.tup [.int q.1,.int q.2]/\bI K H l xs/\oK H xs ps/\Q (.bl (if neg then not (decide (q∈ps)) else decide (q∈ps))) H
theorem G7(hu:X.A.units+64<cLine):lE X (compareOp .In)^LK dq false:=by intro X1 s Y H x y v u Q I rx ry h;let#[b,l,q,xs,ps,Z,Z,hb,hl,hp,k]:=h;cases rx;cases ry;let#[XL,r,pl,hz]:=I.list hl;show SeqAt.in_listAt (SI am q) pl.isList (λw hw=>Pk I (by change X.A.units+1+1<cLine;lia) hb hp r w^by simpa using hw) #[.bl _,H,I,Z,?_];rw[show XL.toArray.any^SI am q=XL.any (SI am q) by simp,JJ I q hp r];show k
theorem LL(hu:X.A.units+64<cLine):lE X (compareOp .NotIn)^LK dq true:=by intro X1 s Y H x y v u Q I rx ry h;let#[b,l,q,xs,ps,Z,Z,hb,hl,hp,k]:=h;cases rx;cases ry;let#[XL,r,pl,hz]:=I.list hl;show SeqAt.notIn_listAt (SI am q) pl.isList (λw hw=>Pk I (by change X.A.units+1+1<cLine;lia) hb hp r w^by simpa using hw) #[.bl _,H,I,Z,?_];rw[show XL.toArray.any^SI am q=XL.any (SI am q) by simp,JJ I q hp r];show k
def JK(e:dq=K)(hu:X.A.units+64<cLine):lE X (compareOp .In)^LK K false:=e▸G7 hu
def G8(e:dq=K)(hu:X.A.units+64<cLine):lE X (compareOp .NotIn)^LK K true:=e▸LL hu
def Pn:List V->Hp->VK->Prop:=λxs H Q=>∃(d:ae)(ps:List (M×M))(f:M×M->V),xs=[¬d]/\H d=!.dT (ps.map λp=>(Aa p,f p))/\(∀p∈ps,0<=p.2/\p.2<1000)/\ci<64 /\
 ∀l us qs H',gX H l (.lst us) H'->oK H us qs->qs.Perm ps->qs.Pairwise (λp q=>SN.rk p<SN.rk q)->Q (¬l) H'
def range_getD{α:Type}(d:α):∀xs:List α,(List.range ab).map (λi=>xs.getD i d)=xs:=λxs=>by apply xV;intro i;rw[bJ];rcases dg i xs.length with h|h;rw[List.getElem?_range h];simp[h];rw[iA^by simpa using h,iA h];rfl
theorem G9(hc:X.calm=ag):ef X (.builtin "sorted") Pn:=by
 intro X1 s Y H xs us Q I r h;let#[d,ps,f,Z,hd,hb,h64,k]:=h;let#[u,Z,ru]:=vals1 r;cases ru;let#[z,lo,ys,W1,o,es,ep,h1,h2,h3,h4,h5]:=(show dQ bi cq H am d^.dT (ps.map λp=>(Aa p,f p)) from I.hok d _ hd);let hkeys:es.toList.map (·.key)=(ys.map (·.2.1)).map Value.ref:=by rw[h4,gI,gI];rfl
 let SC:∀{ps:List (M×M)}{ys:List (List Key×ae×J)},Paired (λ(p:List Key×V)(q:List Key×ae×J)=>p.1=q.1/\H q.2.1=!.tup^p.1.map kV/\RelV p.2 q.2.2) (ps.map λp=>(Aa p,f p)) ys->Paired (λ(a:ae)(p:M×M)=>H a=!.tup [.int p.1,.int p.2]) (ys.map (·.2.1)) ps/\ys.map (·.1)=ps.map Aa:=by
  intro ps;induction ps with
  | nil=>intro ys r;cases r;show#[.nil,Z]
  | cons p ps ih =>
   intro ys r;cases r with
   | cons hq t =>
    let#[a1,a2]:=ih t;show#[.cons hq.2.1 a1,by rw[cN,cN,a2,<- hq.1]]
 let#[aaZ,akJ]:=SC W1;let nd:ps.Nodup:=by rw[akJ] at h5;show(nZ.mp h5).imp λh e=>h (by rw[e])
 let hP:SN.kj am (es.toList.map (·.key)) ps:=by
  rw[hkeys];let go:∀{as:List ae}{ps:List (M×M)},Paired (λ(a:ae)(p:M×M)=>H a=!.tup [.int p.1,.int p.2]) as ps->SN.kj am (as.map Value.ref) ps:=by
   intro as ps r;induction r with
   | nil=>show .nil
   | cons h _ ih =>
    let#[o,n,t,u,a1,a2,a3]:=I.pair h;show .cons #[_,o,n,t,u,Z,a1,a2,a3] ih
  show go aaZ
 let D7:=aaZ.length;show SN.G6 (I.ok.hd hc) lo #[o,h1,h2,h3] hP hb nd h64 λp h' tk c q hle hk ho hq hup=>?_;rw[hkeys] at ho;generalize hA:ys.map (·.2.1)=as at *;let hget:∀i,i<ci->(as.map Value.ref).getD i Value.none=Value.ref^as.getD i 0/\H^as.getD i 0=!.tup [.int (ps.getD i (0,0)).1,.int (ps.getD i (0,0)).2]:=λi hi=>by let Id:i<as.length:=∅;let#[b,hb1,hb2]:=sI aaZ (i:=i) (x:=as[i])^iR Id;erw[xm,bJ,iR Id,hb1,Option.map_some,Option.getD_some];show#[trivial,hb2]
 let hmem:∀i∈q.toList,i<ps.length:=λi hi=>gJ.mp^hq.pm.mem_iff.mp hi;let v7:∀{l:List O},(∀i∈l,i<ci)->Vals (l.map λi=>V.ref^as.getD i 0) (l.map λi=>(as.map Value.ref).getD i Value.none)/\oK H (l.map λi=>V.ref^as.getD i 0) (l.map λi=>ps.getD i (0,0)):=by
  intro l;induction l with
  | nil=>intro _;show#[.nil,.nil]
  | cons i l ih =>
   intro hl;let#[a1,a2]:=ih λj hj=>hl j^d8 _ hj;let#[b1,b2]:=hget i (hl i^by simp);rw[cN,cN,cN];show#[.cons ?_ a1,.cons #[_,Z,b2] a2];rw[b1];rfl
 let#[v1,v2]:=v7 hmem;show#[¬p,_,I.laid (t':=tk) hk hle (o:=.lst (q.toList.map λi=>V.ref^as.getD i 0)) #[?_,_,c,v1,ho],Z,k p _ (q.toList.map λi=>ps.getD i (0,0)) _ #[I.hok.fresh hle,Z] v2 ?_ ?_];rw[aq,dU,hq.sz,sizeLine_eq];lia;have:=hq.pm.map λi=>ps.getD i (0,0);rw[range_getD] at this;show this
 .rw[nZ,nY];intro i j hi hj hij;let hql:q.toList.length=ps.length:=by rw[dU,hq.sz]
  let g1:=hq.get (i:=i) ∅;let g2:=hq.get (i:=j) ∅;rw[iR hi] at g1;rw[iR hj] at g2;rw[Option.some.inj g1,Option.some.inj g2];show hup i j hij ∅
end
section
variable {nx bk ct:St->Hp->eL}{Y:St}
def JL(hb:H b=!.tup [.int q.1,.int q.2])(hl:bI K H l xs)(hp:oK H xs ps)(h:Q (.bl (decide (q∈ps))) H):LK K bj (¬b) (¬l) H Q:=#[b,l,q,xs,ps,Z,Z,hb,hl,hp,h]
def Po(hb:H b=!.tup [.int q.1,.int q.2])(hl:bI K H l xs)(hp:oK H xs ps)(h:Q (.bl (not (decide (q∈ps)))) H):LK K ag (¬b) (¬l) H Q:=#[b,l,q,xs,ps,Z,Z,hb,hl,hp,h]
def UJ{f:M×M->V}(hd:H d=!.dT (ps.map λp=>(Aa p,f p)))(hb:∀p∈ps,0<=p.2/\p.2<1000)(h64:ci<64)
  (h:∀l us qs H',gX H l (.lst us) H'->oK H us qs->qs.Perm ps->qs.Pairwise (λp q=>SN.rk p<SN.rk q)->Q (¬l) H'):Pn [¬d] H Q:=#[d,ps,f,Z,hd,hb,h64,h]
def ah8(h:∀p H',gX H p (.dT []) H'->Q (¬p) H'):N7 Y H Q:=λp hp=>h p _ #[hp,Z]
theorem aeZ{kvs:List (List Key×V)}{k:List Key}{R:Hp->eL}(hd:H a=!.dT kvs)(hb:H b=!.tup^k.map kV)(hz:bo<=1000000)(h:∀H',mT H a (.dT^putK kvs k v) H'->R H'):rDP v (¬a) (¬b) H R :=
 #[a,_,Z,K7.t hd hb (by rw[sizeLine_eq];lia),h _ rfl]
def akK{i:M}(hd:H a=!.dK kvs)(h:Q (.bl (not ((c9 kvs^.inl i).isSome))) H):aeL (.int i) (¬a) H Q:=#[a,_,Z,.inl #[kvs,.inl i,.inl hd,Z,Z],h]
end
def Hf(e:dq=K)(e2:cq=w)(hc:X.calm=ag):ef X (.type "set")^JF K w:=e▸e2▸AR hc
def D8(e2:cq=w)(hc:X.calm=ag):ef X (.builtin "sorted")^G4 w:=e2▸yL hc
section
variable {nx bk ct:St->Hp->eL}{Y:St}
end
end L2
namespace HM
variable {k y:bY}{v:J}{x:ae}{Q:cf->ap->eL}{t:SetTable}{ks:List bY}
abbrev fX:=Option (M×M)
abbrev bY:=M×Option (M×M)
def ir(h:cv):fX->J->eL
 | none,v=>∃t,v=.str "mark" t
 | some p,v=>∃a o n t u,v=¬a/\h.get? a=!o/\o.cls=.type "tuple" /\ o.data=.seq #v[.int p.1 t,.int p.2 u] n
def cQ(h:cv)(k:bY)(a:ae):=∃o n t v,h.get? a=!o/\o.cls=.type "tuple" /\ o.data=.seq #v[.int k.1 t,v] n/\ir h k.2 v
noncomputable def nU:fX->PyData
 | none=>.str "mark"
 | some p=>.tuple [.int p.1,.int p.2]
noncomputable def Cd(k:bY):PyData:=.tuple [.int k.1,nU k.2]
def UK:PyData.strOk "mark" = true:=()
def xC(k:fX):(nU k).canLay0=true:=by cases k<;>simp[nU,PyData.canLay0,PyData.canLayAll0,UK]
def JM(k:bY):(Cd k).canLay0=true:=by simp[Cd,PyData.canLay0,PyData.canLayAll0,xC]
def ve(k:fX):(nU k).depth<=1:=by cases k<;>simp[nU,PyData.depth,PyData.depthAll]
theorem LM(k:bY):(Cd k).depth<=2:=by have:=ve k.2;erw[Cd,PyData.depth,PyData.depthAll];lia
def Pp(p q:M×M):PyData.eqv (.tuple [.int p.1,.int p.2])^.tuple [.int q.1,.int q.2]=decide (p=q):=by let#[a,b]:=p;let#[c,d]:=q;change((a==c)&&((b==d)&&true))=_;by_cases h1:a=c;by_cases h2:b=d;subst h1 h2;simp;simp[h2];simp[h1]
def Ce(x y:fX):PyData.eqv (nU x)^nU y=decide (x=y):=by
 cases x with
 | none =>
  cases y with
  | none=>change(("mark" : bc) == "mark")=_;simp
  | some q=>simp[nU,PyData.eqv]
 | some p =>
  cases y with
  | none=>simp[nU,PyData.eqv]
  | some q =>
   change PyData.eqv (.tuple [.int p.1,.int p.2])^.tuple [.int q.1,.int q.2]=_;rw[Pp];by_cases e:p=q;simp[e];simp[e]
def UL(x y:bY):PyData.eqv (Cd x)^Cd y=decide (x=y):=by let#[p,a]:=x;let#[q,b]:=y;change((p==q)&&(PyData.eqv (nU a)^nU b&&true))=_;rw[Ce];by_cases h1:p=q;by_cases h2:a=b;subst h1 h2;simp;simp[h2];simp[h1]
def ir.reads{k:fX}(x:ir h k v):Reads h v (nU k) []:=by
 cases k with
 | none=>let#[t,Z]:=x;show .str _ _
 | some p =>
  let#[a,o,n,t,u,Z,h1,h2,h3]:=x;show .tuple h1 h2 h3 (by simpa using ReadsAll.cons (.int p.1 t)^.cons (.int p.2 u) .nil)
theorem cQ.reads(x:cQ h k a):Reads h (¬a) (Cd k) []:=by let#[o,n,t,v,h1,h2,h3,h4]:=x;show .tuple h1 h2 h3 (by simpa using ReadsAll.cons (.int k.1 t)^.cons h4.reads .nil)
def ir.stay{k:fX}(x:ir h k v)(e:∀b o vs n,o.cls=.type "tuple" -> o.data=.seq vs n->h.get? b=!o->h'.get? b=!o):ir h' k v:=by
 cases k with
 | none=>show x
 | some p =>
  let#[a,o,n,t,u,e1,h1,h2,h3]:=x;show#[a,o,n,t,u,e1,e _ _ _ _ h2 h3 h1,h2,h3]
theorem cQ.stay(x:cQ h k a)(e:∀b o vs n,o.cls=.type "tuple" -> o.data=.seq vs n->h.get? b=!o->h'.get? b=!o):cQ h' k a:=by let#[o,n,t,v,h1,h2,h3,h4]:=x;show#[o,n,t,v,e _ _ _ _ h2 h3 h1,h2,h3,h4.stay e]
theorem ir.inj{x y:fX}(a:ir h x v)(b:ir h y v):x=y:=by
 cases x with
 | none =>
  let#[t,Z]:=a;cases y with
  | none=>rfl
  | some q=>let#[_,_,_,_,_,e,_]:=b;cases e
 | some p =>
  let#[a1,o,n,t,u,Z,h1,h2,h3]:=a;cases y with
  | none=>let#[_,e]:=b;cases e
  | some q =>
   let#[a2,o2,n2,t2,u2,e,g1,g2,g3]:=b;cases e;rw[h1] at g1;cases g1;rw[h3] at g3;let e1:=congrArg Array.toList (Data.seq.inj g3).1;erw[List.cons.injEq,Value.int.injEq] at e1;let#[#[e1,_],#[e2,_],_]:=e1;show congrArg some^Prod.ext e1 e2
theorem cQ.inj{x:bY}(hx:cQ h x a)(hy:cQ h y a):x=y:=by let#[o,n,t,v,h1,h2,h3,h4]:=hx;let#[o2,n2,t2,v2,g1,g2,g3,g4]:=hy;rw[h1] at g1;cases g1;rw[h3] at g3;let e:=Data.seq.inj g3;let e1:=congrArg Array.toList e.1;erw[List.cons.injEq,Value.int.injEq] at e1;let#[#[e1,_],e2,_]:=e1;subst e2;have:=h4.inj g4;let#[p,a]:=x;let#[q,b]:=y;show Prod.ext e1 this
theorem aa0{x y:fX}(hu:A.units+1<cLine)(hx:ir am x u)(hy:ir am y v)(h:Q (decide (x=y)) s):wpAny (model prog w) A (eqBool u v) Q E s:=by show SeqAt.eqBoolOverData prog w A E s u v (nU x) (nU y) [] [] Q hx.reads hy.reads (xC x) (xC y) ?_ (by rw[Ce];show h);have:=ve x;lia
theorem Hg{x:bY}(hu:A.units+2<cLine)(hx:cQ am x a)(hy:cQ am y b)(h:Q (decide (x=y)) s):wpAny (model prog w) A (eqBool (¬a)^¬b) Q E s:=by show SeqAt.eqBoolOverData prog w A E s _ _ (Cd x) (Cd y) [] [] Q hx.reads hy.reads (JM x) (JM y) ?_ (by rw[UL];show h);have:=LM x;lia
noncomputable def sJ(prog:de)(w:cw):fX->M
 | none=>(strKind prog w).hash "mark"
 | some p=>tupleKeyHash (intKind prog w) [p.1,p.2]
def sL:fX->O
 | none=>1
 | some _=>3
noncomputable def aZ(prog:de)(w:cw)(k:bY):Int:=reduceHash^Builtin.Tuple.tupleHashOf [(intKind prog w).hash k.1,sJ prog w k.2]
def Pq{o:du}{p:M×M}{t u:Tok}(h1:h.get? a=!o)(h2:o.cls=.type "tuple")(h3:o.data=.seq #v[.int p.1 t,.int p.2 u] n):IsTupleKey (intKind prog w) h [p.1,p.2] a :=
 #[o,_,n,h1,h2,h3,.cons (intKind_is _ _ _ _)^.cons (intKind_is _ _ _ _) .nil]
def Pr{k:fX}{Q:M->ap->eL}(hu:A.units<cLine)(hk:ir am k v)(h:Q (sJ prog w k) { s with toks:=s.toks+sL k }):wpAny (model prog w) A (pyHash v) Q E s:=by
 cases k with
 | none =>
  let#[t,Z]:=hk;show(strKind prog w).pyHash (k := "mark") (strKind_is _ _ _ _) h
 | some p =>
  let#[a,o,n,t,u,Z,h1,h2,h3]:=hk;show wpAny_pyHash_tuple hu (Pq h1 h2 h3) h
theorem D9{Q:M->ap->eL}(hu:A.units+1<cLine)(hk:cQ am k a)(h:Q (aZ prog w k) { s with toks:=s.toks+(1+sL k.2+1) }):wpAny (model prog w) A (pyHash^¬a) Q E s:=by
 let#[o,n,t,v,ho,hc,hd,hv]:=hk;let hT:s.TypeIs (¬a) "tuple" := #[o,ho,hc];unfold pyHash
 first|unfold pyHashByItsType|skip
 first|show au (wpAny_cRoomFor_or (.inr ∅) ?_)|skip
 show au^wpAny_specialOf hT F.slot_tuple_hash.lookup ?_;change wpAny _ _ (if(some^Value.builtin "tuple.__hash__"==!Value.none)=ag then _ else _) Q E s;rw[if_neg (by rw[beq_builtin_none];show lI)];show au^wpAny_specialOf hT F.slot_tuple_hash.lookup ?_;change wpAny _ _ (callSpecialIfBoundUnlessNone? (¬a) "__hash__" _ >>= _) Q E s;show au^wpAny_callSpecialIfBoundUnlessNone?_slot hT F.slot_tuple_hash^wpAny_call_entry F.slot_tuple_hash hT F.entry_tuple_hash ?_^F.args_tuple_hash_1 _;change wpAny _ _ (Builtin.Tuple.tupleItemsOf (¬a) >>= _) _ _ s;show au^wpAny_tupleItemsOf ho hd ?_;show au ?_;rw[<- vL];change wpAny _ _ (forIn [Value.int k.1 t,v] _ _) _ _ _;rw[qz];show au^au^(intKind prog w).pyHash (k:=k.1) (intKind_is _ _ _ _) ?_;show au^aW^aW ?_;dsimp only;rw[qz];show au^au^Pr (k:=k.2) (by erw[Around.in1];lia) hv ?_;show au^aW^aW ?_;dsimp only;rw[List.forIn_nil];show aW ?_;change wpAny _ _ (retInt^Builtin.Tuple.tupleHashOf [(intKind prog w).hash k.1,sJ prog w k.2]) _ _ _;show wpAny_ret_mkInt ?_;change wpAny _ _ (if(decide (-(2:M) ^ 63<=Builtin.Tuple.tupleHashOf [(intKind prog w).hash k.1,sJ prog w k.2])&&decide (Builtin.Tuple.tupleHashOf [(intKind prog w).hash k.1,sJ prog w k.2]<2 ^ 63))=ag then _ else _) Q E _;unfold aZ reduceHash at h;split;ext hr;rw[if_pos hr] at h;show aW (by simpa[Nat.add_assoc] using h);ext hr;rw[if_neg hr] at h;show au (wpAny_rule^aW^by simpa[Nat.add_assoc] using h)
def LN{k:fX}(hk:ir am k v)(h:Q ag s):wpAny (model prog w) A (eqIsQuiet (n+1) v) Q E s:=by
 cases k with
 | none =>
  let#[t,Z]:=hk;rw[eqIsQuiet_byValue _ rfl];show aW h
 | some p =>
  let#[a,o,m,t,u,Z,h1,h2,h3]:=hk;let hT:s.TypeIs (¬a) "tuple" := #[o,h1,h2];unfold eqIsQuiet;show au^wpAny_specialOf hT F.slot_tuple_eq.lookup ?_;change wpAny _ _ (isInstance (¬a) (.type "tuple") >>= _) _ _ s;show au^wpAny_isInstance hT isSubtype_tuple_tuple ?_;erw[g6,cK,if_false];show au^wpAny_seqItems h1 h3 ?_;show au ?_;change wpAny _ _ (forIn #v[Value.int p.1 t,Value.int p.2 u] _ _) _ _ s;rw[<- vL];show wpAny_forIn_list _ (λrest r s'=>r.1=aw/\s'=s/\∀v∈rest,carriedByValue v=ag) _ ?_ ?_ _ _ #[Z,Z,λv hv=>by simp at hv;rcases hv with e|e<;>rw[e]<;>rfl];rintro v rest r s' ⟨hr,rfl,Wp⟩;rw[eqIsQuiet_byValue _^Wp v g7];show au^aW ?_;erw[g6,cK,if_false];show aW #[Z,Z,λu Ea=>Wp u^d8 _ Ea];rintro⟨r1,r2⟩ s' ⟨hr,rfl,_⟩;simp only at hr;subst hr;show aW h
def vg(hk:cQ am k a)(h:Q ag s):wpAny (model prog w) A (eqIsQuiet 8^¬a) Q E s:=by
 let#[o,n,t,v,ho,hc,hd,hv]:=hk;let hT:s.TypeIs (¬a) "tuple" := #[o,ho,hc];unfold eqIsQuiet;show au^wpAny_specialOf hT F.slot_tuple_eq.lookup ?_;change wpAny _ _ (isInstance (¬a) (.type "tuple") >>= _) _ _ s;show au^wpAny_isInstance hT isSubtype_tuple_tuple ?_;erw[g6,cK,if_false];show au^wpAny_seqItems ho hd ?_;show au ?_;change wpAny _ _ (forIn #v[Value.int k.1 t,v] _ _) _ _ s;rw[<- vL];show wpAny_forIn_list _ (λrest r s'=>r.1=aw/\s'=s/\∀u∈rest,(∃i t,u=Value.int i t)\/ir am k.2 u) _ ?_ ?_ _ _ #[Z,Z,λu hu=>by simp at hu;rcases hu with e|e;show .inl #[_,_,e];show .inr (e▸hv)]
 .rintro u rest r s' ⟨hr,rfl,Wp⟩;show au ?_;let go:wpAny (model prog w) A (eqIsQuiet 7 u) (λb s2=>b=ag/\s2=s') E s':=by rcases Wp u g7 with⟨i,t,rfl⟩|hu;rw[eqIsQuiet_byValue _ rfl];show aW #[Z,Z];show LN (n:=6) hu #[Z,Z]
  show wpAny_mono go (λb s2=>?_) λz z x=>x;rintro⟨rfl,rfl⟩;erw[g6,cK,if_false];show aW #[Z,Z,λu Ea=>Wp u^d8 _ Ea]
 .rintro⟨r1,r2⟩ s' ⟨hr,rfl,_⟩;simp only at hr;subst hr;show aW h
noncomputable def iJ(prog:de)(w:cw):HeapKind prog w bY where
 is:=cQ
 hash:=aZ prog w
 draws:=λk=>1+sL k.2+1
 room:=λA=>A.units+2<cLine
 inj:=λhx hy=>hx.inj hy
 keeps:=λx ho hd hs=>x.stay λb u vs n hc Jn e=>by rw[hs.2 b (λz=>by subst z;rw[ho] at e;cases e;rw[hd] at Jn;cases Jn)];show e
 pyHash:=λhu hk h=>D9 ∅ hk h
 eqBool:=λhu hx hy h=>Hg hu hx hy h
 quiet:=λhk h=>vg hk h
noncomputable def sq(x:M):O->O×O
 | 0=>(SetTable.bits x % 8,SetTable.bits x)
 | n+1=>(((sq x n).1*5+1+(sq x n).2 / 32) % 8,(sq x n).2 / 32)
theorem Xx(x:M):∀n,(sq x n).1<8
 | 0=>Nat.mod_lt _ ()
 | n+1=>Nat.mod_lt _ ()
theorem Eb(x:M):∀n,(sq x n).2*32 ^ n<2 ^ 64
 | 0=>by
  change SetTable.bits x*1<_;unfold SetTable.bits;lia
 | n+1=>by
  let ih:=Eb x n;change(sq x n).2 / 32*32 ^ (n+1)<_;let h:(sq x n).2 / 32*32<=(sq x n).2:=Nat.div_mul_le_self _ _;let h2:(sq x n).2 / 32*32 ^ (n+1)=((sq x n).2 / 32*32)*32 ^ n:=by rw[Nat.pow_succ,Nat.mul_assoc,Nat.mul_comm (32 ^ n) 32]
  rw[h2];show qB (Nat.mul_le_mul_right _ h) ih
theorem UM(x:M)(n:O)(h:13<=n):(sq x n).2=0:=by
 let h1:=Eb x n;rcases Nat.eq_zero_or_pos (sq x n).2 with e|hp;show e
 .have h2:32 ^ 13<=32 ^ n:=Nat.pow_le_pow_right () h;let h3:1*32 ^ n<=(sq x n).2*32 ^ n:=Nat.mul_le_mul_right _ hp;let h4:(32:O) ^ 13=2 ^ 65:=()
  lia
def mY(x:M)(n:O)(h:13<=n):(sq x (n+1)).1=((sq x n).1*5+1) % 8:=by change((sq x n).1*5+1+(sq x n).2 / 32) % 8=_;rw[UM x n h]
def aa1(x:M)(j:O)(hj:j<8):∃n,n<=20/\(sq x n).1=j:=by
 let h0:=Xx x 13;let e1:=mY x 13 ();let e2:=mY x 14 ();let e3:=mY x 15 ();let e4:=mY x 16 ();let e5:=mY x 17 ();let e6:=mY x 18 ();let e7:=mY x 19 ();let cyc:∀(a j:Fin 8),j.val=a.val\/j.val=(a.val*5+1) % 8\/j.val=((a.val*5+1) % 8*5+1) % 8\/j.val=(((a.val*5+1) % 8*5+1) % 8*5+1) % 8\/j.val=((((a.val*5+1) % 8*5+1) % 8*5+1) % 8*5+1) % 8 \/
   j.val=(((((a.val*5+1) % 8*5+1) % 8*5+1) % 8*5+1) % 8*5+1) % 8\/j.val=((((((a.val*5+1) % 8*5+1) % 8*5+1) % 8*5+1) % 8*5+1) % 8*5+1) % 8\/j.val=(((((((a.val*5+1) % 8*5+1) % 8*5+1) % 8*5+1) % 8*5+1) % 8*5+1) % 8*5+1) % 8:=()
 have:=cyc #[(sq x 13).1,h0] #[j,hj];dsimp only at this;rw[<- e1,<- e2,<- e3,<- e4,<- e5,<- e6,<- e7] at this;rcases this with e|e|e|e|e|e|e|e;show#[13,(),e.symm];show#[14,(),e.symm];show#[15,(),e.symm];show#[16,(),e.symm];show#[17,(),e.symm];show#[18,(),e.symm];show#[19,(),e.symm];show#[20,(),e.symm]
noncomputable def LO(x:M)(n:O):SetTable.Probe:={ j:=(sq x n).1,more:=0,i:=(sq x n).1,perturb:=(sq x n).2,dummy:=none }
theorem LP(h:t.mask=7)(x:M):t.probeStart x=LO x 0:=by
 unfold SetTable.probeStart LO sq;rw[h];let hl:SetTable.bits x % 8<8:=Nat.mod_lt _ ();let e:SetTable.runEnd 7 (SetTable.bits x % 8)-SetTable.bits x % 8=0:=by unfold SetTable.runEnd;rw[if_neg ∅];lia
 change SetTable.Probe.mk _ _ _ _ _=_;rw[show(7:O)+1=8 from Z,e]
theorem Ec(h:t.mask=7)(x:M)(n:O):t.advance^LO x n=LO x (n+1):=by
 unfold SetTable.advance;rw[if_neg (by change Not (0>0);lia)];unfold SetTable.leap;rw[h];dsimp only;let hl:=Xx x (n+1);let e1:((LO x n).i*5+1+(LO x n).perturb / 32) % (7+1)=(sq x (n+1)).1:=rfl;let e2:(LO x n).perturb / 32=(sq x (n+1)).2:=rfl;rw[e1,e2];let e:SetTable.runEnd 7 (sq x (n+1)).1-(sq x (n+1)).1=0:=by unfold SetTable.runEnd;rw[if_neg ∅];lia
 rw[e];rfl
def sM(hs:t.place.toList.Pairwise (· < ·))(hd:t.dummies=#[])(j:O):(t.slot j=.empty/\∀i:O,t.place[i]?≠!j)\/∃i,t.slot j=.live i/\t.place[i]?=!j:=by
 cases e:t.slot j with
 | empty=>show .inl #[Z,λi hi=>SG.qM hs e i j hi Z]
 | dummy =>
  exfalso;unfold SetTable.slot at e;dsimp only at e;rw[SG.sA hd] at e;split at e<;>cases e
 | live i =>
  show .inr #[i,Z,?_];unfold SetTable.slot at e;dsimp only at e;split at e;ext h;cases e;simpa using h;split at e<;>cases e
theorem AS(hs:t.place.toList.Pairwise (· < ·))(hd:t.dummies=#[])(h:t.place[i]?=!j):t.slot j=.live i:=by
 rcases sM hs hd j with⟨_,e⟩|⟨k,e1,e2⟩;show absurd h^e i
 .have:k=i:=by
   rw[<- gG] at h e2;let#[a1,b1]:=gq h;let#[a2,b2]:=gq e2;rcases Nat.lt_trichotomy k i with hl|he|hg
   .have:=nY.mp hs k i a2 a1 hl;lia
   .show he
   .have:=nY.mp hs i k a1 a2 hg;lia
  rw[e1,this]
theorem Pu(hm:t.mask=7)(hd:t.dummies=#[])(hs:t.place.toList.Pairwise (· < ·))(f:O->M)(x:M):∀(fuel n m:O),n<=m->m<n+fuel->t.slot (sq x m).1=.empty->(∀k,n<=k->k<m->t.slot (sq x k).1≠.empty) ->
  (∃k i,n<=k/\k<m/\t.slot (sq x k).1=.live i/\f i=x/\(∀k' i',n<=k'->k'<k->t.slot (sq x k').1=.live i'->f i'≠x)/\SetTable.probe.go t f x fuel^LO x n=!.candidate (sq x k).1 i^LO x (k+1)) \/
  ((∀k i,n<=k->k<m->t.slot (sq x k).1=.live i->f i≠x)/\SetTable.probe.go t f x fuel^LO x n=!.empty (sq x m).1 aw):=by
 intro fuel;induction fuel with
 | zero=>intro n m h1 h2;lia
 | succ fuel ih =>
  intro n m h1 h2 he UV;unfold SetTable.probe.go;rcases sM hs hd (sq x n).1 with⟨e,_⟩|⟨i,e,_⟩
  .have:n=m:=by rcases dg n m with hl|hg;show absurd e^UV n (ay _) hl;lia
   subst this;rw[show t.slot (LO x n).j=.empty from e];show .inr #[λk i a b=>∅,Z]
  .have hnm:n<m:=by rcases dg n m with hl|hg;show hl;have:n=m:=∅;subst this;rw[e] at he;cases he
   rw[show t.slot (LO x n).j=.live i from e];dsimp only;by_cases hx:f i=x;rw[if_pos^by simpa using hx,Ec hm];show .inl #[n,i,ay _,hnm,e,hx,(λk' i' a b=>∅),Z]
   .rw[if_neg^by simpa using hx,Ec hm];rcases ih (n+1) m ∅ ∅ he (λk a b=>UV k ∅ b) with⟨k,i',a,b,c,d,d2,g⟩|⟨a,g⟩
    .show .inl #[k,i',∅,b,c,d,λk' i2 h3 h4 h5=>?_,g];rcases Nat.eq_or_lt_of_le h3 with e2|h3
     .subst e2;rw[e] at h5;cases h5;show hx
     .show d2 k' i2 h3 h4 h5
    .show .inr #[λk i' h3 h4 h5=>?_,g];rcases Nat.eq_or_lt_of_le h3 with e2|h3
     .subst e2;rw[e] at h5;cases h5;show hx
     .show a k i' h3 h4 h5
theorem Ed(hd:t.dummies=#[])(hs:t.place.toList.Pairwise (· < ·))(hf:t.place.size<8)(x:M):∃m,m<=20/\t.slot (sq x m).1=.empty/\∀k,k<m->t.slot (sq x k).1≠.empty:=by
 let hex:∃m,m<=20/\t.slot (sq x m).1=.empty:=by
  obtain⟨j,hj,Re⟩:∃j,j<8/\∀i:Nat,t.place[i]?≠some j:=by by_cases h:∃j,j<8/\j∉t.place.toList;let#[j,hj,hn]:=h;show#[j,hj,λi hi=>hn (by rw[<- gG] at hi;show jd hi)];exfalso;let sub:∀j∈List.range 8,j∈t.place.toList:=λj hj=>iS λhn=>h #[j,gJ.mp hj,hn];have:=List.Nodup.length_le_of_subset List.nodup_range sub;rw[uF,dU] at this;lia
  let#[n,hn,e]:=aa1 x j hj;show#[n,hn,?_];rcases sM hs hd (sq x n).1 with⟨h,_⟩|⟨i,_,h⟩;show h;rw[e] at h;show absurd h^Re i
 let#[m,hm]:=hex;have:∀n,n<=20->t.slot (sq x n).1=.empty->∃m,m<=20/\t.slot (sq x m).1=.empty/\∀k,k<m->t.slot (sq x k).1≠.empty:=by
  intro n;induction n using Nat.strongRecOn with
  | ind n ih =>
   intro h1 h2;by_cases h:∃k,k<n/\t.slot (sq x k).1=.empty;let#[k,hk,e]:=h;show ih k hk ∅ e;show#[n,h1,h2,λk hk e=>h #[k,hk,e]]
 show this m hm.1 hm.2
def Hh{k:fX}(hk:ir am k v)(h:Q bj s):wpAny (model prog w) A (ofAClassStatement (n+1) v) Q E s:=by
 cases k with
 | none =>
  let#[t,Z]:=hk;show wpAny_of_eq (a:=false) Z h
 | some p =>
  let#[a,o,m,t,u,Z,h1,h2,h3]:=hk;let hT:s.TypeIs (¬a) "tuple" := #[o,h1,h2];unfold ofAClassStatement;show au^wpAny_typeOf hT ?_;dsimp only;show au^wpAny_of_eq (a:=true) Z ?_;erw[g6,cK,if_false];show au^wpAny_seqItems h1 h3 ?_;dsimp only;show au ?_;rw[<- vL];show wpAny_forIn_list _ (λrest r s'=>r.1=aw/\s'=s/\∀v∈rest,∃i t,v=Value.int i t) _ ?_ ?_ _ _ #[Z,Z,λv hv=>by simp at hv;rcases hv with e|e<;>show#[_,_,e]]
  .rintro v rest r s' ⟨hr,rfl,Wp⟩;let#[i,t,Z]:=Wp v g7;show au^wpAny_of_eq (a:=false) (by first|rfl|(unfold ofAClassStatement;rfl)) ?_;erw[cK,if_false];show aW #[Z,Z,λu Ea=>Wp u^d8 _ Ea]
  .rintro⟨r1,r2⟩ s' ⟨hr,rfl,_⟩;simp only at hr;subst hr;show aW h
def yM(hk:cQ am k a)(h:Q bj s):wpAny (model prog w) A (ofAClassStatement 8^¬a) Q E s:=by
 let#[o,n,t,v,ho,hc,hd,hv]:=hk;let hT:s.TypeIs (¬a) "tuple" := #[o,ho,hc];unfold ofAClassStatement;show au^wpAny_typeOf hT ?_;dsimp only;show au^wpAny_of_eq (a:=true) Z ?_;erw[g6,cK,if_false];show au^wpAny_seqItems ho hd ?_;dsimp only;show au ?_;rw[<- vL];show wpAny_forIn_list _ (λrest r s'=>r.1=aw/\s'=s/\∀u∈rest,(∃i t,u=Value.int i t)\/ir am k.2 u) _ ?_ ?_ _ _ #[Z,Z,λu hu=>by simp at hu;rcases hu with e|e;show .inl #[_,_,e];show .inr (e▸hv)]
 .rintro u rest r s' ⟨hr,rfl,Wp⟩;show au ?_;let go:wpAny (model prog w) A (ofAClassStatement 7 u) (λb s2=>b=bj/\s2=s') E s':=by
   rcases Wp u g7 with⟨i,t,rfl⟩|hu
   .show wpAny_of_eq (a:=false) (by first|rfl|(unfold ofAClassStatement;rfl)) #[Z,Z]
   .show Hh (n:=6) hu #[Z,Z]
  show wpAny_mono go (λb s2=>?_) λz z x=>x;rintro⟨rfl,rfl⟩;erw[cK,if_false];show aW #[Z,Z,λu Ea=>Wp u^d8 _ Ea]
 .rintro⟨r1,r2⟩ s' ⟨hr,rfl,_⟩;simp only at hr;subst hr;show aW h
def aa2{ys:List J}(hk:cQ am k x)(hy:∀y∈ys,∃k' a,y=¬a/\cQ am k' a)(h:Q bj s):wpAny (model prog w) A (searchCouldBeSeen (¬x) ys) Q E s:=by unfold searchCouldBeSeen;show au ?_;show wpAny_forIn_list _ (λrest r s'=>r.1=aw/\s'=s/\∀y∈rest,∃k' a,y=Value.ref a/\cQ am k' a) _ ?_ ?_ _ _ #[Z,Z,hy];rintro y rest r s' ⟨hr,rfl,Wp⟩;let#[k',a,Z,ha]:=Wp y g7;let GM:∀y∈rest,∃k' a,y=Value.ref a/\cQ d6 k' a:=λu Ea=>Wp u^d8 _ Ea;dsimp only;split;show aW #[Z,Z,GM];show au^vg hk ?_;erw[g6,cK,if_false];show au^vg ha ?_;erw[g6,cK,if_false];show au^yM hk ?_;erw[cK,if_false];show au^yM ha ?_;erw[cK,if_false];show aW #[Z,Z,GM];rintro⟨r1,r2⟩ s' ⟨hr,rfl,_⟩;simp only at hr;subst hr;show aW h
def aa3(prog:de)(w:cw)(h:cv)(es:Array (M×J)):=∀(i:O) e,es[i]?=!e->∃k a,e=(aZ prog w k,¬a)/\cQ h k a
def vh{es:Array (M×J)}(hE:aa3 prog w am es){a:O}{z:M}(h:es[i]?=!(z,¬a))(hk:cQ am k a):(es[i]?.map (·.1)).getD 0=aZ prog w k:=by let#[k2,a2,e2,h2]:=hE i _ h;let e3:z=aZ prog w k2:=congrArg Prod.fst e2;let e4:a=a2:=Value.ref.inj^congrArg Prod.snd e2;subst e4;let e5:k2=k:=h2.inj hk;rw[h,<- e5,<- e3];rfl
theorem search{o:du}{es:Array (M×J)}{m:O}(hu:A.units+2<cLine)(ho:s.heap.get? d=!o)(hd:o.data=.set es ep t)(T:SG.Tab led es t)(hm:t.mask=7)(hE:aa3 prog w am es)(hk:cQ am k x)
  (m20:m<=20)(he:t.slot (sq (aZ prog w k) m).1=.empty)(UV:∀j,j<m->t.slot (sq (aZ prog w k) j).1≠.empty):∀(fuel n:O)(JN:Option SetTable.Probe)(Q:SetFound->ap->eL),n<=m->m<n+fuel->JN.getD^t.probeStart^aZ prog w k=LO (aZ prog w k) n ->
  (∀(j i a:O)(z:M),n<=j->j<m->t.slot (sq (aZ prog w k) j).1=.live i->es[i]?=!(z,¬a)->cQ am k a->Q (.there aw) s) ->
  ((∀(j i a:O)(z:M),n<=j->j<m->t.slot (sq (aZ prog w k) j).1=.live i->es[i]?=!(z,¬a)->Not (cQ am k a))->Q (.free (sq (aZ prog w k) m).1 bj) s) ->
  wpAny (model prog w) A (setSearchFrom d (¬x) (aZ prog w k) ag fuel JN) Q E s:=by
 intro fuel;induction fuel with
 | zero=>intro n JN Q h1 h2;lia
 | succ fuel ih =>
  intro n JN Q h1 h2 TW WP free;unfold setSearchFrom;show au^wpAny_setState_of ho hd T.fits ?_;dsimp only;let hgw:t.gaveWay=false:=by unfold SetTable.gaveWay;rw[hm];rfl
  rw[hgw,TW];erw[cK,if_false];let akL:10*SetTable.turns t.mask=220:=by rw[hm];rfl
  unfold SetTable.probe;rw[akL];rcases Pu hm T.LD T.up _ (aZ prog w k) 220 n m h1 ∅ he (λj q hj=>UV j hj) with⟨j,i,a1,a2,a3,a4,a4b,a5⟩|⟨a1,a5⟩
  .rw[a5];dsimp only;let hi:∃e,es[i]?=!e:=by rcases sM T.up T.LD (sq (aZ prog w k) j).1 with⟨e,_⟩|⟨i',e,hp⟩;rw[a3] at e;cases e;rw[a3] at e;cases e;have:=(qj.mp hp).1;rw[T.sz] at this;show#[_,ig this]
   let#[e,KM]:=hi;let#[k',a',Z,PQ]:=hE i e KM;let hyy:∀y∈(es.filter (·.1==aZ prog w k)).toList.map (·.2),∃k' a,y=Value.ref a/\cQ am k' a:=λy hy=>by let#[e,he',Z]:=aQ.mp hy;rw[Array.mem_toList_iff,Array.mem_filter] at he';let#[i2,hi2]:=Array.mem_iff_getElem?.mp he'.1;let#[k2,a2,Z,h2]:=hE i2 e hi2;show#[k2,a2,Z,h2]
   cases hl:t.led
   .erw[Bool.not_false,if_true];show au^aa2 hk hyy ?_;erw[cK,if_false];rw[KM];dsimp only;show au^wpAny_holding^Hg hu PQ hk ?_;show au^wpAny_setState_of ho hd T.fits ?_;dsimp only;by_cases e:k'=k;subst e;rw[decide_eq_true Z];erw[Bool.and_true,if_true];show aW^WP j i a' _ a1 a2 a3 KM PQ
    .rw[decide_eq_false e];erw[Bool.and_false,cK,if_false];let hsm:t.sameMemory t.moves t.mask=!true:=by unfold SetTable.sameMemory;rw[if_pos^by simp]
     rw[hsm];dsimp only;erw[if_true];rw[a3];dsimp only;rw[KM];dsimp only;show au^wpAny_isSame_ref_self^au^aW ?_;erw[if_true];show ih (j+1) _ Q ∅ ∅ rfl (λj' i' a z h3 h4=>WP j' i' a z ∅ h4) λhn=>free λj' i' a z h3 h4 h5 h6 h7=>?_;by_cases hj:j'=j;subst hj;rw[a3] at h5;cases h5;rw[KM] at h6;cases h6;show e^PQ.inj h7;rcases dg j' j with hl|hg;show a4b j' i' ∅ hl h5 ?_;show vh hE h6 h7;show hn j' i' a z ∅ h4 h5 h6 h7
   .erw[g6,cK,if_false];rw[KM];dsimp only;show au^wpAny_holding^Hg hu PQ hk ?_;show au^wpAny_setState_of ho hd T.fits ?_;dsimp only;by_cases e:k'=k;subst e;rw[decide_eq_true Z];erw[Bool.and_true,if_true];show aW^WP j i a' _ a1 a2 a3 KM PQ
    .rw[decide_eq_false e];erw[Bool.and_false,cK,if_false];let hsm:t.sameMemory t.moves t.mask=!true:=by unfold SetTable.sameMemory;rw[if_pos^by simp]
     rw[hsm];dsimp only;erw[if_true];rw[a3];dsimp only;rw[KM];dsimp only;show au^wpAny_isSame_ref_self^au^aW ?_;erw[if_true];show ih (j+1) _ Q ∅ ∅ rfl (λj' i' a z h3 h4=>WP j' i' a z ∅ h4) λhn=>free λj' i' a z h3 h4 h5 h6 h7=>?_;by_cases hj:j'=j;subst hj;rw[a3] at h5;cases h5;rw[KM] at h6;cases h6;show e^PQ.inj h7;rcases dg j' j with hl|hg;show a4b j' i' ∅ hl h5 ?_;show vh hE h6 h7;show hn j' i' a z ∅ h4 h5 h6 h7
  .rw[a5];dsimp only;show aW (free λj i a z h3 h4 h5 h6 h7=>a1 j i h3 h4 h5 ?_);show vh hE h6 h7
def Reach(pl:List O)(x:M)(j:O):=∃m,(sq x m).1=j/\∀m',m'<m->(sq x m').1∈pl
def Cf(prog:de)(w:cw)(led:cf)(h:cv)(d:ae)(ks:List (bY×ae)):eL :=
 ∃o es ep t,h.get? d=!o/\o.ExactSet/\o.data=.set es ep t/\SG.Tab led es t/\t.mask=7/\es.toList.Perm (ks.map λz=>(aZ prog w z.1,Value.ref z.2))/\(ks.map (·.1)).Nodup/\eI<=4 /\
  ∀z∈es.toList.zip t.place.toList,Reach t.place.toList z.1.1 z.2
def Cf.at'{ks:List (bY×ae)}(S:Cf prog w led h d ks)(e:∀o,h.get? d=!o->h'.get? d=!o):Cf prog w led h' d ks:=by let#[o,es,ep,t,ho,r]:=S;show#[o,es,ep,t,e o ho,r]
def LQ{k:fX}(hk:ir am k v)(h:∀b,Q b s):wpAny (model prog w) A (hashByValue (n+1) v) Q E s:=by
 cases k with
 | none =>
  let#[t,Z]:=hk;show wpAny_of_eq (a:=false) (by first|rfl|(unfold hashByValue;rfl))^h bj
 | some p =>
  let#[a,o,m,t,u,Z,h1,h2,h3]:=hk;let hT:s.TypeIs (¬a) "tuple" := #[o,h1,h2];unfold hashByValue;show au^wpAny_specialOf hT F.slot_tuple_hash.lookup ?_;dsimp only;show au^wpAny_seqItems h1 h3 ?_;show au ?_;change wpAny _ _ (forIn #v[Value.int p.1 t,Value.int p.2 u] _ _) _ _ s;rw[<- vL];show wpAny_forIn_list _ (λrest r s'=>r.1=aw/\s'=s/\∀v∈rest,∃i t,v=Value.int i t) _ ?_ ?_ _ _ #[Z,Z,λv hv=>by simp at hv;rcases hv with e|e<;>show#[_,_,e]]
  .rintro v rest r s' ⟨hr,rfl,Wp⟩;let#[i,t,Z]:=Wp v g7;show au^wpAny_of_eq (a:=true) (by first|rfl|(unfold hashByValue;rfl)) ?_;erw[g6,cK,if_false];show aW #[Z,Z,λu Ea=>Wp u^d8 _ Ea]
  .rintro⟨r1,r2⟩ s' ⟨hr,rfl,_⟩;simp only at hr;subst hr;show aW^h ag
def LR(hk:cQ am k a)(h:∀b,Q b s):wpAny (model prog w) A (hashByValue 8^¬a) Q E s:=by
 let#[o,n,t,v,ho,hc,hd,hv]:=hk;let hT:s.TypeIs (¬a) "tuple" := #[o,ho,hc];unfold hashByValue;show au^wpAny_specialOf hT F.slot_tuple_hash.lookup ?_;dsimp only;show au^wpAny_seqItems ho hd ?_;show au ?_;change wpAny _ _ (forIn #v[Value.int k.1 t,v] _ _) _ _ s;rw[<- vL];show wpAny_forIn_list _ (λrest r s'=>s'=s/\r.1=aw/\∀u∈rest,(∃i t,u=Value.int i t)\/ir am k.2 u) _ ?_ ?_ _ _ #[Z,Z,λu hu=>by simp at hu;rcases hu with e|e;show .inl #[_,_,e];show .inr (e▸hv)]
 .rintro u rest r s' ⟨rfl,hr,Wp⟩;show au ?_;let GM:∀y∈rest,(∃i t,y=Value.int i t)\/ir d6 k.2 y:=λu Ea=>Wp u^d8 _ Ea;let go:wpAny (model prog w) A (hashByValue 7 u) (λz s2=>s2=s') E s':=by
   rcases Wp u g7 with⟨i,t,rfl⟩|hu
   .show wpAny_of_eq (a:=true) (by first|rfl|(unfold hashByValue;rfl)) Z
   .show LQ (n:=6) hu λz=>rfl
  show wpAny_mono go (λb s2=>?_) λz z x=>x;rintro rfl;cases b;erw[Bool.not_false,if_true];show aW^aW^h bj;erw[g6,cK,if_false];show aW #[Z,Z,GM]
 .rintro⟨r1,r2⟩ s' ⟨rfl,hr,_⟩;simp only at hr;subst hr;show aW^h ag
def Hi{α β:Type}(xs:Array α)(ys:Array β)(hl:xs.size=ys.size)(p:O)(x:α)(y:β):(SetTable.insertAt xs p x).toList.zip (SetTable.insertAt ys p y).toList=(xs.toList.take p).zip^ys.toList.take p++(x,y)::(xs.toList.drop p).zip^ys.toList.drop p:=by rw[SetTable.toList_insertAt,SetTable.toList_insertAt,List.zip_append^by rw[cC,cC,dU,dU,hl]];rfl
def Hj{pl pl':List O}(h:∀j∈pl,j∈pl'){x:M}(r:Reach pl x j):Reach pl' x j:=let⟨m,e,q⟩:=r;#[m,e,λm' hm=>h _^q m' hm]
theorem UN{ks:List (bY×ae)}(hu:A.units+2<cLine)(S:Cf prog w led am d ks)(hks:∀z∈ks,cQ am z.1 z.2)(hk:cQ am k x)(hl:eI<=3)
  (h:∀b h' tk,s.toks<=tk->Heap.SameBut d am h'->Cf prog w led h' d (if k∈ks.map (·.1) then ks else ks++[(k,x)])->Q b { s with heap:=h',toks:=tk }):wpAny (model prog w) A (setAdd d^¬x) Q E s:=by
 let#[o,es,ep,t,ho,hx,hd,T,hm,SF,nd,h4,PP]:=S;let hsz:cn=ks.length:=by rw[<- dU,SF.length_eq,aq]
 let hE:aa3 prog w am es:=λi e he=>by
  let me:e∈es.toList:=by rw[<- gG] at he;show jd he
  let#[z,hz,Z]:=aQ.mp^SF.mem_iff.mp me;show#[z.1,z.2,Z,hks z hz]
 unfold setAdd;show wpAny_holding^au (D9 ∅ hk ?_);generalize hs1:({ s with toks:=s.toks+(1+sL k.2+1) }:ap)=s1;let eh:s1.heap=s.heap:=by rw[<- hs1]
 let et:s.toks<=s1.toks:=by rw[<- hs1];show oh _ _
 let SU:∀h', ({ s1 with heap:=h' }:ap)={ s with heap:=h',toks:=s1.toks }:=λh'=>by rw[<- hs1]
 rw[<- eh] at ho hE hk;unfold setAddHashed setAddHashedIn;show wpAny_holding^au^wpAny_setState_of ho hd T.fits ?_;dsimp only;let Qr:byScan (¬x) es=false:=rfl;rw[Qr];erw[cK,if_false];unfold setSearch;let#[m,m20,he,UV]:=Ed T.LD T.up (by rw[T.sz];lia)^aZ prog w k;let inp:∀j,t.slot j≠.empty->j∈t.place.toList:=λj hj=>by rcases sM T.up T.LD j with⟨e,_⟩|⟨i,_,e⟩;show absurd e hj;rw[<- gG] at e;show jd e
 show au (search hu ho hd T hm hE hk m20 he UV 100000 0 aw _ (aV _) ∅ (LP hm _) (λj i a z q hj hsl KM ha=>?_) (λhn=>?_))
 .dsimp only;let Sr:k∈ks.map (·.1):=by
   let#[k2,a2,e2,h2]:=hE i _ KM;let e4:a=a2:=Value.ref.inj^congrArg Prod.snd e2;let me:((z,¬a):M×J)∈es.toList:=by rw[<- gG] at KM;show jd KM
   let#[y,hy,ey]:=aQ.mp^SF.mem_iff.mp me;let e5:y.2=a:=Value.ref.inj^congrArg Prod.snd ey;let hy2:=hks y hy;rw[e5,<- eh] at hy2;rw[<- hy2.inj ha];show aQ.mpr #[y,hy,Z]
  show aW ?_;have:=h bj am s1.toks et (Heap.SameBut.refl d am) (by rw[if_pos Sr];show#[o,es,ep,t,by rw[<- eh];show ho,hx,hd,T,hm,SF,nd,h4,PP]);rw[<- SU,<- eh] at this;show this
 .dsimp only;let O6:k∉ks.map (·.1):=λSr=>by
   let#[y,hy,Z]:=aQ.mp Sr;let me:((aZ prog w y.1,¬y.2):M×J)∈es.toList:=SF.mem_iff.mpr^aQ.mpr #[y,hy,Z];let#[i,hi]:=iC.mp me;let Hm:i<t.place.size:=by rw[T.sz,<- dU];show(gq hi).1
   let hp:t.place.toList[i]?=some t.place[i]:=by rw[gG];show ig Hm
   let hz:(((aZ prog w y.1,¬y.2):M×J),t.place[i])∈es.toList.zip t.place.toList:=by show iC.mpr #[i,?_];rw[uE];show#[hi,hp]
   let#[m',e1,e2]:=PP _ hz;dsimp only at e1 e2;let Hl:t.slot t.place[i]=.live i:=AS T.up T.LD (by rw[ig Hm]);let hmm:m'<m:=by
    rcases dg m' m with hl|hg;show hl
    .exfalso;rcases Nat.eq_or_lt_of_le hg with e|hlt
     .rw[e,e1,Hl] at he;cases he
     .have:=e2 m hlt;let#[i2,hi2]:=iC.mp this;rw[gG] at hi2;rw[AS T.up T.LD hi2] at he;cases he
   rw[gG] at hi;show hn m' i y.2 _ (aV _) hmm (by rw[e1];show Hl) hi (by rw[eh];show hks y hy)
  show au^wpAny_setState_of ho hd T.fits ?_;dsimp only;let aaS:t.put (sq (aZ prog w k) m).1=({ t with place:=SetTable.insertAt t.place (SetTable.below t.place (sq (aZ prog w k) m).1) (sq (aZ prog w k) m).1 },SetTable.below t.place (sq (aZ prog w k) m).1):=by unfold SetTable.put;rw[SG.sA T.LD];rfl
  rw[aaS];dsimp only;let Xy:=SN.qp T.up^SG.qM T.up he;let Pw:(SetTable.insertAt es (SetTable.below t.place (sq (aZ prog w k) m).1) (aZ prog w k,¬x)).toList.Perm (es.toList++[(aZ prog w k,¬x)]):=by have:=SetTable.insertAt_perm es (SetTable.below t.place (sq (aZ prog w k) m).1) (aZ prog w k,Value.ref x);rwa [Array.toList_push] at this
  let Ho:(SetTable.insertAt t.place (SetTable.below t.place (sq (aZ prog w k) m).1) (sq (aZ prog w k) m).1).toList.Perm (t.place.toList++[(sq (aZ prog w k) m).1]):=by have:=SetTable.insertAt_perm t.place (SetTable.below t.place (sq (aZ prog w k) m).1) (sq (aZ prog w k) m).1;rwa [Array.toList_push] at this
  let hz:=Hi es t.place T.sz.symm (SetTable.below t.place (sq (aZ prog w k) m).1) (aZ prog w k,Value.ref x) (sq (aZ prog w k) m).1;generalize SetTable.insertAt es (SetTable.below t.place (sq (aZ prog w k) m).1) (aZ prog w k,Value.ref x)=sE at Pw hz ⊢;generalize SetTable.insertAt t.place (SetTable.below t.place (sq (aZ prog w k) m).1) (sq (aZ prog w k) m).1=Px at Ho hz Xy ⊢;let hsz2:sE.size=cn+1:=by rw[<- dU,Pw.length_eq,aT,dU];rfl
  let ae0:Px.size=cn+1:=by rw[<- dU,Ho.length_eq,aT,dU,T.sz];rfl
  let T2:∀b:cf,SG.Tab led sE { t with place:=Px,plain:=b }:=λb=>by show#[T.led,T.LD,Xy,?_];unfold SetTable.fits SetTable.fill;rw[ae0,hsz2,T.LD,hm];simp;lia
  let fin:∀b:cf,wpAny (model prog w) A (do storeSet d sE { t with place:=Px,plain:=b };if(not bj&&({ t with place:=Px,plain:=b }:SetTable).tooFull)=ag then do setRelay d^SetTable.grown (cn+1);pure ag else pure ag) Q E s1:=λb=>by
   show au^wpAny_storeSet_of ho hd ?_ (by rw[hsz2,sizeLine_eq];lia);let Ll:=fz (Obj.putSet sE { t with place:=Px,plain:=b }) ho (by rw[putSet_of sE _ hd];rfl);rw[putSet_of sE _ hd] at Ll;let Lw:=k9 s1.heap d (Obj.putSet sE { t with place:=Px,plain:=b });let full:({ t with place:=Px,plain:=b }:SetTable).tooFull=false:=by unfold SetTable.tooFull SetTable.fill;dsimp only;rw[T.LD,hm,ae0];simp;lia
   rw[full];erw[Bool.and_false,cK,if_false];show aW ?_;rw[SU];show h ag _ s1.toks et (by rw[<- eh];show Lw) ?_;rw[if_neg O6];show#[_,sE,_,_,Ll,hx,Z,T2 b,hm,?_,?_,by rw[aT];simp;lia,?_];rw[bq];show Pw.trans^SF.append_right _
   .rw[bq,fB];show#[nd,by simp,λa ha c hc e=>O6 ?_];let GE:c=k:=by simpa using hc
    rw[<- GE,<- e];show ha
   .intro y hy;change Reach Px.toList y.1.1 y.2;let up:∀j∈t.place.toList,j∈Px.toList:=λj hj=>Ho.mem_iff.mpr^j8 _ hj;replace hy:y∈sE.toList.zip Px.toList:=hy;rw[hz] at hy;let Tl:∀y,y∈es.toList.zip t.place.toList->Reach Px.toList y.1.1 y.2:=λy hy=>Hj up^PP y hy;rcases aM.mp hy with hy|hy
    .show Tl y ?_;let#[i,hi]:=iC.mp hy;rw[uE,List.getElem?_take,List.getElem?_take] at hi;show iC.mpr #[i,uE.mpr ?_];split at hi;show hi;show nomatch hi.1
    .rcases aP.mp hy with rfl|hy;show#[m,Z,λm' hm'=>up _^inp _^UV m' hm'];show Tl y ?_;let#[i,hi]:=iC.mp hy;rw[uE,List.getElem?_drop,List.getElem?_drop] at hi;show iC.mpr #[_,uE.mpr hi]
  split;show au (LR hk λb=>?_);cases b;show fin bj;show fin t.plain;show au^aW ?_;show fin t.plain
noncomputable def wZ(val:O->bY×ae):O->List (bY×ae)
 | 0=>[]
 | i+1=>if(val i).1∈(wZ val i).map (·.1) then wZ val i else wZ val i++[val i]
theorem Py(val:O->bY×ae)(i:O):(wZ val i).length<=i:=by induction i with grind [wZ]
theorem Ef(val:O->bY×ae)(i:O)(z:bY×ae)(h:z∈wZ val i):∃j,j<i/\z=val j:=by induction i with grind [wZ]
theorem Pz(val:O->bY×ae)(i:O)(k:bY):k∈(wZ val i).map (·.1)↔∃j,j<i/\k=(val j).1:=by
 induction i with
 | zero=>simp[wZ]
 | succ i ih =>
  unfold wZ;split<;>grind
theorem PB{XV:Array J}{val:O->bY×ae}{Q:J->ap->eL}(hu:A.units+10<cLine)(hh:A.handled=aw)(hl:s.heap.IsList l XV)(hv:∀(i:O)(v:J),XV[i]?=!v->v=¬(val i).2/\cQ am (val i).1 (val i).2)(hn:XV.size<=4)
  (h:∀(h':cv)(tk:O),Cf prog w (not (SG.cV w)) h' B^wZ val XV.size->(∀b o,b<B->s.heap.get? b=!o->h'.get? b=!o)->Q (¬B) { s with heap:=h',toks:=tk }):
  wpAny (model prog w) A (call (.type "set") [¬l]) Q E s:=by
 show SG.set_list hh hl (λi h=>Cf prog w (not (SG.cV w)) h B^wZ val i/\∀b o,b<B->s.heap.get? b=!o->h.get? b=!o) (λh' k e=>#[#[_,#[],0,_,e,#[Z,Z,Z],Z,SG.AO,Z,qy _,lB,aV _,λz hz=>nomatch hz],λb o x e=>k b o e])
  (λi h h' ⟨q,k⟩ hk=>#[q.at' λo e=>hk _ o (ay _) e,λb o hb e=>hk b o (iD hb)^k b o hb e]) (λA' E' i v s' Q hh' Ea hi ⟨hS,hkp⟩ hQ=>?_) λh' tk ⟨q,k⟩ kk=>h h' tk q kk
 let#[Z,hhi]:=hv i v hi;let hlt:=(qj.mp hi).1;let stay:∀j v,XV[j]?=!v->cQ d6 (val j).1 (val j).2:=λj v hj=>(hv j v hj).2.stay λb o x x x x e=>hkp b o (aO e) e;let hle:=Py val i;show UN ∅ hS (λz hz=>?_) (stay i _ hi) ∅ λb h' tk KF sb hS2=>hQ b h' tk KF sb #[hS2,λb' o hb e=>?_];let#[j,hj,Z]:=Ef val i z hz;show stay j _ (ig ∅);rw[sb.2 b'^aU hb];show hkp b' o hb e
open PySem.W
noncomputable def vm(k:bY):Int:=k.1*10000+match k.2 with|none=>0|some p=>SN.rk p
def OkH(k:bY):=∀p,k.2=!p->0<=p.1/\p.1<2/\0<=p.2/\p.2<1000
def Alike(x y:bY):=x.2.isSome=y.2.isSome
theorem UO{x:bY}(hx:OkH x)(hy:OkH y)(ha:Alike x y)(e:vm x=vm y):x=y:=by
 let#[p,a]:=x;let#[q,b]:=y;unfold vm at e;cases a with
 | none =>
  cases b with
  | none =>
   dsimp only at e;have:p=q:=∅;rw[this]
  | some y=>cases ha
 | some x =>
  cases b with
  | none=>cases ha
  | some y =>
   let h1:=hx x Z;let h2:=hy y Z;let#[x1,x2]:=x;let#[y1,y2]:=y;change p*10000+(x1*1000+x2)=q*10000+(y1*1000+y2) at e;dsimp only at h1 h2;let e1:p=q:=∅;let e2:x1=y1:=∅;let e3:x2=y2:=∅;rw[e1,e2,e3]
def PD{α β:Type}{f:α->β}{l m:List β}(h:l.Perm m):∀{zs:List α},m=zs.map f->∃ys:List α,ys.Perm zs/\l=ys.map f:=by
 induction h with
 | nil=>intro zs e;show#[[],by rw[List.map_eq_nil_iff.mp e.symm],Z]
 | cons x h ih =>
  intro zs e;cases zs with
  | nil=>cases e
  | cons z zs =>
   let e1:=List.cons.inj e;let#[ys,h1,h2]:=ih e1.2;show#[z::ys,h1.cons z,by rw[cN,<- h2,<- e1.1]]
 | swap x y l =>
  intro zs e;cases zs with
  | nil=>cases e
  | cons z zs =>
   cases zs with
   | nil=>cases(List.cons.inj e).2
   | cons z2 zs =>
    let e1:=List.cons.inj e;let e2:=List.cons.inj e1.2;show#[z2::z::zs,.swap _ _ _,by rw[cN,cN,<- e1.1,<- e2.1,<- e2.2]]
 | trans _ _ i1 i2 =>
  intro zs e;let#[ys,h1,h2]:=i2 e;let#[xs,h3,h4]:=i1 h2;show#[xs,h3.trans h1,h4]
def range_getD{α:Type}(l:List α)(d:α):(List.range d4).map (λi=>l.getD i d)=l:=by
 apply xV;intro i;rw[bJ];rcases dg i l.length with h|h
 .rw[List.getElem?_range h,iR h];change some^l.getD i d=_;rw[xm,iR h];rfl
 .rw[iA (by rw[uF];show h),iA h];rfl
theorem PJ{y:ae}{ox oy:du}{k:O}{a b c d:M}{t1 t2 t3 t4:Tok}{Q:J->ap->eL}(hu:A.units<cLine)(hx:s.heap.get? x=!ox)(cx:ox.cls=.type "tuple")(dx:ox.data=.seq #v[.int a t1,.int b t2] n)(hy:s.heap.get? y=!oy)(cy:oy.cls=.type "tuple")(dy:oy.data=.seq #v[.int c t3,.int d t4] k)
  (h:Q (.bool (if a=c then decide (b<d) else decide (a<c))) s):wpAny (model prog w) A (compareOp .Lt (¬x)^¬y) Q E s:=by let tx:s.TypeIs (¬x) "tuple" := #[ox,hx,cx];let ty:s.TypeIs (¬y) "tuple" := #[oy,hy,cy];show(show wpAny _ _ (richCompare .Lt (¬x)^¬y) _ _ _ from wpAny_richCompare_same_room tx ty F.slot_tuple_lt (wpAny_call_entry F.slot_tuple_lt tx F.entry_tuple_lt ?_^F.args_tuple_lt_2 _ _) hu);change wpAny _ _ (isInstance (¬y) (.type "tuple") >>= _) _ _ s;show au^wpAny_isInstance ty isSubtype_tuple_tuple ?_;erw[g6,cK,if_false];show au^wpAny_tupleItemsOf hx dx ?_;show au^wpAny_tupleItemsOf hy dy ?_;show au ?_;change wpAny _ _ (forIn [(Value.int a t1,Value.int c t3),(Value.int b t2,Value.int d t4)] _ _) _ _ s;rw[qz];show au^au^wpAny_eqBool_int ?_;by_cases e:a=c;rw[show(a==c)=ag by simpa using e];erw[g6,cK,if_false];rw[if_pos e] at h;show aW ?_;dsimp only;rw[qz];show au^au^wpAny_eqBool_int ?_;by_cases e2:b=d;rw[show(b==d)=ag by simpa using e2];erw[g6,cK,if_false];show aW ?_;dsimp only;rw[List.forIn_nil];show aW ?_;rw[decide_eq_false ∅] at h;show aW #[_,Z,(λe=>nomatch e),h];rw[show(b==d)=bj by simpa using e2];erw[Bool.not_false,if_true];show au^wpAny_rule ?_;show au (show wpAny _ _ (compareOp .Lt (.int b t2)^.int d t4) _ _ _ from PyProof.Rows.lt_int ?_);show au^aW^aW^aW^aW #[_,Z,(λe=>nomatch e),h];rw[show(a==c)=bj by simpa using e];erw[Bool.not_false,if_true];rw[if_neg e] at h;show au^wpAny_rule ?_;show au (show wpAny _ _ (compareOp .Lt (.int a t1)^.int c t3) _ _ _ from PyProof.Rows.lt_int ?_);show au^aW^aW^aW^aW #[_,Z,(λe=>nomatch e),h]
theorem aa5{y:ae}{k1 k2:bY}(hu:A.units+1<cLine)(hx:cQ am k1 x)(hy:cQ am k2 y)(o1:OkH k1)(o2:OkH k2)(al:Alike k1 k2)(h:Q (decide (vm k1<vm k2)) s):wpAny (model prog w) A (keyLt' (tuples' ag) (¬x)^¬y) Q E s:=by
 let#[ox,n,t,u,h1,c1,d1,th1]:=hx;let#[oy,m,t',u',h2,c2,d2,th2]:=hy;let#[p,a]:=k1;let#[q,b]:=k2;dsimp only at d1 d2 th1 th2;show kat_lt h1 d1 h2 d2^kat_cons^wpAny_eqBool_int ?_;by_cases e:p=q
 .subst e;rw[show(p==p)=ag by simp];show kat_yes^kat_cons^aa0 hu th1 th2 ?_;by_cases e2:a=b;subst e2;rw[decide_eq_true Z];rw[decide_eq_false ∅] at h;show kat_yes^kat_nil h
  .rw[decide_eq_false e2];cases a with
   | none =>
    cases b with
    | none=>show absurd Z e2
    | some y=>cases al
   | some x1 =>
    cases b with
    | none=>cases al
    | some y1 =>
     let#[a1,oa,na,ta,ua,Z,ga,ca,da]:=th1;let#[b1,ob,nb,tb,ub,Z,gb,cb,db]:=th2;show kat_no^kat_one _ _ (PJ ∅ ga ca da gb cb db ?_);let b1:=o1 x1 Z;let b2:=o2 y1 Z;let er:decide (vm (p,!x1)<vm (p,!y1))=if x1.1=y1.1 then decide (x1.2<y1.2) else decide (x1.1<y1.1):=by
      let#[x1,x2]:=x1;let#[y1,y2]:=y1;dsimp only at b1 b2;change decide (p*10000+(x1*1000+x2)<p*10000+(y1*1000+y2))=if x1=y1 then decide (x2<y2) else decide (x1<y1)
      split<;>erw[decide_eq_decide]<;>lia
     rw[er] at h;show h
 .rw[show(p==q)=bj by simpa using e];show kat_no^oneLt_int ?_;let er:decide (vm (p,a)<vm (q,b))=decide (p<q):=by
   let ba:0<=vm (p,a)-p*10000/\vm (p,a)-p*10000<10000:=by
    cases a with
    | none=>change 0<=p*10000+0-p*10000/\p*10000+0-p*10000<10000;lia
    | some x=>have:=o1 x Z;change 0<=p*10000+(x.1*1000+x.2)-p*10000/\p*10000+(x.1*1000+x.2)-p*10000<10000;lia
   let bb:0<=vm (q,b)-q*10000/\vm (q,b)-q*10000<10000:=by
    cases b with
    | none=>change 0<=q*10000+0-q*10000/\q*10000+0-q*10000<10000;lia
    | some x=>have:=o2 x Z;change 0<=q*10000+(x.1*1000+x.2)-q*10000/\q*10000+(x.1*1000+x.2)-q*10000<10000;lia
   erw[decide_eq_decide];lia
  rw[<- er];show h
abbrev v9(h:cv):List J->List bY->Prop:=Paired λv k=>∃a,v=¬a/\cQ h k a
theorem v9.stay(x:v9 h vs ks)(e:∀b o vs n,o.cls=.type "tuple" -> o.data=.seq vs n->h.get? b=!o->h'.get? b=!o):v9 h' vs ks:=L2.Paired.KP x λv k ⟨a,e1,e2⟩=>#[a,e1,e2.stay e]
def v9.tups(hp:v9 h vs ks):∃fs:List J,KatTups h vs fs/\fs.length=dA/\∀v∈fs,∃i t,v=Value.int i t:=by
 induction hp with
 | nil=>show#[[],.nil,Z,λv hv=>nomatch hv]
 | cons z _ ih =>
  let#[a,e,o,n,t,v,h1,h2,h3,_]:=z;let#[fs,a1,a2,a3]:=ih;subst e;show#[_::fs,KatTups.cons h1 h2 h3 Z a1,by simp[a2],λv hv=>?_];rcases aP.mp hv with e|hv;show#[_,_,e];show a3 v hv
def v9.get(hp:v9 h vs ks):∀{i:O},i<dA->∃a,vs.getD i Value.none=¬a/\cQ h (ks.getD i (0,none)) a:=by
 induction hp with
 | nil=>show λ{i} hi=>absurd hi^jf _
 | cons z _ ih =>
  intro i hi;cases i with
  | zero =>
   let#[a,e,q]:=z;show#[a,e,q]
  | succ i =>
   let#[a,h1,h2]:=ih (i:=i) (by simpa using hi);show#[a,by simpa using h1,by simpa using h2]
theorem Eg{zs:List (bY×ae)}{Q:J->ap->eL}(hu:A.units+8<cLine)(hh:A.handled=aw)(S:Cf prog w (not (SG.cV w)) am d zs)(hzs:∀z∈zs,cQ am z.1 z.2)(hok:∀z∈zs,OkH z.1)(Os:∀z∈zs,∀y∈zs,Alike z.1 y.1)
  (h:∀(p:ae)(h':cv)(d':Drawn)(tk c:O)(vs:List J)(ks:List bY),B<=p->(∀b x,s.heap.get? b=!x->h'.get? b=!x)->h'.get? p=!{ cls:=.type "list", data:=.seq vs.toArray c }->Paired (λv k=>∃a,v=Value.ref a/\(k,a)∈zs) vs ks->(∀k,k∈ks↔k∈zs.map (·.1))->ks.Pairwise (λx y=>vm x<vm y)->dA=zs.length->Q (¬p) { s with heap:=h',drawn:=d',toks:=tk }):
  wpAny (model prog w) A (call (.builtin "sorted") [¬d]) Q E s:=by
 let#[o,es,ep,t,ho,hx,hd,T,hm,SF,nd,h4,PP]:=S;let hsz:cn=zs.length:=by rw[<- dU,SF.length_eq,aq]
 show BA kind_sorted plain_sorted entry_sorted (args_sorted1 _) ?_;unfold Builtin.«sorted»;show au (m:=checkCount "sorted" 1 1 _)^aW^au (SG.v5 (by simp[hh]) ho hx hd T ∅ ?_);intro s1 Xt k1 g1 o1 G3 hp;let#[h1,gg,dd,tk1,oo]:=s1;dsimp only at k1 g1 o1 G3;subst g1 o1;let pv:Xt.Perm (zs.map λz=>Value.ref z.2):=by have:=hp.trans^SF.map (·.2);rw[gI] at this;show this
 obtain⟨ys,hys,aaY⟩:∃ys:List (bY×Addr),ys.Perm zs/\Xt=ys.map λz=>Value.ref z.2:=by show PD pv rfl
 subst aaY;let Nw:ce=zs.length:=hys.length_eq;let hV:v9 h1 (ys.map λz=>Value.ref z.2)^ys.map (·.1):=by
  let all:∀z∈ys,cQ h1 z.1 z.2:=λz hz=>(hzs z^hys.mem_iff.mp hz).stay λb o f f f f e=>k1 b o e;clear hys Nw pv hp;induction ys with
  | nil=>show .nil
  | cons z ys ih=>show .cons #[z.2,Z,all z^by simp] (ih λy hy=>all y^by simp[hy])
 show au^wpAny_newList ?_ (by rw[aq,Nw,sizeLine_eq];lia);let gN:(h1.push^seqObj "list" (ys.map λz=>Value.ref z.2).toArray 0).get? eD=!seqObj "list" (ys.map λz=>Value.ref z.2).toArray 0:=jB _ rfl;let hV2:=hV.stay (h':=h1.push^seqObj "list" (ys.map λz=>Value.ref z.2).toArray 0) λb o f f f f e=>eS _ e;let atk:∀i,i<ce->(ys.map (·.1)).getD i (0,none)=((ys.getD i ((0,none),0)).1:bY)/\ys.getD i ((0,none),0)∈ys:=λi hi=>by rw[xm,xm,bJ,iR hi];show#[Z,ly hi]
 let lm:(ys.map λz=>Value.ref z.2).length=ys.length:=aq _;show au^wpAny_holding^wpAny_call_entry slot_list_sort #[_,gN,Z] entry_list_sort (SN.D5 (r:=λi=>vm^(ys.map (·.1)).getD i (0,none)) gN (by rw[lm,Nw];lia) (λG k=>(hV2.stay k).tups) (λG k i j hi hj E' C hC=>?_) (λi j hi hj e=>?_) λq hq u=>#[_,Z,?_])^args_list_sort _;let#[x,ex,gx]:=(hV2.stay k).get hi;let#[y,ey,gy]:=(hV2.stay k).get hj;rw[lm] at hi hj;let#[e1,m1]:=atk i hi;let#[e2,m2]:=atk j hj;rw[ex,ey];show aa5 (by erw[Around.in1];lia) gx gy ?_ ?_ ?_ hC;rw[e1];show hok _^hys.mem_iff.mp m1;rw[e2];show hok _^hys.mem_iff.mp m2;rw[e1,e2];show Os _ (hys.mem_iff.mp m1) _^hys.mem_iff.mp m2;rw[lm] at hi hj;let#[e1,m1]:=atk i hi;let#[e2,m2]:=atk j hj;change vm^(ys.map (·.1)).getD i (0,none)=vm^(ys.map (·.1)).getD j (0,none) at e;rw[e1,e2] at e;let e3:=UO (hok _^hys.mem_iff.mp m1) (hok _^hys.mem_iff.mp m2) (Os _ (hys.mem_iff.mp m1) _^hys.mem_iff.mp m2) e;let nd2:(ys.map (·.1)).Nodup:=(hys.map (·.1)).nodup_iff.mpr nd;rw[<- e1,<- e2,xm,iR^by simpa using hi,xm,iR^by simpa using hj] at e3;show(x9 nd2).mp e3
 .rw[lm] at hq u;let#[c,hc]:=sortedHeap_at (h:=h1.push^seqObj "list" (ys.map λz=>Value.ref z.2).toArray 0) (a:=eD) (vs:=ys.map λz=>Value.ref z.2) (n:=0) (out:=List.toArray (q.toList.map λi=>(ys.map λz=>Value.ref z.2).getD i Value.none)) gN;show aW #[_,Z,h eD _ dd tk1 c _ (q.toList.map λi=>(ys.map (·.1)).getD i (0,none)) (iD G3) (λb x e=>?_) hc ?_ (λk=>?_) ?_^by rw[aq,dU,hq.sz,Nw]];let hb:=aO^k1 b x e;rw[sortedHeap_old (aU hb) (by rw[size_push'];show je hb)];show eS _^k1 b x e
  .have all:∀i∈q.toList,i<ys.length:=λi hi=>gJ.mp^hq.pm.mem_iff.mp hi;clear u hc hq;generalize q.toList=l at all;induction l with
   | nil=>show .nil
   | cons i l ih =>
    let hi:=all i (by simp);show .cons ?_ (ih λj hj=>all j^by simp[hj]);let#[e1,m1]:=atk i hi;show#[(ys.getD i ((0,none),0)).2,?_,?_];change(List.map (λz=>Value.ref z.snd) ys).getD i Value.none=_;rw[xm,bJ,xm,iR hi];rfl;change((ys.map (·.1)).getD i (0,none),_)∈zs;rw[e1];show hys.mem_iff.mp m1
  .have:=(hq.pm.map λi=>(ys.map (·.1)).getD i (0,none)).mem_iff (a:=k);rw[this];let e:=range_getD (ys.map (·.1)) ((0,none):bY);rw[aq] at e;rw[e];show(hys.map (·.1)).mem_iff
  .rw[nY];intro i j hi hj hij;rw[aq,dU,hq.sz] at hi hj;have:=u i j hij hj;unfold SN.kv at this;rw[ya,ya];let g:∀i(hi:i<q.toList.length),q.toList[i]=q.getD i 0:=λi hi=>by rw[Array.getD_eq_getD_getElem?,<- gG,iR hi];rfl
   rw[g,g];show this
end HM
namespace SN
open PySem PySem.W PySem.Spec PyProof.Rows
end SN
namespace L2
variable {k:HM.bY}{kvs:gZ}{xs:List (HM.bY×ae×J)}
def fP(H:Hp):HM.fX->V->eL
 | none,v=>v=.str "mark"
 | some p,v=>∃a,v=¬a/\H a=!.tup [.int p.1,.int p.2]
def bD(H:Hp)(v:V)(k:HM.bY):=∃a u,v=¬a/\H a=!.tup [.int k.1,u]/\fP H k.2 u
abbrev cF(H:Hp):List V->List HM.bY->Prop:=Paired^bD H
def fP.same{k:HM.fX}(h:fP H k v)(s:az H H'):fP H' k v:=by
 cases k with
 | none=>show h
 | some p=>let#[a,e,q]:=h;show#[a,e,s _ _ q]
theorem bD.same(h:bD H v k)(s:az H H'):bD H' v k:=let⟨a,u,e,q,t⟩:=h;#[a,u,e,s _ _ q,t.same s]
theorem cF.same{vs:List V}{ks:List HM.bY}(h:cF H vs ks)(s:az H H'):cF H' vs ks:=Paired.KP h λz z x=>x.same s
def adr:V->ae
 | .ref a=>a
 | _=>0
theorem bD.adr(h:bD H v k):v=¬L2.adr v:=by let#[a,u,Z,_]:=h;rfl
section
variable {Y:St}
def Inv.thg(I:Inv X X1 Y H s){k:HM.fX}(h:fP H k v)(r:RelV v u):HM.ir am k u:=by
 cases k with
 | none =>
  let h:v=.str "mark" := h;subst h;show r
 | some p =>
  let#[a,Z,q]:=h;cases r;let#[o,n,t,u,h1,h2,h3]:=I.pair q;show#[a,o,n,t,u,Z,h1,h2,h3]
def Inv.hrm(I:Inv X X1 Y H s)(h:bD H (¬a) k):HM.cQ am k a:=by
 let#[a',u,e,q,t]:=h;cases e;let#[_,XL,r,o,h1,h2,n,h3]:=(show dQ bi cq H am a^.tup [.int k.1,u] from I.hok a _ q);cases r with
 | cons r1 r =>
  cases r with
  | cons r2 r =>
   cases r;let#[t1,Z]:=r1;show#[o,n,t1,_,h1,h2,h3,I.thg t r2]
def yN(P:de)(w:cw)(p:ae)(zs:List (HM.bY×ae)):cv->Prop:=λh=>HM.Cf P w (not (SG.cV w)) h p zs
def Xz(K:aC)(P:de)(w:cw):List V->Hp->VK->Prop:=λxs H Q=>∃(l:ae)(vs:List V)(ks:List HM.bY),xs=[¬l]/\bI K H l vs/\cF H vs ks/\eI<=4 /\
 ∀p H' zs,gX H p (.ext (yN P w p zs)) H'->(∀z∈zs,bD H (¬z.2) z.1)->(∀k,k∈zs.map (·.1)↔k∈ks)->Q (¬p) H'
theorem LS(hu:X.A.units+64<cLine)(hc:X.calm=ag):ef X (.type "set")^Xz dq bi X.w:=by
 intro X1 s Y H xs us Q I r h;let#[l,vs,ks,Z,hl,hk,h4,q]:=h;let#[u,Z,ru]:=vals1 r;cases ru;let#[XL,rv,#[ol,n0,e1,e2,e3,e4],_]:=I.list hl;let isl:s.heap.IsList l XL.toArray:=#[ol,e1,e2,n0,e4];let Hl:dA=ks.length:=hk.length;let hsz:XL.toArray.size=ks.length:=by have:=rv.length;rw[bB];lia
 let SC:∀i,i<eI->bD H (¬adr^vs.getD i^.int 0)^ks.getD i (0,none)/\vs[i]?=!.ref^adr^vs.getD i^.int 0:=λi hi=>by
  let Id:i<vs.length:=∅;let#[k,hk1,GT]:=sI hk (i:=i) (x:=vs[i])^iR Id;let e1:vs.getD i^.int 0=vs[i]:=by rw[xm,iR Id];rfl
  let e2:ks.getD i (0,none)=k:=by rw[xm,hk1];rfl
  rw[e1,e2,<- GT.adr];show#[GT,iR Id]
 show HM.PB (val:=λi=>(ks.getD i (0,none),adr^vs.getD i^.int 0)) ∅ (I.ok.hd hc) isl (λi v hv=>?_) ∅ λh' tk hS hkp=>?_
 .have hi:i<ks.length:=by have:=(qj.mp hv).1;lia
  let#[a1,a2]:=SC i hi;let#[u,hu,ru]:=rv.get a2;rw[mL,hu] at hv;cases hv;cases ru;show#[Z,I.hrm a1]
 .rw[hsz] at hS;show#[¬B,_,I.laid (t':=tk) (λb o e=>hkp b o (aO e) e) (ay _) (o:=.ext (yN X.prog X.w s.heap.objs.size _)) #[hS,?_,λh1 h2 hp he=>hp.at' he],rfl,q _ _ _ #[I.hok.fresh^ay _,rfl] (λz hz=>?_) λk=>?_];let#[o,_,_,_,ho,_]:=hS;show#[o,ho];let#[j,hj,Z]:=HM.Ef _ _ _ hz;show(SC j hj).1;rw[HM.Pz];constructor;rintro⟨j,hj,rfl⟩;change ks.getD j (0,none)∈ks;rw[xm,iR hj];show ly hj;intro hn;let#[j,hj,e5]:=uG.mp hn;show#[j,hj,?_];change k=ks.getD j (0,none);rw[xm,iR hj,<- e5];rfl
def PK(P:de)(w:cw):List V->Hp->VK->Prop:=λxs H Q=>∃(p:ae)(zs:List (HM.bY×ae)),xs=[¬p]/\H p=!.ext (yN P w p zs)/\(∀z∈zs,bD H (¬z.2) z.1)/\(∀z∈zs,HM.OkH z.1)/\(∀z∈zs,∀y∈zs,HM.Alike z.1 y.1) /\
 ∀q H' vs ks,gX H q (.lst vs) H'->cF H vs ks->(∀k,k∈ks↔k∈zs.map (·.1))->ks.Pairwise (λx y=>HM.vm x<HM.vm y)->Q (¬q) H'
theorem Hq(hu:X.A.units+64<cLine)(hc:X.calm=ag):ef X (.builtin "sorted")^PK bi X.w:=by
 intro X1 s Y H xs us Q I r h;let#[p,zs,Z,hp,hz,hok,Os,q]:=h;let#[u,Z,ru]:=vals1 r;cases ru;let#[hS,_,_]:=I.hok p _ hp;let h4:zs.length<=4:=by let#[_,_,_,_,_,_,_,_,_,_,_,h4,_]:=hS;show h4
 show HM.Eg ∅ (I.ok.hd hc) hS (λz Ix=>I.hrm^hz z Ix) hok Os λa h' d' tk c vs ks hle hk ho hP hmem Pc Op=>?_;let hV:∀{vs:List J}{ks:List HM.bY},Paired (λv k=>∃a,v=Value.ref a/\(k,a)∈zs) vs ks->∃us:List V,Vals us vs/\cF H us ks:=by
  intro vs ks r;induction r with
  | nil=>show#[[],.nil,.nil]
  | cons h _ ih =>
   let#[a,Z,hm]:=h;let#[us,u1,u2]:=ih;show#[.ref a::us,.cons Z u1,.cons (hz _ hm) u2]
 let#[us,u1,u2]:=hV hP;let hl:dv<=sizeLine:=by let e1:=u1.length;rw[sizeLine_eq];lia
 show#[¬a,_,(I.drw d').laid (t':=tk) hk hle (o:=.lst us) #[hl,vs,c,u1,ho],Z,q _ _ us ks #[I.hok.fresh hle,Z] u2 hmem Pc]
def aa6{vs:List V}{ks:List HM.bY}(hl:bI K H l vs)(hk:cF H vs ks)(h4:eI<=4)(h:∀p H' zs,gX H p (.ext (yN P w p zs)) H'->(∀z∈zs,bD H (¬z.2) z.1)->(∀k,k∈zs.map (·.1)↔k∈ks)->Q (¬p) H'):Xz K P w [¬l] H Q:=#[l,vs,ks,rfl,hl,hk,h4,h]
def UP{p:ae}{zs:List (HM.bY×ae)}(hp:H p=!.ext (yN P w p zs))(hz:∀z∈zs,bD H (¬z.2) z.1)(hok:∀z∈zs,HM.OkH z.1)(Os:∀z∈zs,∀y∈zs,HM.Alike z.1 y.1)(h:∀q H' vs ks,gX H q (.lst vs) H'->cF H vs ks->(∀k,k∈ks↔k∈zs.map (·.1))->ks.Pairwise (λx y=>HM.vm x<HM.vm y)->Q (¬q) H'):PK P w [¬p] H Q:=#[p,zs,rfl,hp,hz,hok,Os,h]
end
def fP.rd{k:HM.fX}{x:V}(h:fP H k x):RD K H x^HM.nU k:=by
 cases k with
 | none=>let h:x=.str "mark" := h;subst h;show .str _
 | some p=>let#[a,Z,q]:=h;show .tup (dD.of q)^.cons (.int _)^.cons (.int _) .nil
def PL(k:HM.fX):Sh 1^HM.nU k:=#[HM.xC k,HM.ve k]
def XA{k:HM.fX}{x:V}(h:fP H k x)(q:Q (.bl k.isNone) H):OD K x (.str "mark") H Q:=by show GY (HM.nU k) (.str "mark") 1 () h.rd (.str _) (PL k) (PL aw) ?_;have:=HM.Ce k aw;rw[show PyData.str "mark" = HM.nU aw from Z,this];cases k<;>show q
abbrev gZ:=List (HM.bY×ae×V)
def sN:gZ->List (HM.bY×ae×J)->Prop:=Paired λ(p:HM.bY×ae×V)(q:HM.bY×ae×J)=>p.1=q.1/\p.2.1=q.2.1/\RelV p.2.2 q.2.2
def eW(P:de)(w:cw)(d:ae)(ep:O)(kvs:gZ):cv->Prop:=λh=>bo<=sizeLine/\(d==sysModules)=bj/\∃xs,sN kvs xs/\∃o es,h.get? d=!o/\o.ExactDict/\o.data=.dict es ep/\es.toList=xs.map^entryOfKey^HM.iJ P w/\(xs.map (·.1)).Nodup
def cX(H:Hp)(kvs:gZ):=∀x∈kvs,bD H (¬x.2.1) x.1
theorem cX.same(h:cX H kvs)(s:az H H'):cX H' kvs:=λx hx=>(h x hx).same s
noncomputable def nV(kvs:gZ)(k:HM.bY):Option V:=(kvs.find? λx=>decide (x.1=k)).map (·.2.2)
noncomputable def lR(kvs:gZ)(k:HM.bY)(a:ae)(v:V):gZ:=if(nV kvs k).isSome then kvs.map (λx=>if x.1=k then(x.1,x.2.1,v) else x) else kvs++[(k,a,v)]
def sN.val(r:sN kvs xs)(k:HM.bY):lC (nV kvs k)^(atKey xs k).map (·.2):=by
 unfold sN at r;induction r with
 | nil=>show gw
 | @cons p q ps qs h t ih =>
  unfold nV atKey at ih ⊢;rw[j6,j6,<- h.1];by_cases e:p.1=k;rw[decide_eq_true e];show h.2.2;rw[decide_eq_false e];show ih
def sN.put(r:sN kvs xs)(k:HM.bY)(ry:RelV y u):sN (lR kvs k b y)^storedH xs k b u:=by
 let e:(nV kvs k).isSome=(atKey xs k).isSome:=by rw[(r.val k).jX,Option.isSome_map]
 unfold lR storedH;rw[e];by_cases q:(atKey xs k).isSome=ag
 .rw[if_pos q,if_pos q];clear e q;unfold sN at r ⊢;induction r with
  | nil=>show .nil
  | @cons p q ps qs h t ih =>
   rw[cN,cN];show .cons ?_ ih;let#[h1,h2,h3]:=h;unfold putAt;by_cases e:p.1=k;rw[if_pos e,if_pos^h1.symm.trans e];show#[h1,h2,ry];rw[if_neg e,if_neg (λz=>e^h1.trans z)];show#[h1,h2,h3]
 .rw[if_neg q,if_neg q];show eU r #[Z,Z,ry]
def Eh(kvs:gZ)(k:HM.bY)(a:ae)(v:V):(lR kvs k a v).length<=bo+1:=by unfold lR;split<;>simp
section
variable {Y:St}{kvs:gZ}{k:HM.bY}
def DH(P:de)(w:cw)(H:Hp)(d:ae)(ep:O)(kvs:gZ):=H d=!.ext (eW P w d ep kvs)/\cX H kvs
def Inv.dh(I:Inv X X1 Y H s)(h:DH bi cq H d ep kvs):bo<=sizeLine/\(d==sysModules)=bj/\∃xs,sN kvs xs/\s.heap.DictOfH (HM.iJ bi cq) d xs:=by
 let#[#[z,hd,xs,W1,o,es,h1,h2,h3,h4,h5],_,_]:=I.hok d _ h.1;show#[z,hd,xs,W1,o,es,ep,h1,h2,h3,h4,λx hx=>?_,h5];let all:∀{kvs:gZ}{xs:List (HM.bY×ae×J)},sN kvs xs->cX H kvs->∀x∈xs,HM.cQ am x.1 x.2.1:=by
  intro kvs xs r;unfold sN at r;induction r with
  | nil=>intro _ x hx;show nomatch hx
  | @cons p q ps qs hq t ih =>
   intro hk x hx;rcases aP.mp hx with e|hx
   .subst e;have:=I.hrm (hk p^by simp);rw[hq.1,hq.2.1] at this;show this
   .show ih (λy hy=>hk y^by simp[hy]) x hx
 show all W1 h.2 x hx
theorem JO(hu:A.units+64<cLine):(HM.iJ bi cq).room A.in1:=by change A.in1.units+2<cLine;erw[Around.in1];lia
def yO{Q:J->ap->eL}(hu:A.units+64<cLine)(I:Inv X X1 Y H s)(h:DH bi cq H d ep kvs)(hb:bD H (¬b) k)(hv:nV kvs k=!v)(q:∀w' s',Inv X X1 Y H s'->RelV v w'->Q w' s'):
  wpAny (model bi cq) A (getItem (¬d)^¬b) Q E s:=by let#[z,hd,xs,W1,dd]:=I.dh h;let#[w',hw,PH]:=lC.some_of (v:=v) (o:=(atKey xs k).map (·.2)) (by rw[<- hv];show W1.val k);let#[p,hp,hp2]:=cU.mp hw;show wpAny_getItem_heap (JO hu) (I.hrm hb) dd hp ?_;rw[hp2];show q w' _ (I.tok _) PH
def Hr(z:bo<=sizeLine)(hd:(d==sysModules)=bj)(W1:sN kvs xs)(dd:h'.DictOfH (HM.iJ bi cq) d xs):∃ep,∀{H':Hp},dQ bi cq H' h' d^.ext (eW X.prog X.w d ep kvs):=by let#[o,es,ep,h1,h2,h3,h4,_,h5]:=dd;show#[ep,λ{H'}=>#[#[z,hd,xs,W1,o,es,h1,h2,h3,h4,h5],#[o,h1],λg1 g2 hp he=>?_]];let#[z,hd,xs,W1,o,es,h1,h2]:=hp;show#[z,hd,xs,W1,o,es,he _ h1,h2]
theorem yP{r:J}{Q:Unit->ap->eL}(hu:A.units+64<cLine)(I:Inv X X1 Y H s)(h:DH bi cq H d ep kvs)(hb:bD H (¬b) k)(hl:bo<sizeLine)(rv:RelV v r)
  (q:∀vN s',Inv X X1 Y (upd H d^.ext (eW X.prog X.w d vN^lR kvs k b v)) s'->Q Unit.unit s'):wpAny (model X.prog X.w) A (setItem (¬d) (¬b) r) Q E s:=by
 let#[z,hd,xs,W1,dd]:=I.dh h;let hz:ab<=sizeLine:=by rw[<- kM W1];show z
 let Pm:(lR kvs k b v).length<=sizeLine:=by have:=Eh kvs k b v;lia
 show wpAny_setItem_heap (hsz:=hz) (JO hu) (I.hrm hb) dd λh' dd' hs=>?_;let#[vN,He]:=Hr (X:=X) Pm hd (W1.put k rv) dd';show q vN _ ?_;let ho:=He (H':=upd H d^.ext (eW X.prog X.w d vN^lR kvs k b v));show BU I (by rw[h.1];show gw) hs ho.2.1 ho
end
def PM(P:de)(w:cw):R2:=λx y H Q=>∃d b ep kvs k v,x=¬d/\y=¬b/\DH P w H d ep kvs/\bD H (¬b) k/\nV kvs k=!v/\Q v H
def PN(P:de)(w:cw)(v x y:V)(H:Hp)(R:Hp->eL):=∃d b ep kvs k,x=¬d/\y=¬b/\DH P w H d ep kvs/\bD H (¬b) k/\bo<=1000000/\∀vN H',mT H d (.ext (eW P w d vN^lR kvs k b v)) H'->R H'
def PR(P:de)(w:cw)(td ty tv:TE):TS:=λD Y H=>tv Y H λv H1=>td Y H1 λx H2=>ty Y H2 λy H3=>PN P w v x y H3 λH4=>D.nx Y H4
def PU(P:de)(w:cw)(td ty tv:TE)(rd:V->V->Hp->VK->eL):TS:=λD Y H=>td Y H λx H1=>ty Y H1 λy H2=>PM P w x y H2 λv H3=>tv Y H3 λy2 H4=>rd v y2 H4 λz H5=>PN P w z x y H5 λH6=>D.nx Y H6
def PV(P:de)(w:cw):TE:=λz H Q=>∀p ep H',gX H p (.ext (eW P w p ep [])) H'->Q (¬p) H'
section
variable {o i:dr}{ty:TE}
def Ei:PE X (.Dict [] [] pos)^PV bi X.w:=λX1 s Y H Q I h =>
 let⟨ep,ho⟩:=Hr (X:=X) (kvs:=[]) (aV _) (beq_eq_false_iff_ne.mpr^aR^aU I.big) .nil (Heap.DictOfH.new am)
 wpAny_Dict_empty #[¬B,_,I.laid (a:=B) (o:=.ext (eW X.prog X.w s.heap.objs.size ep [])) (t':=s.toks) (λz z q=>eS _ q) (ay _) ho,rfl,h _ ep _ #[I.hok.fresh^ay _,rfl]]
def Inv.dhT{Y:St}(I:Inv X X1 Y H s)(h:DH bi cq H d ep kvs):s.TypeIs (¬d) "dict" := by let#[_,_,_,_,dd]:=I.dh h;show dd.typeIs
def lS(hu:X.A.units+64<cLine)(ho:PE X o td)(hi:PE X i ty)(hs:N2 i):PE X (.Subscript o i pos)^vP (PM bi cq) td ty:=by intro X1 s Y H Q I h;show BV PySem.F.slot_dict_getitem.lookup hs (dw (ho X1 s Y H _ I h) λu s1 zq=>?_);let#[x,H1,I1,rx,q1]:=zq;show dw (hi X1 s1 Y H1 _ I1 q1) λiv s2 zq=>?_;let#[y,H2,I2,ry,d,b,ep,kvs,k,v,ex,ey,hd,hb,hv,q2]:=zq;subst ex ey;obtain rfl:u=Value.ref d:=rx;obtain rfl:iv=Value.ref b:=ry;show#[I2.dhT hd,yO hu I2 hd hb hv λw' s3 I3 PH=>#[v,H2,I3,PH,q2]]
theorem Ej(hu:X.A.units+64<cLine)(ho:PE X o td)(hi:PE X i ty)(hv:PE X value tv)(hs:swapsWith value (!.Subscript o i QP) pos.line ax=pure bj):
  PS X (.Assign [.Subscript o i QP] value pos)^PR bi cq td ty tv:=by intro X1 s Y H D I h;show wpAny_Assign_Subscript (dw (hv X1 s Y H _ I h) λr s1 zq=>?_) hs;let#[v,H1,I1,rv,q1]:=zq;show dw (ho X1 s1 Y H1 _ I1 q1) λu s2 zq=>?_;let#[x,H2,I2,rx,q2]:=zq;show dw (hi X1 s2 Y H2 _ I2 q2) λiv s3 zq=>?_;let#[y,H3,I3,ry,d,b,ep,kvs,k,ex,ey,hd,hb,hl,q3]:=zq;subst ex ey;obtain rfl:u=Value.ref d:=rx;obtain rfl:iv=Value.ref b:=ry;show yP hu I3 hd hb (by rw[sizeLine_eq];lia) rv λvN s4 I4=>#[Y,_,I4,q3 vN _ rfl]
theorem PX{op:Operator}{rd:V->V->Hp->VK->eL}(hu:X.A.units+64<cLine)(ho:PE X o td)(hi:PE X i ty)(hv:PE X value tv)(hop:Tn X op rd)
  (ha:∀ov iv new,augStore i ov iv new=(do holding [new,ov,iv]^setItem ov iv new;release [new,ov,iv] [];pure .next)):PS X (.AugAssign (.Subscript o i tpos) op value pos)^PU bi cq td ty tv rd:=by intro X1 s Y H D I h;show wpAny_AugAssign_SubscriptAny (dw (ho X1 s Y H _ I h) λu s1 zq=>?_) ha;let#[x,H1,I1,rx,q1]:=zq;show dw (hi X1 s1 Y H1 _ I1 q1) λiv s2 zq=>?_;let#[y,H2,I2,ry,d,b,ep,kvs,k,v,ex,ey,hd,hb,Op,q2]:=zq;subst ex ey;obtain rfl:u=Value.ref d:=rx;obtain rfl:iv=Value.ref b:=ry;show yO hu I2 hd hb Op λw' s3 I3 PH=>dw (hv X1 s3 Y H2 _ I3 q2) λw2 s4 zq=>?_;let#[y2,H3,I4,ry2,q3]:=zq;show dw (hop X1 s4 Y H3 v y2 w' w2 _ I4 PH ry2 q3) λw3 s5 zq=>?_;let#[z,H4,I5,rz,d5,b5,ep5,apV,k5,ex5,ey5,UQ,hb5,XC,q4]:=zq;cases ex5;cases ey5;show yP hu I5 UQ hb5 (by rw[sizeLine_eq];lia) rz λvN s6 I6=>#[Y,_,I6,q4 vN _ rfl]
end
noncomputable def PY(P:de)(w:cw)(d:ae)(ep:O)(kvs:gZ):It :=
 #[λi H=>H d=!.ext (eW P w d ep kvs)/\i<kvs.length,λi H x H'=>H'=H/\∃e,kvs[i]?=!e/\x=¬e.2.1,λi H=>H d=!.ext (eW P w d ep kvs)/\i=kvs.length]
theorem Inv.raw{Y:St}(I:Inv X X1 Y H s)(h:H d=!.ext (eW X.prog X.w d ep kvs)):
  (d==sysModules)=bj/\bo<=sizeLine/\∃es:Array DictEntry,SN.lQ am d es ep/\cn=bo/\∀(i:O) e,kvs[i]?=!e->∃u,es[i]?=!u/\u.key=¬e.2.1/\RelV e.2.2 u.val:=by
 let#[#[z,hd,xs,W1,o,es,h1,h2,h3,h4,h5],_,_]:=I.hok d _ h;let hl:ab=kvs.length:=(kM W1).symm;let hs:cn=xs.length:=by rw[<- dU,h4,aq]
 show#[hd,z,es,#[o,h1,h2,h3],∅,λi e he=>?_];let#[x,hx,r1,r2,r3]:=sI W1 he;show#[entryOfKey (HM.iJ bi cq) x,?_,?_,?_];rw[<- gG,h4,bJ,hx];rfl;change Value.ref x.2.1=_;rw[r2];show r3
def Hs(d it:ae)(ep:O)(kvs:gZ):Turn P w K tg (PY P w d ep kvs) [it] it (λi h=>h.IsKeyIter it d i bo ep) where
 mem:=by simp
 obj:=λi h st b hb=>by
  let e:b=it:=by simpa using hb
  subst e;let#[o,e,c,dd]:=st;show#[o,e,λv z=>by rw[dd] at z;cases z]
 keep:=λi h h' st k=>st.at λo e=>k it (by simp) o e
 item:=by
  intro X hP hw hK hc i X1 s Y H E I hf st hg;subst hP hw hK;let#[hd,hi]:=hg;let#[_,_,es,rd,hs,SC]:=I.raw hd;let#[f0,f1,f2,f3,f4,f5]:=hf it (by simp);let he:kvs[i]?=some kvs[i]:=iR hi;let#[u,hu,hk,_]:=SC i _ he;rw[<- hs] at st;show SN.sG (I.ok.hd hc) st rd (λu' Ea h' Ts sb=>?_) λh=>by rw[hu] at h;cases h
  rw[hu] at Ea;cases Ea;let I1:Inv X X1 Y H { s with heap:=h' }:=I.turned (t':=s.toks) (λb o hb e=>(sb.2 b hb).trans e) f0 f1 f3 f4 f5;rw[hs] at Ts;let#[o,e,c,dd]:=id Ts;show#[u.key,Z,Dq (s:={ s with heap:=h' }) e c dd () #[.ref kvs[i].2.1,H,I1,hk,#[Z,_,he,Z],Ts,λb hb=>(hf b hb).1]]
 done:=by intro X hP hw hK hc i X1 s Y H E I hf st hg;subst hP hw hK;let#[hd,hi]:=hg;let#[_,_,es,rd,hs,SC]:=I.raw hd;let#[f0,f1,f2,f3,f4,f5]:=hf it (by simp);subst hi;rw[<- hs] at st;show SN.sG (I.ok.hd hc) st rd (λe h=>by rw[vM^ay _] at h;cases h) λq h' eb=>#[rfl,I.turned (t':=s.toks) (λb o hb e=>eb b o hb e) f0 f1 f3 f4 f5]
 self:=λq q q q q st h=>wpAny_pyIter_keyiter st h
def aa7(P:de)(w:cw)(R:It->Hp->eL):V->Hp->Prop:=λx H=>∃d ep kvs,x=¬d/\H d=!.ext (eW P w d ep kvs)/\R (PY P w d ep kvs) H
def PZ(P:de)(w:cw)(tl:TE):TI:=λY H R=>tl Y H^aa7 P w R
def sO{l:dr}{tl:TE}(hl:PE X l tl):PI X tg l^PZ bi cq tl:=by
 intro X1 s Y H R I h;show dw (hl X1 s Y H _ I h) λv s1 zq=>?_;let#[x,H1,I1,r1,q1]:=zq;let#[d,ep,kvs,e,hd,q]:=q1;subst e;cases r1;let#[lo,_,es,rd,hs,SC]:=I1.raw hd;show SN.D3 lo rd ?_;show#[bn,[bn],_,_,H1,Z,I1.kept (t':=s1.toks) λb o e=>eS _ e,Hs d _ ep kvs,#[_,jB _ rfl,Z,by rw[<- hs];rfl],λb hb=>?_,q];let e:b=s1.heap.objs.size:=by simpa using hb
 subst e;show I1.rM (ay _)^I1.hok.fresh^ay _
section
variable {nx bk ct:St->Hp->eL}{Y:St}
def ae3{tl:TE}{R:It->Hp->eL}(h:tl Y H^aa7 P w R):PZ P w tl Y H R:=h
def anP{R:It->Hp->eL}(hd:H d=!.ext (eW P w d ep kvs))(h:R (PY P w d ep kvs) H):aa7 P w R (¬d) H:=#[d,ep,kvs,rfl,hd,h]
theorem UR{tb:TS}(Pv:O->St->Hp->eL)(h0:Pv 0 Y H)(hl:∀i Y H,i<=bo->Pv i Y H->H d=!.ext (eW P w d ep kvs))
  (hs:∀i e Y H,kvs[i]?=!e->Pv i Y H->g (¬e.2.1) Y H λY2 H2=>tb #[Pv (i+1),rt,nx,Pv (i+1)] Y2 H2)(hd:∀Y H,Pv bo Y H->nx Y H):Ni (PY P w d ep kvs) g tb nx rt Y H :=
 #[λi m Y H=>m=bo-i/\i<=bo/\Pv i Y H,#[bo,∅,∅,h0],λi m Y' H' ⟨e,hi,p⟩=>by
  rcases dg i kvs.length with hlt|hge;show .inr #[#[hl i _ _ hi p,hlt],Pv (i+1),λY2 H2 q=>#[bo-(i+1),∅,Z,hlt,q],?_];rintro x H2 ⟨rfl,e,he,rfl⟩;show hs i e Y' _ he p
  .have e:i=kvs.length:=∅;subst e;show .inl #[#[hl _ _ _ hi p,Z],hd _ _ p]]
theorem Cg{τ:St}(Pv:O->List V->Hp->eL)(h0:Pv 0 [] H)(hl:∀i ys H,i<=bo->Pv i ys H->H d=!.ext (eW P w d ep kvs))
  (hs:∀i e ys H,kvs[i]?=!e->Pv i ys H->ce<sizeLine/\tt (some^.ref e.2.1::τ) H λb H3=>if b=ag then te (some^.ref e.2.1::τ) H3 λy H4=>Pv (i+1) (ys++[y]) H4 else Pv (i+1) ys H3)
  (hd:∀ys H,Pv bo ys H->∀p H',gX H p (.lst ys) H'->Q (¬p) H'):Lp (PY P w d ep kvs) tt te τ Q H:=by
 show#[λi m ys H=>m=bo-i/\i<=bo/\Pv i ys H,#[bo,by simp,aV _,h0],?_];rintro i m ys H ⟨rfl,hi,p⟩;let q:=hl i ys H hi p;by_cases hlt:i<bo
 .have hx:kvs[i]?=some kvs[i]:=by simp[hlt]
  let#[hz,q']:=hs i _ ys H hx p;show .inr #[#[q,hlt],hz,Pv (i+1),λY' H' p'=>#[bo-(i+1),∅,Z,hlt,p'],λx H' y=>?_];let#[e,e2,he,y]:=y;subst e y;rw[hx] at he;cases he;show q'
 .have e:i=kvs.length:=∅;subst e;show .inl #[#[q,Z],λr hr=>hd ys H p r _ #[hr,Z]]
end
noncomputable def mZ(ks:O->HM.bY×ae)(vs:O->V):O->gZ
 | 0=>[]
 | n+1=>lR (mZ ks vs n) (ks n).1 (ks n).2^vs n
theorem yQ(ks:O->HM.bY×ae)(vs:O->V):∀n,(mZ ks vs n).length<=n
 | 0=>ay _
 | n+1=>by let h1:=yQ ks vs n;let h2:=Eh (mZ ks vs n) (ks n).1 (ks n).2^vs n;change(lR (mZ ks vs n) (ks n).1 (ks n).2^vs n).length<=n+1;lia
def LU(h:k∉kvs.map (·.1)):nV kvs k=none:=by unfold nV;rw[List.find?_eq_none.mpr λx hx e=>h^aQ.mpr #[x,hx,by simpa using e]];rfl
def yR(h:k∉kvs.map (·.1)):lR kvs k a v=kvs++[(k,a,v)]:=by unfold lR;rw[LU h];rfl
theorem AU{ks:O->HM.bY×ae}{vs:O->V}:∀{n:O},(∀i j,i<j->j<n->(ks i).1≠(ks j).1)->mZ ks vs n=(List.range n).map λi=>((ks i).1,(ks i).2,vs i)
 | 0,_=>rfl
 | n+1,h=>by let ih:=AU (ks:=ks) (vs:=vs) (n:=n) λi j hi hj=>h i j hi ∅;change lR (mZ ks vs n) (ks n).1 (ks n).2^vs n=_;rw[ih,yR,List.range_succ,bq];rfl;intro hm;let#[x,hx,e]:=aQ.mp hm;let#[i,hi,Z]:=aQ.mp hx;show h i n (gJ.mp hi) ∅ e
def US(dd:h.DictOfH (HM.iJ prog w) d xs)(hd:d≠it)(hi:∀o vs n,h.get? it=!o->o.data≠.seq vs n)(k:∀b o,b≠it->h.get? b=!o->h'.get? b=!o):h'.DictOfH (HM.iJ prog w) d xs:=by let#[o,es,ep,h1,h2,h3,h4,h5,h6]:=dd;show#[o,es,ep,k d o hd h1,h2,h3,h4,λx hx=>?_,h6];show HM.cQ.stay (h5 x hx) λb o vs n q ds e=>k b o (λz=>by subst z;show hi o vs n e ds) e
theorem Ek{XL:Array J}{ks:O->HM.bY×ae}{vs:O->V}{Q:J->ap->eL}(hu:A.units+20<cLine)(hx:PlainL am l XL)(hh:A.in1.in1.handled=aw)(hn:n<=sizeLine)(hsz:XL.size=n)
  (hp:∀i,i<n->∃(T:ae)(v:J)(o:du)(c:O),XL[i]?=!.ref T/\s.heap.get? T=!o/\o.cls=.type "tuple" /\ o.data=.seq #v[¬(ks i).2,v] c/\HM.cQ am (ks i).1 (ks i).2/\RelV (vs i) v)
  (q:∀h' tk rs,(∀b o,s.heap.get? b=!o->h'.get? b=!o)->h'.DictOfH (HM.iJ prog w) B rs->sN (mZ ks vs n) rs->Q (¬B) { s with heap:=h',toks:=tk }):
  wpAny (model prog w) A (call (.type "dict") [¬l]) Q E s:=by show AK (D:=λi h=>∃rs,h.DictOfH (HM.iJ prog w) B rs/\sN (mZ ks vs i) rs) hx (DR hh) hh hsz #[[],Heap.DictOfH.new am,.nil] (λi h h' it ⟨rs,dd,W1⟩ ne nd k=>#[rs,US dd (aR ne) nd k,W1]) (λi hi=>?_) λh t k ⟨rs,dd,W1⟩=>q h t rs k dd W1;let#[T,v,o,c,a1,a2,a3,a4,hk,rv]:=hp i hi;show#[T,_,v,o,c,a1,a2,a3,a4,λh t Q E k y g=>?_];let#[rs,dd,W1]:=y;show wpAny_dictSet_heap (hsz:=by rw[<- kM W1];show bP (yQ ks vs i)^bP (iD hi) hn) (by change A.in1.in1.units+2<cLine;erw[Around.in1];lia) (HM.cQ.stay hk λb o z z z z e=>k b o e) dd λh2 d2 sb=>g h2 _ #[_,d2,W1.put (ks i).1 rv] sb
abbrev sP(H:Hp):List V->List (HM.bY×ae×V)->Prop:=Paired λu p=>∃t,u=¬t/\H t=!.tup [¬p.2.1,p.2.2]/\bD H (¬p.2.1) p.1
def XD(K:aC)(P:de)(w:cw):List V->Hp->VK->Prop:=λvs H Q=>∃a us ps,vs=[¬a]/\bI K H a us/\sP H us ps/\(ps.map (·.1)).Nodup/\∀p ep H',gX H p (.ext (eW P w p ep ps)) H'->Q (¬p) H'
end L2
namespace SN
def UT{es:Array DictEntry}(hd:(d==sysModules)=bj):
  MeetsIn prog w (Builtin.«dict.__len__» #[[¬d],[]]) (λz R s=>lQ am d es ep/\R (.ok^.ret^.int cn s.toks) { s with toks:=s.toks+1 }) :=
 .of_wp λA R s ⟨hm,h⟩=>by let#[o,ho,hc,hdat]:=hm;change wpAny _ _ (dictSize d >>= _) _ _ s;unfold dictSize;show au^au^wpAny_dictEntries ho hdat^aW ?_;change wpAny _ _ (Builtin.Dict.pendingCount d >>= _) _ _ s;show au^wpAny_pendingCount_other hd ?_;show wpAny_ret_mkInt ?_;rw[Nat.add_zero];show h
theorem Ci{es:Array DictEntry}{Q:J->ap->eL}(hd:(d==sysModules)=bj)(hm:lQ am d es ep)(Tb:(cn:M)<2 ^ 63)
  (h:Q (.int cn (s.toks+1)) { s with toks:=s.toks+1+1 }):wpAny (model prog w) A (call (.builtin "len") [¬d]) Q E s:=by
 show BA kind_len plain_len entry_len (args_len1 _) ?_;unfold Builtin.«len»;show au (m:=oneArg "len" _)^aW ?_;show au (m:=callSpecial? (¬d)^Str.ofString "__len__") (wpAny_callSpecial?_slot (name:=Str.ofString "__len__") hm.ty F.slot_dict_len
  (call_meetsIn F.slot_dict_len hm.ty F.entry_dict_len (F.args_dict_len_1 _) (UT (es:=es) (ep:=ep) hd) #[hm,?_]))
 change wpAny _ _ _ _ _ { s with toks:=s.toks+1 };show au^wpAny_holding^aW ?_;show au^wpAny_letGo ?_;change wpAny _ _ (if((cn:O):M)<0 then _ else _) _ _ _;rw[if_neg ∅];change wpAny _ _ (if((cn:O):M)>=2 ^ 63 then _ else _) _ _ _;rw[if_neg ∅];show au^wpAny_mkInt^aW #[_,Z,h]
end SN
namespace L2
variable {kvs:gZ}
def XE(P:de)(w:cw):List V->Hp->VK->Prop:=λxs H Q=>∃d ep kvs,xs=[¬d]/\H d=!.ext (eW P w d ep kvs)/\Q (.int kvs.length) H
theorem AV:ef X (.builtin "len")^XE bi X.w:=by intro X1 s Y H xs us Q I r h;let#[d,ep,kvs,Z,hd,q]:=h;let#[u,Z,ru]:=vals1 r;cases ru;let#[lo,z,es,rd,hs,SC]:=I.raw hd;show SN.Ci lo rd (by rw[sizeLine_eq] at z;lia) ?_;show#[.int bo,H,I.tok _,#[_,by rw[hs]],q]
def akO(hd:H d=!.ext (eW P w d ep kvs))(q:Q (.int kvs.length) H):XE P w [¬d] H Q:=#[d,ep,kvs,rfl,hd,q]
def ae4(K:aC)(P:de)(w:cw):List V->Hp->VK->Prop:=λxs H Q=>∃d ep kvs T b,xs=[¬d,.ty T]/\H d=!.ext (eW P w d ep kvs)/\PySem.W.kitOne K (.type "dict")^.type T=!b/\Q (.bl b) H
def acT:ef X (.builtin "isinstance")^ae4 dq bi X.w:=by
 intro X1 s Y H xs us Q I r h;let#[d,ep,kvs,T,b,Z,hd,e,q]:=h;cases r with
 | cons r1 r =>
  cases r with
  | cons r2 r =>
   cases r;cases r1;cases r2;let#[lo,z,es,#[o,h1,h2,_],hs,SC]:=I.raw hd;show gR PySem.W.kitx_dict I.rK #[o,h1,h2.1] e (λz=>nomatch z) λtk=>#[.bl b,H,I.tok _,Z,q]
theorem yS{us:List V}{ps:gZ}(h:sP H us ps)(hi:i<ci):∃t,us[i]?=!.ref t/\H t=!.tup [¬(ps.getD i ((0,none),0,.cB)).2.1,(ps.getD i ((0,none),0,.cB)).2.2]/\bD H (¬(ps.getD i ((0,none),0,.cB)).2.1) (ps.getD i ((0,none),0,.cB)).1:=by
 let hl:=h.length;let#[p,hp,t,e,h1,h2]:=sI h (i:=i) (x:=us[i]'∅)^iR _;let ep:ps.getD i ((0,none),0,.cB)=p:=by rw[xm,hp];rfl
 rw[ep];show#[t,by rw[iR ∅,e],h1,h2]
theorem yT(hu:X.A.units+64<cLine)(hc:X.calm=ag):ef X (.type "dict")^XD dq bi X.w:=by
 intro X1 s Y H xs us Q I r h;let#[l,ul,ps,Z,hS,hP,nd,q]:=h;let#[u,Z,r1]:=vals1 r;cases r1;let#[XL,rv,pl,hz]:=I.list hS;let e1:ul.length=ps.length:=hP.length;let hA:X.A.in1.in1.handled=none:=I.ok.hd hc;let big:@LT.lt O _ sysModules s.heap.objs.size:=I.big;let n6:@Ne O B sysModules:=∅;let hl:=rv.length;let eb:mZ (λi=>((ps.getD i ((0,none),0,.cB)).1,(ps.getD i ((0,none),0,.cB)).2.1)) (λi=>(ps.getD i ((0,none),0,.cB)).2.2) ci=ps:=by
  rw[AU];show range_getD _ ps
  .intro i j hi hj e;let gi:∀k(hk:k<ci),ps.getD k ((0,none),0,.cB)=ps[k]:=λk hk=>by rw[xm,iR hk];rfl
   dsimp only at e;rw[gi i ∅,gi j hj] at e;have:=(x9 nd (i:=i) (j:=j) (h₀:=by rw[aq];lia) (h₁:=by rw[aq];lia)).mp (by rw[ya,ya];show e);lia
 show Ek (n:=ci) (ks:=λi=>((ps.getD i ((0,none),0,.cB)).1,(ps.getD i ((0,none),0,.cB)).2.1)) (vs:=λi=>(ps.getD i ((0,none),0,.cB)).2.2) ∅ pl hA ∅ (by rw[bB];lia) (λi hi=>?_) λh' tk rs k' d' W1=>?_
 .let#[t,ht,htt,hh]:=yS hP hi;let#[w,hw,PH]:=rv.get ht;cases PH;let#[RF,rv2,pt,_]:=I.tuple^dD.of htt;let#[o,ho,GE,n,hd]:=pt;cases rv2 with
  | cons a1 b1 =>
   cases b1 with
   | cons a2 b2 =>
    cases b2;cases a1;show#[t,_,o,n,by simpa using hw,ho,GE,hd,I.hrm hh,a2]
 .rw[eb] at W1;let I3:Inv X X1 Y H { s with heap:=h',toks:=tk }:=I.kept k';let fd:lD X X1 H s.heap.objs.size:=I.rM (ay _)^I.hok.fresh^ay _;let#[ep,ho]:=Hr (X:=X) (by rw[<- e1];show hz) (beq_eq_false_iff_ne.mpr n6) W1 d';let I4:=I3.AF fd (o:=.ext (eW X.prog X.w s.heap.objs.size ep ps)) ho;show#[¬_,_,I4,Z,q _ ep _ #[fd.1,Z]]
def JP{us:List V}{ps:gZ}(hS:bI K H a us)(hP:sP H us ps)(nd:(ps.map (·.1)).Nodup)(h:∀p ep H',gX H p (.ext (eW P w p ep ps)) H'->Q (¬p) H'):XD K P w [¬a] H Q:=#[a,us,ps,rfl,hS,hP,nd,h]
section
variable {nx bk ct:St->Hp->eL}{Y:St}{ty:TE}
def aia(h:∀p ep H',gX H p (.ext (eW P w p ep [])) H'->Q (¬p) H'):PV P w Y H Q:=h
def sQ{k:HM.bY}(hd:H d=!.ext (eW P w d ep kvs))(hk:cX H kvs)(hb:bD H (¬b) k)(hv:nV kvs k=!v)(h:Q v H):PM P w (¬d) (¬b) H Q:=#[d,b,ep,kvs,k,v,rfl,rfl,#[hd,hk],hb,hv,h]
def P0{k:HM.bY}{R:Hp->eL}(hd:H d=!.ext (eW P w d ep kvs))(hk:cX H kvs)(hb:bD H (¬b) k)(hz:kvs.length<=1000000)(h:∀vN H',mT H d (.ext (eW P w d vN^lR kvs k b v)) H'->R H'):PN P w v (¬d) (¬b) H R:=#[d,b,ep,kvs,k,rfl,rfl,#[hd,hk],hb,hz,h]
def aib(h:tv Y H λv H1=>td Y H1 λx H2=>ty Y H2 λy H3=>PN P w v x y H3 λH4=>nx Y H4):PR P w td ty tv #[nx,rt,bk,ct] Y H:=h
def aic{rd:V->V->Hp->VK->eL}(h:td Y H λx H1=>ty Y H1 λy H2=>PM P w x y H2 λv H3=>tv Y H3 λy2 H4=>rd v y2 H4 λz H5=>PN P w z x y H5 λH6=>nx Y H6):PU P w td ty tv rd #[nx,rt,bk,ct] Y H:=h
end
end L2
namespace SN
variable {es:Array DictEntry}
theorem AW{Q:Option J->ap->eL}(hh:A.handled=aw)(WP:s.heap.IsValIter it d i cn ep)(x:lQ am d es ep)
  (hQ:∀e,es[i]?=!e->∀h',h'.IsValIter it d (i+1) cn ep->Heap.SameBut it am h'->Q (!e.val) { s with heap:=h' })
  (hN:es[i]?=aw->∀h',Heap.ExtBut it am h'->Q aw { s with heap:=h' }):wpAny (model prog w) A (pyNext^¬it) Q E s:=by
 let ty:=WP.typeIs;let#[o,ho,hc,hf]:=WP;let#[od,hod,_,Cc]:=x;unfold pyNext;show au^wpAny_attempt^wpAny_callSpecial?_slot (name:=Str.ofString "__next__") ty F.slot_dict_valueiterator_next^wpAny_call_entry F.slot_dict_valueiterator_next ty F.entry_dict_valueiterator_next ?_^F.args_dict_valueiterator_next_1 _;show au^aW^au^au ?_
 first|show au (wpAny_typeNameOfWhole_valiter ty^aW^au^wpAny_fieldsOf ho hf ?_)|show au^wpAny_typeNameOf_valiter ty^aW^au^wpAny_fieldsOf ho hf ?_
 rw[show Builtin.Dict_items.ownsTuple "dict_valueiterator" = false by decide];erw[cK,if_false];change wpAny _ _ (if(Value.ref d==Value.none)=ag then _ else _) _ _ s;rw[if_neg^show Not ((Value.ref d==Value.none)=ag) from lI];show au^aW^au^wpAny_dictEntries hod Cc ?_;rw[if_neg^by simp];show au^aW^au^wpAny_dictEpoch hod Cc ?_;rw[if_neg^by simp];show aW ?_;cases he:es[i]? with
 | some e =>
  erw[show Not ((i:M)<0) by lia,if_false,lg,he];show au ?_
  first|show au (wpAny_typeNameOfWhole_valiter ty^aW^au^wpAny_isOneOf_valiter ty ?_)|show au^wpAny_typeNameOf_valiter ty^aW^au^wpAny_isOneOf_valiter ty ?_
  change wpAny _ _ (setField (¬it) 1 (rawInt ((i:M)+1)) >>= _) _ _ s;let yy:(s.heap.update it^Obj.mapFields (·.setIfInBounds 1 (rawInt ((i:M)+1)))).IsValIter it d (i+1) cn ep :=
   #[_,fz _ ho^jM^eT hf _,(mP ..).trans hc,by rw[eT hf];simp[rawInt]]
  show au^wpAny_setField ho hf (by simp)^au^wpAny_holding ?_;show au^wpAny_isOneOf_valiter (s:={ s with heap:=s.heap.update it (Obj.mapFields (·.setIfInBounds 1 (rawInt ((i:M)+1)))) }) yy.typeIs ?_;show au (wpAny_isOneOf_valiter (s:={ s with heap:=s.heap.update it (Obj.mapFields (·.setIfInBounds 1 (rawInt ((i:M)+1)))) }) yy.typeIs^show wpAny _ _ (pure e.val) _ _ _ from ?_);show aW^aW #[_,Z,aW^hQ e he _ yy (k9 ..)]
 | none =>
  erw[show Not ((i:M)<0) by lia,if_false,lg,he];show au ?_
  first|show au (wpAny_typeNameOfWhole_valiter ty^aW ?_)|show au^wpAny_typeNameOf_valiter ty^aW ?_
  change wpAny _ _ (setField (¬it) 0 .none >>= _) _ _ s;show au^wpAny_setField ho hf (by simp) (SG.sD (show A.in1.handled=aw from hh) λh' e o k he' hc=>au^wpAny_isInstance (T := "StopIteration") (b:=true) #[_,he',hc] isSubtype_stop^aW (hN he h' λb x hb e=>k _ _^(k9 ..).extBut b x hb e))
def LV{v:ae}{Q:J->ap->eL}(hv:s.heap.IsValuesView v d)(x:lQ am d es ep)
  (hQ:Q (¬B) { s with heap:=s.heap.push { cls:=.type "dict_valueiterator", data:=.fields #v[¬d,.int 0 0,.int cn 0,.int ep 0] } }):wpAny (model prog w) A (pyIter^¬v) Q E s:=by
 let#[ov,hov,hcv,hdv]:=id hv;let#[o,ho,hc,hdat]:=id x;show wpAny_pyIter_slot hv.typeIs F.slot_dict_values_iter^wpAny_call_entry F.slot_dict_values_iter hv.typeIs F.entry_dict_values_iter ?_^F.args_dict_values_iter_1 _;unfold Builtin.«dict_values.__iter__»;show au^aW ?_;show au ?_;unfold Builtin.Dict_items.dictOf;show au^wpAny_field hov hdv (x:=¬d) Z^aW ?_;show au ?_;unfold Builtin.Dict_items.newIterator;show au^wpAny_dictEntries ho hdat ?_;show au^wpAny_dictEpoch ho hdat ?_;let hown:Builtin.Dict_items.ownsTuple "dict_valueiterator" = false:=()
 erw[hown,cK,if_false];show wpAny_newObj_type^aW #[_,Z, "dict_valueiterator", _,#[_,jB _ rfl,Z],F.slot_dict_valueiterator_next.lookup,?_];simpa[rawInt] using hQ
def Ht(hh:A.handled=aw)(I d:ae)(UV:d≠I)(es:Array DictEntry)(ep:O):Walks prog w A I [I,d] [I] cn (λi v=>∃e,es[i]?=!e/\v=e.val) (λi h=>h.IsValIter I d i cn ep/\lQ h d es ep) where
 sub:=λb hb=>by simp at hb;simp[hb]
 frame:=λz z z st hk=>#[st.1.at λo e=>hk I (by simp) o e,st.2.at' λo e=>hk d (by simp) o e]
 item:=λi s Q E hi st hQ=>by show AW hh st.1 st.2 (λe e1 h' h1 h2=>hQ _ h' s.toks #[_,e1,Z] #[h1,st.2.at' λo e=>h2.extBut d o UV e] λb o hb e=>h2.extBut b o (λh=>hb^by simp[h]) e) λh=>by rw[ig hi] at h;cases h
 done:=λs Q E st hQ=>AW hh st.1 st.2 (λe h=>by rw[vM^ay _] at h;cases h) λz h' h1=>hQ h' s.toks λb o hb e=>h1 b o (λh=>hb^by simp[h]) e
 self:=λz z z z st hQ=>wpAny_pyIter_valiter st.1 hQ
def Hu{v:ae}{num:O->M}{Q:J->ap->eL}(hh:A.handled=aw)(hv:s.heap.IsValuesView v d)(x:lQ am d es ep)(UV:0<cn)(hn:∀(i:O)(e:DictEntry),es[i]?=!e->∃t,e.val=Value.int (num i) t)
  (h:∀u h' tk,(∃e,es[argBest (λi j=>decide (num i>num j)) (cn-1)]?=!e/\u=e.val)->(∀b o,s.heap.get? b=!o->h'.get? b=!o)->Q u { s with heap:=h',toks:=tk }):
  wpAny (model prog w) A (call (.builtin "max") [¬v]) Q E s:=by
 let#[o,ho,r]:=id x;let hlt:=aO ho;show call_max_walk^LV hv x ?_;show#[_,_,_,_,_,_,_,Z,Ht (A:=A.in1) hh B d (aU hlt) es ep,#[#[_,jB _ rfl,Z,Z],x.at' λo e=>eS _ e],?_,UV,CmpOf.ints_gt num (λi u ⟨e,he,eu⟩=>by let#[t,ht]:=hn i e he;show#[t,by rw[eu,ht]]),λu h' tk hP hk=>?_]
 .intro b hb;rw[fJ];simp at hb;rcases hb with e|e;subst e;show fZ _;subst e;show je hlt
 .show h u h' tk hP λb o e=>hk b o (λhm=>by simp at hm;subst hm;show absurd (aO e)^gK _)^eS _ e
def Hv(hd:(d==sysModules)=bj):
  MeetsIn prog w (Builtin.«dict.values» #[[¬d],[]]) (λz R s=>lQ am d es ep /\
   R (.ok^.ret^¬B) { s with heap:=s.heap.push { cls:=.type "dict_values", data:=.fields #v[¬d] } }) :=
 .of_wp λA R s ⟨hm,h⟩=>by show au ?_;unfold Builtin.Dict.noArgs;show au^wpAny_notOrdered_dict hm.ty ?_;change wpAny _ _ (pure d) _ _ s;show aW ?_;change wpAny _ _ (Builtin.Dict.showsAll d >>= _) _ _ s;unfold Builtin.Dict.showsAll;rw[if_neg (by rw[hd];show lI)];show au^aW ?_;show au^wpAny_newObj_type^aW #[_,Z,h]
end SN
namespace L2
variable {kvs:gZ}
def El(v d:ae):cv->Prop:=λh=>h.IsValuesView v d
section
variable {o f:dr}{ty:TE}
def ae5{Y:St}(I:Inv X X1 Y H s)(h:H d=!.ext (eW X.prog X.w d ep kvs)):
  s.TypeIs (¬d) "dict" /\ (∀b,Value.ref d=¬b->∃ob,s.heap.get? b=!ob/\ob.dict=aw)/\(d==sysModules)=false:=by let#[lo,_,es,rd,_,_]:=I.raw h;show#[rd.ty,λb q=>?_,lo];cases q;let#[ob,h1,h2,_]:=rd;show#[ob,h1,h2.2.1]
def P1(P:de)(w:cw)(Q:VK):V->Hp->Prop:=λx H=>∃d ep kvs,x=¬d/\H d=!.ext (eW P w d ep kvs)/\∀v H',gX H v (.ext (El v d)) H'->Q (¬v) H'
def XF(P:de)(w:cw)(td:TE):TE:=λY H Q=>td Y H^P1 P w Q
def P4(ho:PE X o td)(Pt:attributeBase o "values" ax^eval o ax=eval o ax)(Ps:(TB.endLine==Uf.line)=ag):PE X (.Call (.Attribute o "values" TB) [] [] Uf)^XF bi cq td:=by intro X1 s Y H Q I h;show wpAny_Call_method0_late Pt Ps (dw (ho X1 s Y H _ I h) λu s1 zq=>?_);let#[x,H1,I1,r1,d,ep,kvs,ex,hd,q1]:=zq;subst ex;obtain rfl:u=Value.ref d:=r1;let#[t1,t2,lo]:=ae5 I1 hd;let#[_,_,es,rd,_,_]:=I1.raw hd;show#["dict", _,PySem.F.plainAttrs_dict,PySem.F.slot_dict_values,PySem.F.type_dict_values,t1,t2,xU Z^PySem.evalArgs_none ?_];show call_meetsIn PySem.F.slot_dict_values t1 PySem.F.entry_dict_values (PySem.F.args_dict_values_1 _) (SN.Hv (es:=es) (ep:=ep) lo) #[rd,?_];show#[¬bn,_,I1.laid (a:=bn) (o:=.ext (El s1.heap.objs.size d)) (t':=s1.toks) (λz z q=>eS _ q) (ay _) #[#[_,jB _ rfl,rfl,rfl],#[_,jB _ rfl],λg1 g2 ⟨ob,a1,a2⟩ he=>#[ob,he _ a1,a2]],rfl,q1 _ _ #[I1.hok.fresh^ay _,rfl]]
def XG(P:de)(w:cw):List V->Hp->VK->Prop:=λxs H Q=>∃(v d:ae)(ep:O)(kvs:gZ)(ns:List M),xs=[¬v]/\H v=!.ext (El v d)/\H d=!.ext (eW P w d ep kvs)/\kvs.map (·.2.2)=ns.map V.int/\ns≠[]/\∀m,m∈ns->(∀x∈ns,x<=m)->Q (.int m) H
theorem LW(hc:X.calm=ag):ef X (.builtin "max")^XG bi X.w:=by
 intro X1 s Y H xs us Q I r h;let#[v,d,ep,kvs,ns,Z,hv,hd,en,UV,q]:=h;let#[u,Z,ru]:=vals1 r;cases ru;let#[vv,_,_]:=I.hok v _ hv;let#[lo,z,es,rd,hs,SC]:=I.raw hd;let hl:bo=ns.length:=by have:=congrArg List.length en;simpa using this
 let hpos:0<es.size:=by
  rw[hs,hl];cases ns with
  | nil=>show absurd Z UV
  | cons=>simp
 let hn:∀(i:O)(e:DictEntry),es[i]?=!e->∃t,e.val=Value.int (ns.getD i 0) t:=λi e he=>by
  let hi:i<kvs.length:=by rw[<- hs];show(qj.mp he).1
  let#[u,hu,_,hr]:=SC i _^iR hi;rw[he] at hu;cases hu;let e1:kvs[i].2.2=V.int^ns.getD i 0:=by
   have:(kvs.map (·.2.2))[i]?=(ns.map V.int)[i]?:=by rw[en]
   rw[bJ,bJ,iR hi,iR (show i<ns.length by lia)] at this;rw[xm,iR (show i<ns.length by lia)];show Option.some.inj this
  rw[e1] at hr;show hr
 show SN.Hu (num:=λi=>ns.getD i 0) (I.ok.hd hc) vv rd hpos hn λu h' tk hu k=>?_;let#[e,he,Z]:=hu;let#[b1,b2]:=oJ (λi=>ns.getD i 0) (cn-1);let#[t,ht]:=hn _ _ he;rw[ht];let at_:∀i,i<ns.length->ns[i]?=!ns.getD i 0:=λi hi=>by rw[xm,iR hi];rfl
 show#[.int _,H,I.kept k,#[_,Z],q _ (jd (at_ _ ∅)) λx hx=>?_];let#[i,hi]:=iC.mp hx;let Hm:=(gq hi).1;rw[at_ i Hm] at hi;rw[<- Option.some.inj hi];show b2 i ∅
end
section
variable {o i f:dr}{ty:TE}
def vo(e1:bi=P)(e2:cq=w)(hu:X.A.units+64<cLine)(ho:PE X o td)(hi:PE X i ty)(hs:N2 i):PE X (.Subscript o i pos)^vP (PM P w) td ty:=e1▸e2▸lS hu ho hi hs
end
section
variable {Y:St}{ty:TE}
def akP(h:td Y H^P1 P w Q):XF P w td Y H Q:=h
def aid(hd:H d=!.ext (eW P w d ep kvs))(h:∀v H',gX H v (.ext (El v d)) H'->Q (¬v) H'):P1 P w Q (¬d) H:=#[d,ep,kvs,rfl,hd,h]
def aa8{v:ae}(hv:H v=!.ext (El v d))(hd:H d=!.ext (eW P w d ep kvs))(en:kvs.map (·.2.2)=ns.map V.int)(UV:ns≠[])(h:∀m,m∈ns->(∀x∈ns,x<=m)->Q (.int m) H):XG P w [¬v] H Q:=#[v,d,ep,kvs,ns,rfl,hv,hd,en,UV,h]
end
end L2
namespace MX
section
variable {P:O->J->eL}{St:O->cv->eL}
def nm:(toString "max" ++ toString ".loop" : String) = "max.loop" := by decide
theorem loop(W:Walks prog w A.in1 I fp wr n P St)(bt:O->O->cf)(hcmp:CmpOf prog w A.in1 .Gt P bt)(S:ae)(L9:S∉fp):
  ∀(k j:O)(s:ap)(vb:J)(c:O),n-(j+1)=k->j+1<=n->St (j+1) am->P (argBest bt j) vb ->
  s.heap.get? S=!{ cls:=.type "list", dict:=none,data:=.seq #v[vb,vb] c,slots:=#[] } ->
  (∀v h' tk,P (argBest bt (n-1)) v->(∀b o,b∉wr->b≠S->s.heap.get? b=!o->h'.get? b=!o)->R (.ok^.ret v) { s with heap:=h',toks:=tk }) ->
  codeAny (model prog w) A (.builtin "max.loop" #[[¬I,.none,¬S],kw]) R s:=by
 let hSw:S∉wr:=λh=>L9^W.sub _ h;intro k;induction k with
 | zero =>
  intro j s vb c hk hj TW hPb hS hR;let Sr:j+1=n:=∅;show codeAny_builtin F.entry_max_loop ?_;rw[kL mJ _];show(show wpAny _ A.in1 (seqItems? (¬S) >>= _) _ _ s from au^wpAny_seqItems hS Z ?_);show(show wpAny _ A.in1 (tryCatch (pyNext^¬I) _ >>= _) _ _ s from au^wpAny_tryCatch (W.done s _ _ (Sr▸TW) λh' tk NM=>?_));show(show wpAny _ A.in1 (updateSeq S (λz=>#[]) >>= _) _ _ _ from au^wpAny_updateSeq (NM S _ hSw hS) Z^au^wpAny_letGo^aW ?_);show hR vb _ tk (by rw[<- Sr];show hPb) λb o JQ UU e=>(jC _ _^aR UU).trans^NM b o JQ e
 | succ k ih =>
  intro j s vb c hk hj TW hPb hS hR;let hlt:j+1<n:=∅;show codeAny_builtin F.entry_max_loop ?_;rw[kL mJ _];show(show wpAny _ A.in1 (seqItems? (¬S) >>= _) _ _ s from au^wpAny_seqItems hS Z ?_);show(show wpAny _ A.in1 (tryCatch (pyNext^¬I) _ >>= _) _ _ s from au^wpAny_tryCatch (W.item (j+1) s _ _ hlt TW λv h' tk hP Hw NM=>?_));let LE:=NM S _ hSw hS;show(show wpAny _ A.in1 (tryCatch (holding [v,v] (richCompare .Gt v vb >>= _)) _ >>= _) _ _ _ from au^wpAny_tryCatch^wpAny_holding^au^hcmp (j+1) (argBest bt j) v vb _ _ _ hP hPb ?_);show au^wpAny_holding^wpAny_truthy_bool^au^wpAny_letGo^aW ?_;cases hb:bt (j+1)^argBest bt j with
  | true =>
   erw[if_true];show au^wpAny_updateSeq LE Z^au^wpAny_letGo ?_;rw[nm];show aW #[plainId_quiet mJ _,ih (j+1) _ v _ ∅ hlt (W.frame _ _ _ Hw λb hbf o e=>(jC _ _ (λh:S=b=>L9 (by rw[h];show hbf))).trans e) (by erw[argBest,hb,if_true];show hP) (fz _ LE Z) λv' h'' P5 hP' P6=>?_];show hR v' h'' P5 hP' λb o JQ UU e=>P6 b o JQ UU^(jC _ _^aR UU).trans^NM b o JQ e
  | false =>
   erw[cK,if_false];show au^wpAny_letGo ?_;rw[nm];show aW #[plainId_quiet mJ _,ih (j+1) _ vb c ∅ hlt Hw (by erw[argBest,hb,cK,if_false];show hPb) LE λv' h'' P5 hP' P6=>hR v' h'' P5 hP' λb o JQ UU e=>P6 b o JQ UU^NM b o JQ e]
def first(W:Walks prog w A.in1 I fp wr n P St)(bt:O->O->cf)(hcmp:CmpOf prog w A.in1 .Gt P bt)(S:ae)(L9:S∉fp)(hn:0<n){c:O}(TW:St 0 am)
  (hS:s.heap.get? S=!{ cls:=.type "list", dict:=none,data:=.seq #[] c,slots:=#[] })
  (hR:∀v h' tk,P (argBest bt (n-1)) v->(∀b o,b∉wr->b≠S->s.heap.get? b=!o->h'.get? b=!o)->R (.ok^.ret v) { s with heap:=h',toks:=tk }):
  codeAny (model prog w) A (.builtin "max.loop" #[[¬I,.none,¬S],kw]) R s:=by let hSw:S∉wr:=λh=>L9^W.sub _ h;show codeAny_builtin F.entry_max_loop ?_;rw[kL mJ _];show(show wpAny _ A.in1 (seqItems? (¬S) >>= _) _ _ s from au^wpAny_seqItems hS Z ?_);show(show wpAny _ A.in1 (tryCatch (pyNext^¬I) _ >>= _) _ _ s from au^wpAny_tryCatch (W.item 0 s _ _ hn TW λv h' tk hP Hw NM=>?_));let LE:=NM S _ hSw hS;show(show wpAny _ A.in1 (updateSeq S (λz=>#v[v,v]) >>= _) _ _ _ from au^wpAny_updateSeq LE Z ?_);rw[nm];show aW #[plainId_quiet mJ _,loop W bt hcmp S L9 _ 0 _ v _ rfl hn (W.frame _ _ _ Hw λb hbf o e=>(jC _ _ (λh:S=b=>L9 (by rw[h];show hbf))).trans e) hP (fz _ LE Z) λv' h'' P5 hP' P6=>?_];show hR v' h'' P5 hP' λb o JQ UU e=>P6 b o JQ UU^(jC _ _^aR UU).trans^NM b o JQ e
def none_{d:J}(W:Walks prog w A.in1 I fp wr 0 P St)(S:ae)(L9:S∉fp){c:O}(TW:St 0 am)
  (hS:s.heap.get? S=!{ cls:=.type "list", dict:=none,data:=.seq #[] c,slots:=#[] })
  (hR:∀h' tk,(∀b o,b∉wr->s.heap.get? b=!o->h'.get? b=!o)->R (.ok^.ret d) { s with heap:=h',toks:=tk }):
  codeAny (model prog w) A (.builtin "max.loop" #[[¬I,.none,¬S],[(x,d)]]) R s:=by show codeAny_builtin F.entry_max_loop ?_;rw[kL mJ _];show(show wpAny _ A.in1 (seqItems? (¬S) >>= _) _ _ s from au^wpAny_seqItems hS Z ?_);show(show wpAny _ A.in1 (tryCatch (pyNext^¬I) _ >>= _) _ _ s from au^wpAny_tryCatch (W.done s _ _ TW λh' tk NM=>?_));change wpAny _ A.in1 (rule _ >>= _) _ _ _;show au^wpAny_rule^aW^hR h' tk NM
end
theorem UW{id:String}{b:Builtin}{args:List J}{Q:J->ap->eL}(hk:builtinKind id=aw)(hp:plainId id=ag)(hb:entryFor table id=!b)(ha:argsOk id #[args,kw])
  (hc:wpAny (model prog w) A.in1 (b #[args,kw]) (λfin s'=>match fin with
   | .done f=>(match(Except.ok f:Result) with|.ok (.ret v)=>Q v s'|.ok _=>False|.error e=>E e s')
   | .again c'=>c'.quiet=ag/\codeAny (model prog w) A c' (λr s'=>match r with|.ok (.ret v)=>Q v s'|.ok _=>False|.error e=>E e s') s') E s):wpAny (model prog w) A (call (.builtin id) args kw) Q E s:=by
 show wpAny_call^codeAny_call_builtin hp hb ?_;erw[checkBuiltinCall,hk];cases akR:Manifest.signature? id with
 | none=>show aW hc
 | some sig =>
  let h2:Bind.checkArgs id sig #[args,kw]=pure Unit.unit:=by simpa only[argsOk,akR] using ha
  show(show wpAny _ A.in1 (Bind.checkArgs id sig #[args,kw]) _ _ s from ?_);rw[h2];show aW hc
def LX(a d:J):argsOk "max" #[[a],[("default", d)]]:=by unfold argsOk;kernel_rfl
theorem LY{x d:J}{Q:J->ap->eL}
  (h:wpAny (model prog w) A.in1 (pyIter x) (λit s₂=>∃I fp wr n P St bt,it=¬I/\Walks prog w A.in1 I fp wr n P St/\St 0 s₂.heap/\(∀b∈fp,b<s₂.heap.objs.size)/\CmpOf prog w A.in1 .Gt P bt /\
   ∀v h' tk,(if n=0 then v=d else P (argBest bt (n-1)) v)->(∀b o,b∉wr->s₂.heap.get? b=!o->h'.get? b=!o)->Q v { s₂ with heap:=h',toks:=tk }) E s):
  wpAny (model prog w) A (call (.builtin "max") [x] [("default", d)]) Q E s:=by
 show UW F.kind_max F.plain_max F.entry_max (LX _ _) ?_;show(show wpAny _ A.in1 (Builtin.Builtins.bindParams "max" ["key", "default"] 0 #[[],[("default", d)]] >>= _) _ _ s from ?_);show au^wpAny_of_eq (show Builtin.Builtins.bindParams "max" ["key", "default"] 0 #[[],[("default", d)]]=pure [none,!d] by first|rfl|kernel_rfl) ?_;show au^aW^au (wpAny_mono h (λit s₂ h₂=>?_) λz z e=>e);let#[I,fp,wr,n,P,St,bt,Z,W,TW,hfp,hcmp,hQ]:=h₂;show au^wpAny_newObj_type ?_;let L9:s₂.heap.objs.size∉fp:=λhm=>gK _^hfp _ hm;rw[nm];let Hw:=W.frame 0 s₂.heap (s₂.heap.push { cls:=.type "list", data:=.seq ([]:List J).toArray }) TW λb z o e=>eS _ e;rcases Nat.eq_zero_or_pos n with e|hn
 .subst e;show aW #[plainId_quiet mJ _,none_ W s₂.heap.objs.size L9 Hw (jB _ rfl) λh' tk hk=>?_];show hQ d h' tk (by rw[if_pos Z]) λb o JQ e=>hk b o JQ^eS _ e
 .show aW #[plainId_quiet mJ _,first W bt hcmp s₂.heap.objs.size L9 hn Hw (jB _ rfl) λv h' tk hP hk=>?_];show hQ v h' tk (by rw[if_neg ∅];show hP) λb o JQ e=>hk b o JQ (aU^aO e)^eS _ e
end MX
namespace L2
def JR(K:aC)(vs:List V)(y:V)(H:Hp)(Q:VK):=∃p xs d,vs=[¬p]/\y=.int d/\bI K H p^xs.map V.int/\∀m:M,(xs=[]->m=d)->(xs≠[]->m∈xs/\∀x∈xs,x<=m)->Q (.int m) H
def XH(K:aC)(t:TA)(tv:TE):TE:=λY H Q=>t Y H λvs H1=>tv Y H1 λy H2=>JR K vs y H2 Q
section
variable {v:dr}{p kp:Pos}{t:TA}
theorem UX{Y:St}{vs:List V}{d:J}(hc:X.calm=ag)(I:Inv X X1 Y H s)(r:Vals vs us)(ry:RelV y d)(h:JR dq vs y H Q):
  wpAny (model bi cq) X.A (call (.builtin "max") us [("default", d)]) (EP X X1 Y Q) E s:=by
 let#[p,xs,dd,Z,Z,hS,q]:=h;let#[u,Z,ru]:=vals1 r;cases ru;let#[t0,Z]:=ry;let#[XL,rv,pl,hz]:=I.list hS;let#[ps,Z,e]:=AM rv;let hl:s.heap.IsList p^intItems ps.toArray:=by have:=pl.isList;rw[show(ps.map λp=>Value.int p.1 p.2).toArray=intItems ps.toArray by unfold intItems;simp] at this;show this
 let hsz:(intItems ps.toArray).size=ps.length:=by simp[intItems]
 let P7:ab=ps.length:=by rw[<- e,aq]
 show MX.LY (iter_intList hl λs₂ e2 st hfp hlI=>?_);subst e2;show#[_,_,_,_,_,_,_,Z,Walks.list (A:=X.A.in1) (I.ok.hd hc) _ p hlI^intItems ps.toArray,st,hfp,CmpOf.ints_gt (numAt ps.toArray) (λj j=>intItems_at),λu h' tk hP hk=>?_];rw[hsz] at hP;let kept:=old_kept (s:=s) (l:=p) hk;by_cases h0:ci=0;rw[if_pos h0] at hP;let ex:xs=[]:=List.eq_nil_of_length_eq_zero ∅;subst hP;show#[.int dd,H,I.kept kept,#[t0,Z],q dd (λj=>rfl) λz=>absurd ex z]
 .rw[if_neg h0] at hP;let#[t1,Z]:=intItems_at hP;let#[b1,b2]:=oJ (numAt ps.toArray) (ci-1);let at_:∀i,i<ci->xs[i]?=!numAt ps.toArray i:=λi hi=>by rw[<- e];simp[numAt,iR hi]
  show#[.int _,H,I.kept kept,#[t1,Z],q _ (λz=>?_) λj=>#[jd (at_ _ ∅),λx hx=>?_]];rw[z] at P7;show absurd P7.symm h0
  .let#[i,hi]:=iC.mp hx;let Hm:i<ps.length:=by rw[<- P7];show(gq hi).1
   rw[at_ i Hm] at hi;rw[<- Option.some.inj hi];show b2 i ∅
def UY(hc:X.calm=ag)(hg:Gl X "max")(hm:X.mg "max" = none)(ha:PA X [e] t)(hv:PE X v tv)(he:backTo pos^starEach [e] ax=(false,eval e ax)::backTo pos^starEach [] ax)(TD:(backTo pos^starEach [e] ax).any (·.1)=bj)(Os:(backToKw pos^keywordEach [#[!"default", v,kp]] ax).all (·.1.isSome)=ag)(hkw:(backToKw pos^keywordEach [#[!"default", v,kp]] ax).any (·.1.isNone)=bj)(hfm:(backToKw pos^keywordEach [#[!"default", v,kp]] ax).filterMap (·.1)=[("default" : bc)]):PE X (.Call (.Name "max" p) [e] [#[!"default", v,kp]] pos)^XH dq t tv:=by intro X1 s Y H Q I h;show wpAny_Call_Name_kw^jE I hg hm BT.OL ?_;show callWith_kw (kws:=[#[!"default", v,kp]]) ?_ he TD Os hkw;show dw (ha pos X1 s Y H _ I h) λus s1 zq=>?_;let#[vs,H1,I1,r1,q1]:=zq;show kws_cons (dw (hv X1 s1 Y H1 _ I1 q1) λd s2 zq=>?_);let#[y,H2,I2,ry,q2]:=zq;show kws_nil ?_;rw[hfm];show UX hc I2 r1 ry q2
end
section
variable {Y:St}{t:TA}
def aih(h:t Y H λvs H1=>tv Y H1 λy H2=>JR K vs y H2 Q):XH K t tv Y H Q:=h
def aa9{p:ae}{xs:List M}{d:M}(hS:bI K H p^xs.map V.int)(h:∀m:M,(xs=[]->m=d)->(xs≠[]->m∈xs/\∀x∈xs,x<=m)->Q (.int m) H):JR K [¬p] (.int d) H Q:=#[p,xs,d,Z,Z,hS,h]
end
section
variable {κ:Type} [DecidableEq κ] {knd:HeapKind prog w κ}
end
end L2
namespace SN
end SN
namespace L2
variable {fr:List bc}
section
variable {o:dr}
end
section
variable {Y:St}
end
set_option genInjectivity false in
set_option genSizeOf false in
set_option genSizeOfSpec false in
structure DD (K:aC) (mg:Str->Option Value) (n:Str) (st:Stmt) (ps:List Str) where
 f:Addr
 d:FuncData
 F:Z1 K n n st f d
 b:Binds K d ps []
 m:mg n=!.ref f
set_option genInjectivity false in
set_option genSizeOf false in
set_option genSizeOfSpec false in
structure CI (mg:Str->Option Value) (n:Str) (i:Int) where
 t:Tok
 c:mg n=!.int i t
set_option genInjectivity false in
set_option genSizeOf false in
set_option genSizeOfSpec false in
structure CT (K:aC) (mg:Str->Option Value) (n:Str) (vs:List V) where
 a:Addr
 c:mg n=!.ref a
 q:fj K a vs
section
variable {n:bc}{kV:J}
abbrev P8(n:bc)(st:Stmt)(ps:List bc):=∀(kV SB pm:J)(an:Option ae)(cdv ct:J)(us:List J),dv=ci->bindArgs (PySem.W.fnOf n n (gz st) (fK st) (av st) .none kV SB pm an cdv ct) #[us,[]]=pure^ps.zip us
noncomputable def ae7(X:K.In h)(G:h.Ns mainGlobals mg)(hb:P8 n st ps)(e:PySem.W.nsIn K mainGlobals n=!!.ref f)(l:K.lookup f=some #[oc,od,.func^PySem.W.fnOf n n (gz st) (fK st) (av st) .none kV dc pm an cd ct,sl])
  (c:PySem.W.codeIn K cd n=ag)(k:PySem.W.keepIn K^.ref f=ag):DD K mg n st ps:=#[f,_,BW l c k,(BW l c k).binds hb,kN X G e]
noncomputable def ae8{i:M}{t:Tok}(X:K.In h)(G:h.Ns mainGlobals mg)(e:PySem.W.nsIn K mainGlobals n=!!.int i t):CI mg n i:=#[t,kN X G e]
noncomputable def ae9{vs:List V}{XL:Array J}(X:K.In h)(G:h.Ns mainGlobals mg)(e:PySem.W.nsIn K mainGlobals n=!!.ref a)(l:K.lookup a=some #[.type "tuple", od,.seq XL j,sl])(r:Vals vs XL.toList)(hz:XL.size<=1000):CT K mg n vs:=#[a,kN X G e,fj.mk' l r^Nat.ble_eq.mpr hz]
def DD.bind1(D:DD K mg n st [x])(hb:P8 n st [x])(s:ap)(v:J):BindsTo s D.d #[[v],[]] [(x,v)]:=by let#[_,_,kV,dc,pm,an,cd,ct,_,e,_,_]:=D.F.ex;rw[e];show .of_eq^hb kV dc pm an cd ct [v] Z
end
section
variable {n:bc}{p:Pos}{t:TA}
def aG(D:DD dq X.mg n st ps)(F:bS bi cq dq X.mg X.base fW k D.f D.d ps sp)(r:iW j X.A)(ha:PA X (e::es) t)(hk:k<=j:=by first|decide|omega)(hg:⇑(Gl X n))(hdb:↥((n==("__debug__" : bc))=false))
  (he:⇑(starEach (e::es) ax=(false,eval e ax)::starEach es X.env))(TD:⇑((backTo pos^starEach es ax).any (·.1)=false)):PE X (.Call (.Name n p) (e::es) [] pos) (NS sp [] E0 t) :=
 BN F (r.mono hk) hg D.m D.F.kp D.b .nil jr ha hdb he TD
end
set_option genInjectivity false in
set_option genSizeOf false in
set_option genSizeOfSpec false in
structure DC (K:aC) (mg:Str->Option Value) (n:Str) (C:Addr) where
 m:mg n=!.ref C
 cl:Dh K C
 mz:PySem.W.makesIn K C=true
 kp:PySem.W.keepIn K^.ref C=true
set_option genInjectivity false in
set_option genSizeOf false in
set_option genSizeOfSpec false in
structure DM (K:aC) (C:Addr) (x n:Str) (st:Stmt) (ps:List Str) where
 f:Addr
 d:FuncData
 F:Z1 K x n st f d
 b:Binds K d ps []
 me:Meth K C x f
set_option genInjectivity false in
set_option genSizeOf false in
set_option genSizeOfSpec false in
structure DF (K:aC) (mg:Str->Option Value) (n:Str) (st:Stmt) (ps:List Str) where
 f:Addr
 d:FuncData
 v:Value
 F:TY K n n st f d v
 b:Binds K d ps []
 m:mg n=!.ref f
section
variable {n:bc}{kV:J}
def DC.mk2{qn:bc}(D:DC K mg n C)(Yf:DM K C "__init__" qn st ps):Mk K C Yf.f:=#[D.mz,Yf.me.at_,Yf.me.fn,D.kp]
def afa(X:K.In h)(G:h.Ns mainGlobals mg)(e:PySem.W.nsIn K mainGlobals n=!!.ref C)(c1:PySem.W.plainGet K C Str.empty=ag)(c2:PySem.W.hasDictIn K C=ag)(c3:PySem.W.plainOver K C=ag)(c4:PySem.W.findIn K (¬C) "__setattr__" = !!.builtin "object.__setattr__")
  (c5:PySem.W.makesIn K C=ag)(c6:PySem.W.keepIn K^.ref C=ag):DC K mg n C:=#[kN X G e,#[c1,c2,c3,c4],c5,c6]
def afb(hb:∀(kV SB pm:J)(an:Option ae)(cdv ct:J)(us:List J),dv=ci->bindArgs (PySem.W.fnOf x n (gz st) (fK st) (av st) .none kV SB pm an cdv ct) #[us,[]]=pure^ps.zip us)
  (e:PySem.W.findIn K (¬C) x=!!.ref f)(i:PySem.W.isFn K^.ref f=ag)(l:K.lookup f=some #[oc,od,.func^PySem.W.fnOf x n (gz st) (fK st) (av st) .none kV dc pm an cd ct,sl])
  (c:PySem.W.codeIn K cd n=ag)(k:PySem.W.keepIn K^.ref f=ag):DM K C x n st ps:=#[f,_,BW l c k,(BW l c k).binds hb,#[e,i,k]]
def afc{T:ae}{o:du}{XV:Array J}(X:K.In h)(G:h.Ns mainGlobals mg)(e:PySem.W.nsIn K mainGlobals n=!!.ref f)(l:K.lookup f=some #[oc,od,.func^PySem.W.fnOf n n (gz st) (fK st) (av st) (¬T) kV dc pm an cd ct,sl])
  (c:PySem.W.codeIn K cd n=ag)(k:PySem.W.keepIn K^.ref f=ag)(dl:K.lookup T=!o)(hs:o.data=.seq XV j)
  (hb:∀us:List J,dv=ci->∃g:Option^Array J->Sem^List (bc×J),bindArgs (PySem.W.fnOf n n (gz st) (fK st) (av st) (¬T) kV dc pm an cd ct) #[us,[]]=seqItems? (¬T) >>= g/\g^some XV=pure^ps.zip us):DF K mg n st ps :=
 #[f,_,_,TZ l c k,DQ dl hs Z hb,kN X G e]
end
section
variable {nx bk ct:St->Hp->eL}{Y:St}
end
section
variable {o:dr}{ty:TE}
end
section
variable {Y:St}{t:TA}
end
section
variable {a b:dr}
def bF(i:O)(hN:X.N.Nodup)(he:PE X e te)(hi:⇑(X.N[i]?=!x))(hx:‹Loc X.env.scope x›)(hs:⇑(swapsWith e (!.Name x QP) pos.line ax=pure false))(hf:‹X.fn x=ag\/X.env.scope.names.lookup x=!.local›):
  PS X (.Assign [.Name x QP] e pos)^NF te^gM i:=Zx hN hi hx he hs hf
def d7(i:O)(hN:X.N.Nodup)(hi:⇑(X.N[i]?=!x))(hx:‹Loc X.env.scope x›)(hf:‹X.fn x=ag\/X.env.scope.names.lookup x=!.local›):PG X (.Name x pos)^gM i:=IQ hN hi hx hf
def aF{r:R2}(hr:ZN X r)(ha:PE X a ta)(hb:PE X b tb)(hs:I0 b:=by exact λz z=>rfl):PE X (.Subscript a b pos)^vP r ta tb:=ad4 hr ha hb hs
def bG{op:CmpOp}{r:R2}(ho:lE X (compareOp op) r)(ha:PE X a ta)(hb:PE X b tb)(hm:behindInMarks op b=false:=by exact oA _):PT X (.Compare a [op] [b] pos)^yj^vP r ta tb:=dJ ho ha hb hm
def bQ.cz(x:bc)(fr:List bc)(ix:List O)(nm:List bc)(clos:closureFor scope ax=pure cl)(calm:⇑(X.calm=true))(cell:(∀y∈scope.names,y.2≠.cell)⁻¹)(kind:⇑(scope.kind=.function))
  (names:(∀y∈scope.names,y.2=.local->scope.names.lookup y.1=!.local)⁻¹)(loc:⇑(scope.names.lookup x=!.local))(nd:((x::fr).Nodup)⁻¹)
  (hcl:DJ (λp=>X.env.cells.lookup p.1=!p.2) cl:=by repeat (first|exact trivial|refine⟨rfl,?_⟩))(hnm:⇑(cl.map (·.1)=nm))(Re:(∀z∈scope.names,z.2=.free->z.1∈nm)⁻¹)(XB:⇑(fr.length=ix.length))
  (hfx:DJ (λp=>X.N[p.2]?=!p.1/\X.env.kindOf p.1=!.cell/\(relabel scope ax).names.lookup p.1=!.cell)^fr.zip ix:=by repeat (first|exact trivial|refine⟨⟨rfl,rfl,rfl⟩,?_⟩)):bQ X scope cl x fr ix :=
 bQ.caps calm clos cell kind names loc nd hcl hnm Re XB hfx
def bQ.pz(calm:⇑(X.calm=true))(cell:(∀y∈scope.names,y.2≠.cell)⁻¹)(free:(∀y∈scope.names,y.2≠.free)⁻¹)(kind:⇑(scope.kind=.function))
  (names:(∀y∈scope.names,y.2=.local->scope.names.lookup y.1=!.local)⁻¹)(loc:⇑(scope.names.lookup x=!.local)):bQ X scope [] x [] []:=bQ.plain calm cell free kind names loc
def f6.oz(xs:List bc)(X2:bQ X scope cl x fr ix)(nd:((xs++fr).Nodup)⁻¹):f6 X scope cl xs fr ix:=f6.of X2 nd
def Hx(i:O){y:bc}{py Pi px:Pos}{ST iter:dr}{ifs:List dr}{wi:TI}(hN:X.N.Nodup)(X2:bQ X scope cl x fr ix)(hi:PI X (.Name x px) iter wi)(ht:∀C fp s H,PF (ux X (x::fr) scope cl C fp s H) ifs tt)(he:∀C fp s H,PE (ux X (x::fr) scope cl C fp s H) ST te)(Z8:X.N[i]?=!y)(hsw:swapsWith (.ListComp ST [#[.Name x px,iter,ifs,0]] scope pos) (!.Name y py) Pi.line ax=pure ag)(hy:‹Loc X.env.scope y›)(hs:⇑(∀v,foldedSetIterable iter ax v=pure v))(hf:‹X.fn y=ag\/X.env.scope.names.lookup y=!.local›):
  PS X (.Assign [.Name y py] (.ListComp ST [#[.Name x px,iter,ifs,0]] scope pos) Pi)^DB (Je wi tt te ix) i:=Tw hN Z8 hy X2 hi ht he hsw hs hf
def XI(i:O){y:bc}{py Pi:Pos}{ST iter:dr}{xs:List bc}{ifs:List dr}{wi:TI}(hN:X.N.Nodup)(X2:f6 X scope cl xs fr ix)(hi:PI X tg iter wi)(hg:∀C fp s H,PG (ux X (xs++fr) scope cl C fp s H) tg g)(ht:∀C fp s H,PF (ux X (xs++fr) scope cl C fp s H) ifs tt)(he:∀C fp s H,PE (ux X (xs++fr) scope cl C fp s H) ST te)(Z8:X.N[i]?=!y)(hsw:swapsWith (.ListComp ST [#[tg,iter,ifs,0]] scope pos) (!.Name y py) Pi.line ax=pure ag)(hy:‹Loc X.env.scope y›)(hs:⇑(∀v,foldedSetIterable iter ax v=pure v))(hf:‹X.fn y=ag\/X.env.scope.names.lookup y=!.local›):
  PS X (.Assign [.Name y py] (.ListComp ST [#[tg,iter,ifs,0]] scope pos) Pi)^DB (B4 wi g tt te ix ab) i:=OM hN Z8 hy X2 hi hg ht he hsw hs hf
def aba(i:O){op:Operator}{ti:TIp}(hN:X.N.Nodup)(he:PE X e te)(ho:PIp X op ti)(hi:X.N[i]?=!x)(hx:‹Loc X.env.scope x›)(hf:‹X.fn x=ag\/X.env.scope.names.lookup x=!.local›):
  PS X (.AugAssign (.Name x QP) op e pos)^Zy i te ti:=Zz hN hi hx he ho hf
def AX(n:O){t:Gi}(h:WR X es t)(hc:X.calm=ag)(hn:(assignEach es ax).length=n)(TW:(assignEach es ax).findIdx? (·.1)=aw):PG X (.Tuple es k pos)^ND dq n t:=Gj hc h hn TW
def JS(K:aC)(n:O){t:Gi}(h:WR X es t)(e:dq=K)(hc:X.calm=ag)(hn:(assignEach es ax).length=n)(TW:(assignEach es ax).findIdx? (·.1)=aw):PG X (.Tuple es k pos)^ND K n t:=TX e hc h hn TW
def jJ{a:ae}(hm:X.mg x=!.ref a)(hg:⇑(Gl X x))(hd:↥((x==("__debug__" : bc))=false)):PE X (.Name x pos)^tC^¬a:=IM hg hm Z hd
def AY{n:M}{t:Tok}(hm:X.mg x=!.int n t)(hg:⇑(Gl X x))(hd:↥((x==("__debug__" : bc))=false)):PE X (.Name x pos)^tC^.int n:=IM hg hm #[_,Z] hd
end
section
variable {id:String}{o:dr}{to:TE}{t:TA}
def abb(hK:dq=K)(pa:PlainAttrs T)(slot:Slot T name id)(hty:typeOf^.builtin id=pure^.type "method_descriptor")(hm:MtR X id r)(ho:PE X o to)(ha:PA X (e::es) t)
  (Pt:⇑(attributeBase o name ax^eval o ax=eval o X.env))
  (hfew:⇑(((backTo Uf^starEach (e::es) ax).all (λx=>not x.1)&&(backToKw Uf^keywordEach [] ax).all (λx=>x.1.isSome)
   && decide ((e::es).length+([]:List Keyword).length+(if([]:List Keyword).isEmpty then 0 else 1)<30))=true))
  (Ps:⇑((TB.endLine==Uf.line)=true))(hs:⇑(starEach (e::es) ax=(false,eval e ax)::starEach es X.env))(Iy:⇑((backTo Uf^starEach es ax).any (·.1)=false)):
  PE X (.Call (.Attribute o name TB) (e::es) [] Uf)^tBM K T r to t:=by subst hK;show dW pa slot hty hm ho ha Pt hfew Ps hs Iy
def P9(h:dq=K):MtR X "str.join"^rJoin K:=by subst h;show TF
end
end L2
set_option compiler.extract_closed false
local macro_rules | `(tactic| walk_at "len")=>`(tactic| first|omega|(simp only[aq, aT, ck, List.length_nil, L2.DK] at *;omega)|exact dz rfl)
set_option hygiene false in
local macro_rules | `(tactic| walk_at "sq1") => `(tactic| first | ((with_reducible refine L2.aaQ ?_); walk_at "nx") | ((with_reducible refine L2.GZ (bk := bk2) (ct := ct2) ?_); walk_at "nx") | ((with_reducible refine L2.GZ (bk := bk1) (ct := ct1) ?_); walk_at "nx") | ((with_reducible refine L2.GZ (bk := bk0) (ct := ct0) ?_); walk_at "nx") | ((with_reducible refine L2.aaR ?_); walk_at "nl"; walk_at "nx"))
def L2.az.at{a:PySem.Addr}{o:L2.HO}(e:L2.az H H')(h:H a=!o):H' a=!o:=e _ _ h
def L2.az.trF{H1 H2:L2.Hp}(b:L2.az H1 H2)(a:L2.az H H1):L2.az H H2:=a.trans b
def L2.gX.fst{p:PySem.Addr}{o:L2.HO}(n:L2.gX H p o H'):H p=Option.none:=n.1
def L2.gX.fr2{H1 H2:L2.Hp}{p:PySem.Addr}{o:L2.HO}(n:L2.gX H1 p o H2)(s:L2.az H H1):H p=Option.none:=s.free n.1
def L2.za0{α β:Type}{a:α}{b:β}:a=a/\b=b:=#[Z,Z]
def L2.zb0{α:Type}{a:α}:a=a/\L2.az H H:=#[Z,L2.az.refl _]
def L2.zc0{a b:PySem.Addr}{ys:List L2.V}{R:L2.It->L2.Hp->eL}(hx:L2.dD K H a xs)(hy:L2.dD K H b ys)(h:R (L2.Itz K ag true a b xs ys) H):L2.aaz K R [¬a,¬b] H:=L2.Jp (t1:=true) (t2:=true) hx hy h
def L2.zc1{a b:PySem.Addr}{ys:List L2.V}{R:L2.It->L2.Hp->eL}(hx:L2.dD K H a xs)(hy:L2.bI K H b ys)(h:R (L2.Itz K ag false a b xs ys) H):L2.aaz K R [¬a,¬b] H:=L2.Jp (t1:=true) (t2:=false) hx hy h
def L2.zc2{a b:PySem.Addr}{ys:List L2.V}{R:L2.It->L2.Hp->eL}(hx:L2.bI K H a xs)(hy:L2.dD K H b ys)(h:R (L2.Itz K bj true a b xs ys) H):L2.aaz K R [¬a,¬b] H:=L2.Jp (t1:=false) (t2:=true) hx hy h
def L2.zc3{a b:PySem.Addr}{ys:List L2.V}{R:L2.It->L2.Hp->eL}(hx:L2.bI K H a xs)(hy:L2.bI K H b ys)(h:R (L2.Itz K bj false a b xs ys) H):L2.aaz K R [¬a,¬b] H:=L2.Jp (t1:=false) (t2:=false) hx hy h
local macro_rules | `(tactic| lk%$t)=>if WL.o t then `(tactic| walk_at "go") else WL.u
local macro_rules | `(tactic| k_in%$t)=>if WL.o t then `(tactic| walk_at "start") else WL.u
local macro_rules | `(tactic| walk_at "ic")=>`(tactic| (intro z;cases z))
local macro_rules | `(tactic| walk_at "c5")=>`(tactic| first|exact(λh=>absurd (show(1 : Nat)=0 from h.1) (by decide))|(intro h;simp only[L2.HT.gu] at h;omega))
local macro_rules | `(tactic| walk_at "goq")=>`(tactic| repeat' (first|with_reducible refine L2.aau ?_|with_reducible refine L2.ait ?_|with_reducible refine L2.aiu ?_|walk_at "go1"))
local macro_rules | `(tactic| walk_at "start")=>`(tactic| try dsimp only[L2.Ds, L2.Cx.Zv, L2.Cx.yg])
namespace TG
open PySem L2 PySem.Spec PyProof.Rows
variable {H1 H0:Hp}{p X2:ae}{n a b x s q:M}{most:O}{xs nm:List bc}{r:bv}{vs us:List V}{rs:List bv}{α β:Type}{ps:List (M×M)}{o:HO}{t:HM.fX}{φ:cv->eL}{kvs:gZ}{m:cH}{ks:List HM.bY}{N:bc->eL}{ss:List S}{due:Due}{tl:List (M×Wt)}{g:ae×ae×O×cf}{gs:List (ae×ae×O×cf)}
inductive A3 (a0 a1 a2:Prop):Prop|mk (z:a0) (z:a1) (z:a2)
inductive A4 (a0 a1 a2 a3:Prop):Prop|mk (z:a0) (z:a1) (z:a2) (z:a3)
inductive A5 (a0 a1 a2 a3 a4:Prop):Prop|mk (z:a0) (z:a1) (z:a2) (z:a3) (z:a4)
inductive A6 (a0 a1 a2 a3 a4 a5:Prop):Prop|mk (z:a0) (z:a1) (z:a2) (z:a3) (z:a4) (z:a5)
inductive A7 (a0 a1 a2 a3 a4 a5 a6:Prop):Prop|mk (z:a0) (z:a1) (z:a2) (z:a3) (z:a4) (z:a5) (z:a6)
inductive A8 (a0 a1 a2 a3 a4 a5 a6 a7:Prop):Prop|mk (z:a0) (z:a1) (z:a2) (z:a3) (z:a4) (z:a5) (z:a6) (z:a7)
inductive A10 (a0 a1 a2 a3 a4 a5 a6 a7 a8 a9:Prop):Prop|mk (z:a0) (z:a1) (z:a2) (z:a3) (z:a4) (z:a5) (z:a6) (z:a7) (z:a8) (z:a9)
inductive A13 (a0 a1 a2 a3 a4 a5 a6 a7 a8 a9 LZ a11 a12:Prop):Prop|mk (z:a0) (z:a1) (z:a2) (z:a3) (z:a4) (z:a5) (z:a6) (z:a7) (z:a8) (z:a9) (z:LZ) (z:a11) (z:a12)
inductive E2 {α0 α1:Type} (p:α0->α1->Prop):Prop|mk (x0:α0) (x1:α1) (z:p x0 x1)
inductive E3 {α0 α1 α2:Type} (p:α0->α1->α2->Prop):Prop|mk (x0:α0) (x1:α1) (x2:α2) (z:p x0 x1 x2)
inductive E4 {α0 α1 α2 α3:Type} (p:α0->α1->α2->α3->Prop):Prop|mk (x0:α0) (x1:α1) (x2:α2) (x3:α3) (z:p x0 x1 x2 x3)
inductive E5 {α0 α1 α2 α3 α4:Type} (p:α0->α1->α2->α3->α4->Prop):Prop|mk (x0:α0) (x1:α1) (x2:α2) (x3:α3) (x4:α4) (z:p x0 x1 x2 x3 x4)
inductive E7 {α0 α1 α2 α3 α4 α5 α6:Type} (p:α0->α1->α2->α3->α4->α5->α6->Prop):Prop|mk (x0:α0) (x1:α1) (x2:α2) (x3:α3) (x4:α4) (x5:α5) (x6:α6) (z:p x0 x1 x2 x3 x4 x5 x6)
inductive E8 {α0 α1 α2 α3 α4 α5 α6 α7:Type} (p:α0->α1->α2->α3->α4->α5->α6->α7->Prop):Prop|mk (x0:α0) (x1:α1) (x2:α2) (x3:α3) (x4:α4) (x5:α5) (x6:α6) (x7:α7) (z:p x0 x1 x2 x3 x4 x5 x6 x7)
set_option maxHeartbeats 4000000
noncomputable def top(i:O):Stmt:=PySem.Challenge.pw_turnguard_k75_whole_no_wrong_answer.main.body.getD i^.Pass #[0,0,0,0]
abbrev yU:Stmt:=top 4
abbrev yV:Stmt:=top 5
abbrev sR:Stmt:=top 6
abbrev JT:Stmt:=top 8
abbrev yW:Stmt:=top 9
abbrev sS:Stmt:=top 10
abbrev AZ:Stmt:=top 15
abbrev Em:Stmt:=top 16
abbrev A1:Stmt:=top 19
abbrev sU:Stmt:=top 20
abbrev wc:Stmt:=top 21
abbrev JU:Stmt:=top 22
abbrev JV:Stmt:=top 23
abbrev JW:Stmt:=top 24
abbrev Qa:Stmt:=top 25
abbrev we:Stmt:=top 26
abbrev A2:Stmt:=top 27
abbrev JX:Stmt:=top 28
abbrev Qc:Stmt:=top 31
abbrev Qd:Stmt:=top 33
abbrev yX:Stmt:=top 34
abbrev En:Stmt:=top 35
abbrev wg:Stmt:=top 36
abbrev JY:Stmt:=top 37
abbrev Eo:Stmt:=top 38
abbrev Ep:Stmt:=top 40
abbrev JZ:Stmt:=top 41
abbrev oM:Stmt:=top 42
abbrev A9:Stmt:=top 43
abbrev yY:Stmt:=top 47
abbrev Ba:Stmt:=top 48
abbrev nM:Stmt:=top 49
abbrev Bb:Stmt:=top 50
abbrev Er:Stmt:=top 51
abbrev Bc:Stmt:=top 52
abbrev J0:Stmt:=top 53
abbrev Es:Stmt:=top 54
abbrev J1:Stmt:=top 55
abbrev Bd:Stmt:=top 57
abbrev Qe:Stmt:=top 58
abbrev Qf:Stmt:=top 59
abbrev J2:Stmt:=top 60
abbrev J3:Stmt:=top 61
abbrev J4:Stmt:=top 62
abbrev Et:Stmt:=top 63
abbrev Qg:Stmt:=top 64
abbrev Qh:Stmt:=top 65
abbrev Qi:Stmt:=top 66
abbrev wj:Stmt:=top 67
abbrev Eu:Stmt:=top 68
abbrev Qj:Stmt:=top 69
abbrev Be:Stmt:=top 71
abbrev Ew:Stmt:=top 72
abbrev J5:Stmt:=top 73
abbrev Qk:Stmt:=top 74
abbrev Bf:Stmt:=top 75
abbrev XJ:Stmt:=top 76
abbrev nN:Stmt:=inClass (top 30) 0
abbrev yZ:Stmt:=inClass (top 30) 1
abbrev Cj:Stmt:=inClass (top 30) 2
abbrev Ex:Stmt:=inClass (top 30) 3
abbrev wk:Stmt:=inClass (top 30) 4
abbrev wm:Stmt:=inClass (top 30) 5
abbrev wo:Stmt:=inClass (top 30) 6
abbrev nP:Stmt:=inClass (top 30) 7
abbrev qt:Stmt:=inClass (top 30) 8
abbrev sV:Stmt:=inClass (top 30) 9
def jt:aI ["body", "coming", "found", "statement", "k"] ["body"]^av yU:=by walk_at "sc"
def ju:aI ["program", "seen", "name", "statement", "k"] ["program"]^av yV:=by walk_at "sc"
def Aj:aI ["program"] ["program"]^av sR:=by walk_at "sc"
def Ql:aI ["sign", "one", "other"] ["sign", "one", "other"]^av JT:=by walk_at "sc"
def Ey:aI ["sign", "one", "other"] ["sign", "one", "other"]^av yW:=by walk_at "sc"
def Ak:aI ["sign", "one", "other"] ["sign", "one", "other"]^av sS:=by walk_at "sc"
def Hy:aI ["row", "boxes"] ["row", "boxes"]^av AZ:=by walk_at "sc"
def L1:aI ["row", "boxes"] ["row", "boxes"]^av Em:=by walk_at "sc"
def Hz:aI ["row"] ["row"]^av A1:=by walk_at "sc"
def Al:aI ["row", "part"] ["row", "part"]^av sU:=by walk_at "sc"
def sW:aI ["row", "moved", "numbers"] ["row", "moved"]^av wc:=by walk_at "sc"
def Ez:aI ["row", "boxes"] ["row"]^av JU:=by walk_at "sc"
def Qm:aI ["row"] ["row"]^av JV:=by walk_at "sc"
def y9:aI ["row", "boxes", "found", "side"] ["row", "boxes"]^av JW:=by walk_at "sc"
def jO:aI ["code", "reading", "giving", "ahead", "found", "spot", "coming", "seen", "place"] ["code"]^av Qa:=by walk_at "sc"
def jP:aI ["lists", "found", "some", "thing"] ["lists"]^av we:=by walk_at "sc"
def ko:aI ["code", "found", "place", "row", "way"] ["code"]^av A2:=by walk_at "sc"
def Qn:aI ["code"] ["code"]^av JX:=by walk_at "sc"
def xD:aI ["code", "args", "turns", "most", "due", "machine", "found"] ["code", "args", "turns", "most"]^av Qc:=by walk_at "sc"
def m8:aI ["program", "boxes", "code", "coming", "link", "statement", "blocks"] ["program"]^av Qd:=by walk_at "sc"
def oN:aI ["program", "boxes", "name"] ["program"]^av yX:=by walk_at "sc"
def i6:aI ["block", "place", "behind", "found", "statement"] ["block"]^av En:=by walk_at "sc"
def m9:aI ["statement", "place", "behind", "first", "second"] ["statement", "place", "behind"]^av wg:=by walk_at "sc"
def Qo:aI ["block"] ["block"]^av JY:=by walk_at "sc"
def L3:aI ["statement", "behind", "boxes"] ["statement", "behind", "boxes"]^av Eo:=by walk_at "sc"
def i7:aI ["code", "looked", "firsts", "hardened", "place", "row", "box"] ["code"]^av Ep:=by walk_at "sc"
def EA:aI ["code", "lively"] ["code"]^av JZ:=by walk_at "sc"
def dO:aI ["code", "looked", "firsts", "many", "place", "row"] ["code", "looked"]^av oM:=by walk_at "sc"
def HA:aI ["row", "place"] ["row", "place"]^av A9:=by walk_at "sc"
def kU:aI ["row", "things", "lively", "taken", "given", "onward"] ["row", "things", "lively"]^av yY:=by walk_at "sc"
def qP:aI ["onward", "things", "lively", "found", "way"] ["onward", "things", "lively"]^av Ba:=by walk_at "sc"
def lT:aI ["row", "thing", "taken", "given", "found"] ["row", "thing", "taken", "given"]^av nM:=by walk_at "sc"
def gm:aI ["code", "lively", "found", "place", "row", "things", "thing", "later"] ["code"]^av Bb:=by walk_at "sc"
def L4:aI ["code"] ["code"]^av Er:=by walk_at "sc"
def za:aI ["later", "found"] ["later"]^av Bc:=by walk_at "sc"
def kq:aI ["later", "earlier", "waiting", "ready", "found", "harm", "other"] ["later"]^av J0:=by walk_at "sc"
def pS:aI ["later", "found", "harm", "other"] ["later"]^av Es:=by walk_at "sc"
def EB:aI ["code", "found"] ["code"]^av J1:=by walk_at "sc"
def HB:aI ["_law_script", "_law_k"] ["_law_script", "_law_k"]^av Bd:=by walk_at "sc"
def UZ:aI ["_law_cell", "_law_k"] ["_law_cell", "_law_k"]^av Qe:=by walk_at "sc"
def Ck:aI ["_law_cell", "_law_k", "_law_number", "_law_some"] ["_law_cell", "_law_k"]^av Qf:=by walk_at "sc"
def Qp:aI ["_law_found"] ["_law_found"]^av J2:=by walk_at "sc"
def Qq:aI ["_law_found", "_law_due"] ["_law_found", "_law_due"]^av J3:=by walk_at "sc"
def kr:aI ["_law_cell", "_law_side", "_law_boxes", "_law_kind", "_law_deed"] ["_law_cell"]^av J4:=by walk_at "sc"
def L5:aI ["_law_cell", "_law_k", "_law_p", "_law_many"] ["_law_cell", "_law_k", "_law_p", "_law_many"]^av Et:=by walk_at "sc"
def iK:aI ["_law_cells", "_law_heads_here", "_law_cell", "_law_some", "_law_code_here", "_law_p", "_law_head", "_law_onward"] ["_law_cells"]^av Qg:=by walk_at "sc"
def xE:aI ["_law_cell", "_law_many", "_law_kind", "_law_bit"] ["_law_cell", "_law_many"]^av Qh:=by walk_at "sc"
def U0:aI ["_law_cell"] ["_law_cell"]^av Qi:=by walk_at "sc"
def nc:aI ["_law_cell", "_law_names", "_law_some", "_law_kind"] ["_law_cell", "_law_names"]^av wj:=by walk_at "sc"
def jZ:aI ["_law_opened", "_law_names", "_law_word_here", "_law_name", "_law_first", "_law_block", "_law_less"] ["_law_opened", "_law_names"]^av Eu:=by walk_at "sc"
def pT:aI ["_law_cells", "_law_names", "_law_opened", "_law_cell", "_law_kind", "_law_name", "_law_many"] ["_law_cells", "_law_names"]^av Qj:=by walk_at "sc"
def ng:aI ["_law_code_here", "_law_cell", "_law_place", "_law_row", "_law_onward"] ["_law_code_here", "_law_cell"]^av Be:=by walk_at "sc"
def i8:aI ["_law_script", "_law_cell", "_law_names", "_law_body_here", "_law_code_here", "_law_k"] ["_law_script"]^av Ew:=by walk_at "sc"
def lU:aI ["_law_cells", "_law_many", "_law_least", "_law_turns_here", "_law_step", "_law_cell"] ["_law_cells", "_law_many", "_law_least"]^av J5:=by walk_at "sc"
def Cm:aI ["_law_found", "_law_turns_here", "_law_most", "_law_at", "_law_what_here"] ["_law_found", "_law_turns_here", "_law_most"]^av Qk:=by walk_at "sc"
def HD:aI ["_law_found", "_law_right_here", "_law_turns_here", "_law_least"] ["_law_found", "_law_right_here", "_law_turns_here", "_law_least"]^av Bf:=by walk_at "sc"
def ku:aI ["_law_script", "_law_cell", "_law_code_here", "_law_least", "_law_args_here", "_law_most", "_law_right_here", "_law_cells", "_law_turns_here", "_law_found"] ["_law_script"]^av XJ:=by walk_at "sc"
def vp:aI ["self", "code", "args"] ["self", "code", "args"]^av nN:=by walk_at "sc"
def EC:aI ["self", "side", "k"] ["self", "side", "k"]^av yZ:=by walk_at "sc"
def Cn:aI ["self"] ["self"]^av wk:=by walk_at "sc"
def sX:aI ["self", "what", "bit"] ["self", "what"]^av wm:=by walk_at "sc"
def Co:aI ["self"] ["self"]^av wo:=by walk_at "sc"
def lV:aI ["self", "row"] ["self"]^av nP:=by walk_at "sc"
def oO:aI ["self", "row", "side"] ["self", "row"]^av qt:=by walk_at "sc"
def Am:aI ["self", "to"] ["self", "to"]^av sV:=by walk_at "sc"
set_option genInjectivity false in
set_option genSizeOf false in
set_option genSizeOfSpec false in
structure wu (w:World) (K:aC) (mg:Str->Option Value) where
 oQ:Addr
 wz:mg "BLOCKS_AT" = !(¬oQ)
 jQ:Addr
 sY:fj K jQ [.int 2,.int 3]
 jR:Addr
 sZ:fj K jR [.int 2]
 wA:qo w K oQ [(.inr "if", ¬jQ),(.inr "while", ¬jR)]
set_option genInjectivity false in
set_option genSizeOf false in
set_option genSizeOfSpec false in
structure zb (w:World) (K:aC) (mg:Str->Option Value) where
 qQ:Addr
 zc:mg "NAMES_AT" = !(¬qQ)
 oR:Addr
 wB:fj K oR [.int 1]
 oS:Addr
 wC:fj K oS [.int 1,.int 2]
 oU:Addr
 wD:fj K oU [.int 1,.int 3,.int 4]
 oV:Addr
 wF:fj K oV [.int 1]
 oW:Addr
 wG:fj K oW [.int 1]
 oX:Addr
 wH:fj K oX [.int 1]
 ze:qo w K qQ [(.inr "num", ¬oR),(.inr "copy", ¬oS),(.inr "op", ¬oU),(.inr "out", ¬oV),(.inr "if", ¬oW),(.inr "while", ¬oX)]
set_option genInjectivity false in
set_option genSizeOf false in
set_option genSizeOfSpec false in
structure J6 (w:World) (K:aC) (mg:Str->Option Value) where
 Cp:Addr
 Cq:mg "PARTS" = !(¬Cp)
 tD:Addr
 ED:fj K tD [.str "side", .str "box", .str "value", .str "place"]
 tE:Addr
 EE:fj K tE [.str "side", .str "box", .str "box", .str "place"]
 tF:Addr
 EF:fj K tF [.str "side", .str "sign", .str "box", .str "box", .str "box", .str "place"]
 tG:Addr
 EG:fj K tG [.str "box", .str "place"]
 tH:Addr
 EH:fj K tH [.str "box", .str "place", .str "place"]
 tK:Addr
 EI:fj K tK [.str "box", .str "place"]
 tL:Addr
 EJ:fj K tL [.str "place"]
 tM:Addr
 EK:fj K tM [.str "box"]
 Cr:qo w K Cp [(.inr "num", ¬tD),(.inr "copy", ¬tE),(.inr "op", ¬tF),(.inr "out", ¬tG),(.inr "fork", ¬tH),(.inr "look", ¬tK),(.inr "mark", ¬tL),(.inr "back", ¬tM)]
abbrev Do{K:aC}{mg:bc->Option J}{n:bc}{s:Stmt}{ps:List bc}(P:de)(w:cw)(base:cv)(k:O)(D:DD K mg n s ps)(S:Sp):=bS P w K mg base fW k D.f D.d ps S
set_option genInjectivity false in
set_option genSizeOf false in
set_option genSizeOfSpec false in
structure Txt (w:World) (K:aC) (mg:Str->Option Value) where
 bu:Addr
 jS:DC K mg "Twin" bu
 nh:eV K bu "code"
 ji:eV K bu "sides"
 kB:eV K bu "at"
 iL:eV K bu "marked"
 gA:eV K bu "word"
 nj:eV K bu "sent"
 kC:eV K bu "answer"
 jj:eV K bu "steps"
 jv:DD K mg "in_order" yU ["body"]
 tN:DD K mg "names_of" yV ["program"]
 nq:DD K mg "statements" sR ["program"]
 value:DD K mg "value" JT ["sign", "one", "other"]
 tO:DD K mg "reckoned" yW ["sign", "one", "other"]
 nu:DD K mg "bit_by_bit" sS ["sign", "one", "other"]
 xF:DD K mg "do_deed" AZ ["row", "boxes"]
 Cs:DD K mg "onward" Em ["row", "boxes"]
 tP:DD K mg "ways_of" A1 ["row"]
 i9:DD K mg "numbers_of" sU ["row", "part"]
 pU:DD K mg "to_places" wc ["row", "moved"]
 reads:DD K mg "reads" JU ["row"]
 gives:DD K mg "gives" JV ["row"]
 EL:DD K mg "spots" JW ["row", "boxes"]
 live:DD K mg "live" Qa ["code"]
 pV:DD K mg "each_once" we ["lists"]
 leading:DD K mg "leading" A2 ["code"]
 meets:DD K mg "meets" JX ["code"]
 twin:DF K mg "twin" Qc ["code", "args", "turns", "most"]
 flat:DD K mg "flat" Qd ["program"]
 tQ:DD K mg "boxes_of" yX ["program"]
 vq:DD K mg "linked" En ["block"]
 pW:DD K mg "blocks_of" wg ["statement", "place", "behind"]
 entry:DD K mg "entry" JY ["block"]
 Ct:DD K mg "row_of" Eo ["statement", "behind", "boxes"]
 Cu:DD K mg "harden" Ep ["code"]
 looks:DD K mg "looks" JZ ["code"]
 jT:DD K mg "first_places" oM ["code", "looked"]
 doubled:DD K mg "doubled" A9 ["row", "place"]
 tR:DD K mg "lasts_by" yY ["row", "things", "lively"]
 xH:DD K mg "at_ways" Ba ["onward", "things", "lively"]
 jk:DD K mg "things_behind" nM ["row", "thing", "taken", "given"]
 xJ:DD K mg "lasting" Bb ["code"]
 Cv:DD K mg "delays" Er ["code"]
 xK:DD K mg "lengths" Bc ["later"]
 ended:DD K mg "ended" J0 ["later"]
 turned:DD K mg "turned" Es ["later"]
 delay:DD K mg "delay" J1 ["code"]
 pX:DD K mg "_law_cell_at" Bd ["_law_script", "_law_k"]
 draw:DD K mg "_law_draw" Qe ["_law_cell", "_law_k"]
 word:DD K mg "_law_word" Qf ["_law_cell", "_law_k"]
 whole:DD K mg "_law_whole" J2 ["_law_found"]
 right:DD K mg "_law_right" J3 ["_law_found", "_law_due"]
 heads:DD K mg "_law_heads" J4 ["_law_cell"]
 target:DD K mg "_law_target" Et ["_law_cell", "_law_k", "_law_p", "_law_many"]
 code:DD K mg "_law_code" Qg ["_law_cells"]
 what:DD K mg "_law_what" Qh ["_law_cell", "_law_many"]
 args:DD K mg "_law_args" Qi ["_law_cell"]
 pY:DD K mg "_law_statement" wj ["_law_cell", "_law_names"]
 closed:DD K mg "_law_closed" Eu ["_law_opened", "_law_names"]
 body:DD K mg "_law_body" Qj ["_law_cells", "_law_names"]
 changed:DD K mg "_law_changed" Be ["_law_code_here", "_law_cell"]
 source:DD K mg "_law_source" Ew ["_law_script"]
 turns:DD K mg "_law_turns" J5 ["_law_cells", "_law_many", "_law_least"]
 near:DD K mg "_law_near" Qk ["_law_found", "_law_turns_here", "_law_most"]
 allowed:DD K mg "_law_allowed" Bf ["_law_found", "_law_right_here", "_law_turns_here", "_law_least"]
 law:DD K mg "law" XJ ["_law_script"]
 gO:DM K bu "__init__" "Twin.__init__" nN ["self", "code", "args"]
 dH:DM K bu "box" "Twin.box" yZ ["self", "side", "k"]
 abc:DM K bu "place" "Twin.place" Cj ["self"]
 acU:DM K bu "mark" "Twin.mark" Ex ["self"]
 lW:DM K bu "told" "Twin.told" wk ["self"]
 lX:DM K bu "turn" "Twin.turn" wm ["self", "what"]
 lY:DM K bu "step" "Twin.step" wo ["self"]
 gP:DM K bu "must_cry" "Twin.must_cry" nP ["self"]
 jw:DM K bu "do_row" "Twin.do_row" qt ["self", "row"]
 kD:DM K bu "go_on" "Twin.go_on" sV ["self", "to"]
 anQ:mg "all" = none
 afi:mg "any" = none
 abd:mg "bool" = none
 zf:mg "dict" = none
 gn:mg "enumerate" = none
 XM:mg "int" = none
 iM:mg "isinstance" = none
 dY:mg "len" = none
 oY:mg "list" = none
 Qs:mg "max" = none
 anR:mg "min" = none
 pZ:mg "range" = none
 nv:mg "reversed" = none
 Qt:mg "set" = none
 tS:mg "sorted" = none
 afj:mg "str" = none
 kW:mg "tuple" = none
 Qu:mg "zip" = none
 j0:wu w K mg
 Qv:CI mg "BOTH" 2
 nQ:CT K mg "DEEDS" [.str "num", .str "copy", .str "op"]
 qu:CT K mg "ENDS_OF_MARKS" [.str "mark", .str "out", .str "back"]
 qv:CT K mg "ENDS_OF_SPOTS" [.str "look", .str "out", .str "back"]
 jx:zb w K mg
 iu:J6 w K mg
 wI:CT K mg "SIDES" [.int 0,.int 1]
 L6:CI mg "VALUE_END" 281474976710656
def bX(H H':Hp):=∀b xs,H b=!.tup xs->H' b=!.tup xs
def sT(e:az H H'):bX H H':=λb xs h=>e b _ h
def bX.refl(H:Hp):bX H H:=λz z h=>h
def bX.trans{H2:Hp}(a:bX H H1)(b:bX H1 H2):bX H H2:=λc o h=>b c o^a c o h
def qa{xs:List V}(h:H p=!.lst xs)(o:HO):bX H^upd H p o:=λb ys q=>by rw[cg^cJ q h (by intro z;cases z)];show q
def di{n:O}(h:n<100000):n<sizeLine:=cT h ()
theorem zg{xs:List α}{i:M}(h0:0<=i)(h1:i<ab):∃v,qG xs i=!v/\v∈xs:=by let e:i=((i.toNat:O):M):=∅;let h2:i.toNat<xs.length:=∅;show#[xs[i.toNat],?_,ly h2];let q:qG xs ((i.toNat:O):M)=some xs[i.toNat]:=dM (by simp[h2]);rw[<- e] at q;show q
def U1{i:M}(h0:0<=i)(h1:i<ns.length):∃v,qG (ns.map V.int) i=!.int v:=by let#[v,e,m]:=zg (xs:=ns.map V.int) h0 (by simpa using h1);let#[n,_,Z]:=aQ.mp m;show#[n,e]
def kE{i:M}(h0:0<=i)(h1:i<ns.length):∃v,qG (ns.map V.int) i=!.int v/\v∈ns:=by let#[v,e,m]:=zg (xs:=ns.map V.int) h0 (by simpa using h1);let#[n,hn,Z]:=aQ.mp m;show#[n,e,hn]
def xM{i:M}(h0:0<=i)(h1:i<ab):∃x,qG (xs.map V.str) i=!.str x/\x∈xs:=by let#[v,e,m]:=zg (xs:=xs.map V.str) h0 (by simpa using h1);let#[n,hn,Z]:=aQ.mp m;show#[n,e,hn]
theorem dI(h:0<b):0<=a % b/\a % b<b:=#[Int.emod_nonneg _ ∅,Int.emod_lt_of_pos _ h]
inductive J7(K:aC)(vs:List V)(H:Hp)(Q:VK)(z:XK):Prop|mk(a:Addr)(ns:List Int)(z:vs=[¬a])(z:bI K H a^ns.map V.int)(z:ns.length<=63)(z:∀H',Q (.bl true) H')
instance:Nonempty World:=⟨PySem.W.aWorld 0⟩
def p_(x:Program×World×aC×(Str->Option Value)×Heap):Prop:=∀T:Txt x.2.1 x.2.2.1 x.2.2.2.1,Do x.1 x.2.1 x.2.2.2.2 12 T.law (J7 x.2.2.1)
def w_:=Classical.epsilon λx=>Not (p_ x)
def P_:=w_.1
def w8:=w_.2.1
def K_:=w_.2.2.1
def m_:=w_.2.2.2.1
def b_:=w_.2.2.2.2
seal w_ P_ w8 K_ m_ b_
set_option hygiene false in
local macro_rules | `($d ∩%$t ($n,$s))=>if WL.o t then `(Do P_ w8 b_ $n $d $s) else WL.u
inductive Row where
 | num (d k v q:Int)|copy (d k i q:Int)|op (d:Int) (s:Str) (k i j q:Int)|out (i q:Int)|fork (i q p:Int)|look (i q:Int)|mark (q:Int)|back (i:Int)
noncomputable def Row.key:bv->bc
 | .num .. => "num" | .copy .. => "copy" | .op .. => "op" | .out .. => "out" | .fork .. => "fork" | .look .. => "look" | .mark .. => "mark" | .back .. => "back"
noncomputable def Row.parts:bv->List bc
 | .num ..=>["side", "box", "value", "place"]|.copy ..=>["side", "box", "box", "place"]|.op ..=>["side", "sign", "box", "box", "box", "place"]|.out ..=>["box", "place"]
 | .fork ..=>["box", "place", "place"]|.look ..=>["box", "place"]|.mark ..=>["place"]|.back ..=>["box"]
noncomputable def Row.rest:bv->List V
 | .num d k v q=>[.int d,.int k,.int v,.int q]|.copy d k i q=>[.int d,.int k,.int i,.int q]|.op d s k i j q=>[.int d,.str s,.int k,.int i,.int j,.int q]
 | .out i q=>[.int i,.int q]|.fork i q p=>[.int i,.int q,.int p]|.look i q=>[.int i,.int q]|.mark q=>[.int q]|.back i=>[.int i]
def Row.vals(r:bv):List V:=.str r.key::r.rest
noncomputable def Row.ways:bv->List M
 | .num _ _ _ q=>[q]|.copy _ _ _ q=>[q]|.op _ _ _ _ _ q=>[q]|.out _ q=>[q]|.fork _ q p=>[q,p]|.look _ q=>[q]|.mark q=>[q]|.back _=>[]
noncomputable def signs:List Str:=["+", "-", "*", "/", "<", "=", "&", "|", "^"]
def ja(d:M):=0<=d/\d<3
def fG(d:M):=0<=d/\d<8
def isVal(d:M):=0<=d/\d<281474976710656
def qf(n d:M):=0<=d/\d<n
def Row.ok(n:M):bv->eL
 | .num d k v q=>ja d/\fG k/\isVal v/\qf n q
 | .copy d k i q=>ja d/\fG k/\fG i/\qf n q
 | .op d s k i j q=>ja d/\s∈signs/\fG k/\fG i/\fG j/\qf n q
 | .out i q=>fG i/\qf n q
 | .fork i q p=>fG i/\qf n q/\qf n p
 | .look i q=>fG i/\qf n q
 | .mark q=>qf n q
 | .back i=>fG i
def Row.xN(h:r.ok n):∀q∈r.ways,0<=q/\q<n:=by cases r<;>erw[Row.ok] at h<;>erw[Row.ways,aP,d9,or_false]<;>intro q hq;rw[hq];show h.2.2.2;rw[hq];show h.2.2.2;rw[hq];show h.2.2.2.2.2;rw[hq];show h.2;rcases hq with e|e<;>rw[e];show h.2.1;show h.2.2;rw[hq];show h.2;rw[hq];show h;show hq.elim
def Row.zh(r:bv):r.ways.length<=2:=by cases r<;>simp[Row.ways]
def zj(H:Hp)(v:V)(r:bv):=∃a,v=¬a/\H a=!.tup r.vals
abbrev Rows(H:Hp):List V->List bv->Prop:=Paired^zj H
def zj.same(e:az H H')(h:zj H v r):zj H' v r:=let⟨a,e1,e2⟩:=h;#[a,e1,e _ _ e2]
def zj.fQ(e:bX H H')(h:zj H v r):zj H' v r:=let⟨a,e1,e2⟩:=h;#[a,e1,e _ _ e2]
theorem Rows.same(e:az H H')(h:Rows H vs rs):Rows H' vs rs:=dG (λz z q=>q.same e) h
theorem Rows.fQ(e:bX H H')(h:Rows H vs rs):Rows H' vs rs:=dG (λz z q=>q.fQ e) h
def bw{F:α->β->eL}{xs:List α}{ys:List β}(hp:Paired F xs ys):∀{i:O}{x:α},xs[i]?=!x->∃y,ys[i]?=!y/\F x y:=by
 induction hp with
 | nil=>show λ{i x} h=>by simp at h
 | cons a _ ih =>
  intro i x h;cases i with
  | zero=>cases h;show#[_,Z,a]
  | succ i=>show ih h
def lZ{xs:List α}(hn:xs.Nodup){a:α}(hi:xs[i]?=!a)(hj:xs[j]?=!a):i=j:=by let#[h1,e1]:=gq hi;let#[h2,e2]:=gq hj;let q:=nY.mp hn;rcases Nat.lt_trichotomy i j with h|h|h;show absurd (e1.trans e2.symm)^q i j h1 h2 h;show h;show absurd (e2.trans e1.symm)^q j i h2 h1 h
theorem abe{a:ae}{τ:L2.St}(f:M->V)(hS:bI K_ H a^ns.map V.int)(hz:ns.length<=100000)
  (he:∀x∈ns,∀Q:VK,Q (f x) H->te (some^.int x::τ) H Q)(h:∀p H',gX H p (.lst^ns.map f) H'->Q (¬p) H'):Lp (SD K_ a) Z3 te τ Q H:=by show iI (xs:=ns.map V.int) (λi ys H'=>H'=H/\ys=(ns.take i).map f) #[Z,Z] ?_ ?_ ?_;rintro i ys H' hi ⟨rfl,_⟩;show hS;rintro i x ys H' hx ⟨rfl,rfl⟩;rw[bJ] at hx;let#[z,Ix,Z]:=cU.mp hx;let hi:i<ns.length:=(gq Ix).1;show#[di (by rw[aq,cC];lia),?_];show Oz^Tu ?_;show he z (jd Ix) _ #[Z,?_];rw[b8,Ix,bq];rfl;rintro ys H' ⟨rfl,rfl⟩ p H2 n2;rw[aq,b9] at n2;show h p H2 n2
def U3(a b:O):(a &&& b) % 2=(a % 2)*(b % 2):=by let h:=Nat.and_mod_two_pow (a:=a) (b:=b) (n:=1);erw[Nat.pow_one] at h;rw[h];rcases Nat.mod_two_eq_zero_or_one a with ha|ha<;>rcases Nat.mod_two_eq_zero_or_one b with hb|hb<;>rw[ha,hb]<;>rfl
def J8:O->M->List M
 | 0,_=>[]
 | n+1,a=>(a % 2)::J8 n (a / 2)
def wJ(k:O)(a b:M):Int:=match k with
 | 6=>a*b
 | 7=>a+b-a*b
 | _=>(a+b) % 2
def XN(k:O)(z:M)(p:M×M):Int:=2*z+wJ k p.1 p.2
def jI(k n:O)(a b:M):Int:=(((J8 n a).zip^J8 n b).reverse).foldl (XN k) 0
def iw(k n:O)(a b:M):jI k (n+1) a b=2*jI k n (a / 2) (b / 2)+wJ k (a % 2) (b % 2):=by simp[jI,J8,XN,List.foldl_append]
theorem HE:∀(n a b:O),a<2 ^ n->b<2 ^ n->jI 6 n a b=((a &&& b:O):M):=by
 intro n;induction n with
 | zero =>
  intro a b ha hb;let ea:a=0:=by simpa using ha
  let eb:b=0:=by simpa using hb
  subst ea eb;rfl
 | succ n ih =>
  intro a b ha hb;rw[iw];let h2:2 ^ (n+1)=2*2 ^ n:=by rw[Nat.pow_succ,Nat.mul_comm]
  let h:=ih (a / 2) (b / 2) ∅ ∅;let e1:((a / 2:O):M)=(a:M) / 2:=by simp
  let e2:((b / 2:O):M)=(b:M) / 2:=by simp
  rw[e1,e2] at h;let h3:(a &&& b) / 2=(a / 2) &&& (b / 2):=Nat.and_div_two;let h4:=U3 a b;let h5:(((a % 2)*(b % 2):O):M)=((a:M) % 2)*((b:M) % 2):=by simp
  rw[h];erw[wJ];rw[<- h5,<- h4,<- h3];lia
theorem L7:∀(n:O)(a b:M),0<=a->0<=b->a<2 ^ n->b<2 ^ n->jI 7 n a b=a+b-jI 6 n a b:=by
 intro n;induction n with
 | zero =>
  intro a b ha hb PQ P2;let ea:a=0:=by simp at PQ;lia
  let eb:b=0:=by simp at P2;lia
  subst ea eb;rfl
 | succ n ih =>
  intro a b ha hb PQ P2;let h2:(2:M) ^ (n+1)=2*2 ^ n:=by rw[Int.pow_succ,Int.mul_comm]
  rw[h2] at PQ P2;let h:=ih (a / 2) (b / 2) ∅ ∅ ∅ ∅;rw[iw,iw,h];erw[wJ];generalize a % 2*(b % 2)=t;lia
theorem HF:∀(n:O)(a b:M),0<=a->0<=b->a<2 ^ n->b<2 ^ n->jI 8 n a b=a+b-2*jI 6 n a b:=by
 intro n;induction n with
 | zero =>
  intro a b ha hb PQ P2;let ea:a=0:=by simp at PQ;lia
  let eb:b=0:=by simp at P2;lia
  subst ea eb;rfl
 | succ n ih =>
  intro a b ha hb PQ P2;let h2:(2:M) ^ (n+1)=2*2 ^ n:=by rw[Int.pow_succ,Int.mul_comm]
  rw[h2] at PQ P2;let h:=ih (a / 2) (b / 2) ∅ ∅ ∅ ∅;rw[iw,iw,h];erw[wJ];let IR:a % 2=0\/a % 2=1:=∅;let hb2:b % 2=0\/b % 2=1:=∅;rcases IR with ea|ea<;>rcases hb2 with eb|eb<;>rw[ea,eb]<;>lia
theorem L8(k:O):∀(n:O)(a b:M),0<=jI k n a b/\jI k n a b<2 ^ n:=by
 intro n;induction n with
 | zero=>intro a b;show(by decide:(0:M)<=0/\(0:M)<2 ^ 0)
 | succ n ih =>
  intro a b;let h:=ih (a / 2) (b / 2);rw[iw];let h2:(2:M) ^ (n+1)=2*2 ^ n:=by rw[Int.pow_succ,Int.mul_comm]
  let h3:0<=wJ k (a % 2) (b % 2)/\wJ k (a % 2) (b % 2)<=1:=by let IR:a % 2=0\/a % 2=1:=∅;let hb2:b % 2=0\/b % 2=1:=∅;rcases IR with ea|ea<;>rcases hb2 with eb|eb<;>rw[ea,eb]<;>unfold wJ<;>split<;>decide
  rw[h2];lia
theorem EM{n:O}(h:n<=47):(2:M) ^ n<281474976710656:=by
 let q:(2:O) ^ n<=2 ^ 47:=Nat.pow_le_pow_right () h;let e:((2 ^ n:O):M)=(2:M) ^ n:=by simp
 let e':(2:O) ^ 47=140737488355328:=()
 lia
theorem zk(n:O):(1:M)<=2 ^ n:=by
 let q:1<=(2:O) ^ n:=Nat.one_le_two_pow;let e:((2 ^ n:O):M)=(2:M) ^ n:=by simp
 lia
def zm:O->bc
 | 0 => "+" | 1 => "-" | 2 => "*" | 3 => "/" | 4 => "<" | 5 => "=" | 6 => "&" | 7 => "|" | _ => "^"
def afk(k:O)(a b:M):Int:=match k with
 | 0=>a+b
 | 1=>a-b
 | _=>a*b
def akS(k:O)(a b:M):Int:=match k with
 | 6=>Builtin.bitAnd a b
 | 7=>Builtin.bitOr a b
 | _=>Builtin.bitXor a b
def zo(k:O)(a b:M):Int:=match k with
 | 0=>(a+b) % 281474976710656
 | 1=>(a-b) % 281474976710656
 | 2=>(a*b) % 281474976710656
 | 3=>if b=0 then 0 else a / b
 | 4=>if a<b then 1 else 0
 | 5=>if a=b then 1 else 0
 | 6=>Builtin.bitAnd a b
 | 7=>Builtin.bitOr a b
 | _=>Builtin.bitXor a b
def Val(a:M):=0<=a/\a<281474976710656
def Ma{y:M}(h:Q (.int x) H)(e:x=y):Q (.int y) H:=e▸h
theorem nine(h:k<9):k=0\/k=1\/k=2\/k=3\/k=4\/k=5\/k=6\/k=7\/k=8:=∅
def abf:Sp:=λvs H Q z=>∃(k:O)(a b:M),k<3/\vs=[.str^zm k,.int a,.int b]/\Val a/\Val b/\Q (.int^afk k a b) H
section
variable (T:Txt w8 K_ m_)
theorem EN:T.tO∩(1,abf):=by exists T.tO,Ey,#[k,a,b,hk,rfl,#[ha,PQ],#[hb,P2],q],".?K0-:j12.?K0-:Ny12-:N§12",3;let hk:k=0\/k=1\/k=2:=∅;rcases hk with rfl|rfl|rfl<;>(dsimp only[zm];lk)<;>show q
def afl:Sp:=λvs H Q z=>∃(k:O)(a b:M),6<=k/\k<9/\vs=[.str^zm k,.int a,.int b]/\Q (.int^akS k a b) H
theorem An:T.nu∩(1,afl):=by exists T.nu,Ak,#[k,a,b,hk,NM,rfl,q],".?K0-:NÐ12.?K0-:N'adU 12-:N'uO 12",3;let hk:k=6\/k=7\/k=8:=∅;rcases hk with rfl|rfl|rfl<;>(dsimp only[zm];lk)<;>show q
def U4:Sp:=λvs H Q z=>∃(k:O)(a b:M),k<9/\vs=[.str^zm k,.int a,.int b]/\Val a/\Val b/\∀H',az H H'->Q (.int^zo k a b) H'
theorem Qw:T.value∩(2,U4):=by
 exists T.value,Ql,#[k,a,b,hk,rfl,ha,hb,q],".?f0>AAg-:`/EN +0+1*2ì'T.L6.c .?K0-:ZS¿2FN'Ou 12F.?K0-:ZSÀ12FF.?K0-:Z¨12FF-:/An +0+1*2",3,(by with_unfolding_all rfl);let ha0:=ha.1;let IO:=ha.2;let hb0:=hb.1;let hb1:=hb.2;rcases nine hk with rfl|rfl|rfl|rfl|rfl|rfl|rfl|rfl|rfl<;>(dsimp only[zm];lk)
 .show#[0,a,b,∅,Z,ha,hb,by lk;show q _^by walk_at "same"]
 .show#[1,a,b,∅,Z,ha,hb,by lk;show q _^by walk_at "same"]
 .show#[2,a,b,∅,Z,ha,hb,by lk;show q _^by walk_at "same"]
 .show Ma (q _^by walk_at "same") (by simp[*,zo])
 .show Ma (q _^by walk_at "same") (by simp[*,zo])
 .show Ma (q _^by walk_at "same") (by simp[*,zo])
 .show Ma (q _^by walk_at "same") (by simp[*,zo])
 .show Ma (q _^by walk_at "same") (by simp[*,zo])
 .show Ma (q _^by walk_at "same") (by simp[*,zo])
 .show#[6,a,b,∅,∅,Z,q _^by walk_at "same"]
 .show#[7,a,b,∅,∅,Z,q _^by walk_at "same"]
 .show#[8,a,b,∅,∅,Z,q _^by walk_at "same"]
theorem abg(hk:6<=k)(NM:k<9)(ha:Val a)(hb:Val b):jI k 48 a b=zo k a b:=by
 let U5:(2:M) ^ 48=281474976710656:=()
 let n48:(2:O) ^ 48=281474976710656:=()
 let ea:a=((a.toNat:O):M):=by have:=ha.1;lia
 let eb:b=((b.toNat:O):M):=by have:=hb.1;lia
 let la:a.toNat<2 ^ 48:=by rw[n48];have:=ha.2;lia
 let lb:b.toNat<2 ^ 48:=by rw[n48];have:=hb.2;lia
 let h6:jI 6 48 a b=Builtin.bitAnd a b:=by rw[xo ha.1 hb.1,<- HE 48 _ _ la lb,<- ea,<- eb]
 let hk:k=6\/k=7\/k=8:=∅;rcases hk with rfl|rfl|rfl;show h6
 .rw[L7 48 a b ha.1 hb.1 (by rw[U5];show ha.2) (by rw[U5];show hb.2),h6];show(xq a b).symm
 .rw[HF 48 a b ha.1 hb.1 (by rw[U5];show ha.2) (by rw[U5];show hb.2),h6];change _=Builtin.bitOr a b-Builtin.bitAnd a b;rw[xq];lia
def Qx(hk:k<9)(ha:Val a)(hb:Val b):Val^zo k a b:=by
 let#[a0,a1]:=id ha;let#[b0,b1]:=id hb;let bits:6<=k->Val^zo k a b:=λh6=>by
  rw[<- abg h6 hk ha hb];let q:=L8 k 48 a b;let U5:(2:M) ^ 48=281474976710656:=()
  rw[U5] at q;show q
 rcases nine hk with rfl|rfl|rfl|rfl|rfl|rfl|rfl|rfl|rfl;show dI ();show dI ();show dI ();change Val (if b=0 then 0 else a / b);split;show#[(),()];show#[Int.ediv_nonneg a0 b0,Int.lt_of_le_of_lt (Int.ediv_le_self b a0) a1];change Val (if a<b then 1 else 0);split<;>show#[(),()];change Val (if a=b then 1 else 0);split<;>show#[(),()];show bits ();show bits ();show bits ()
noncomputable def picks(part:bc)(xs:List bc)(ys:List V):List V:=((xs.zip ys).filter λx=>decide (x.1=part)).map (·.2)
theorem HG{part x:bc}{ys:List V}(hx:xs[i]?=!x)(hy:ys[i]?=!y):picks part (xs.take (i+1))^ys.take (i+1)=picks part (xs.take i)^ys.take i++if x=part then[y] else[]:=by let h1:i<xs.length:=(gq hx).1;let h2:i<ys.length:=(gq hy).1;unfold picks;rw[b8,b8,hx,hy,List.zip_append (by rw[cC,cC];lia),lu,bq];congr 1;by_cases e:x=part;simp[e];simp[e]
def EO(r:bv):picks "place" r.parts r.rest=r.ways.map V.int:=by cases r<;>rfl
def J9(r:bv):r.rest.length=r.parts.length:=by cases r<;>rfl
def Bg(r:bv):r.rest.length<=6:=by cases r<;>simp[Row.rest]
def afm(x:V)(xs:List V):fV (x::xs) (!1) aw=xs:=by
 unfold fV;let e:HT.gu (x::xs).length 0^some 1=1:=by rw[show(!(1:M))=!((1:O):M) from Z,HT.iF];simp
 rw[e,HT.jq];simp
def ER(T:Txt w8 K_ m_)(r:bv):∃p,c9 [(.inr "num", ¬T.iu.tD),(.inr "copy", ¬T.iu.tE),(.inr "op", ¬T.iu.tF),(.inr "out", ¬T.iu.tG),(.inr "fork", ¬T.iu.tH),(.inr "look", ¬T.iu.tK),(.inr "mark", ¬T.iu.tL),(.inr "back", ¬T.iu.tM)] (.inr r.key:Key)=!V.ref p/\fj K_ p^r.parts.map V.str:=by cases r;show#[_,Z,T.iu.ED];show#[_,Z,T.iu.EE];show#[_,Z,T.iu.EF];show#[_,Z,T.iu.EG];show#[_,Z,T.iu.EH];show#[_,Z,T.iu.EI];show#[_,Z,T.iu.EJ];show#[_,Z,T.iu.EK]
inductive Mb(K_:aC)(vs:List V)(H:Hp)(Q:VK)(z:XK):Prop|mk(a:Addr)(r:Row)(part:Str)(z:vs=[¬a,.str part])(z:H a=!.tup r.vals)(z:∀p H',az H H'->H p=none->H' p=!.lst^picks part r.parts r.rest->Q (¬p) H')
theorem lF:T.i9∩(1,Mb K_):=by
 exists T.i9,Al,#[a,r,part,rfl,ha,q],"-:Ñ¶TÁ+ÒoÓ<0*p0Q·2[k0ak1q¨021",2,["own", "number"],"own",["part"],[1],["part"],(λz z=>rfl),(show(["own", "number", "part"]:List Str).Nodup from ()),(show(["own", "number", "part"]:List Str).Nodup from ());let#[pp,hpp,cp]:=ER T r;lk;show aeI hpp ?_;lk;ext t H1 n1;let et:fV r.vals (!1) aw=r.rest:=afm _ _;rw[et] at n1 ⊢;let XB:=J9 r;let hsm:=Bg r;show OG (λi zs τ H'=>A3 (az H1 H') (zs=picks part (r.parts.take i)^r.rest.take i) (E2 λx y=>τ=[x,y,!.str part])) ?_ ?_ ?_ ?_ ?_;show#[az.refl _,by simp[picks],_,_,Z];rintro i zs τ H' hi ⟨sm,rfl,x,y,rfl⟩;show#[fj.sq cp,dD.of^sm _ _ n1.self,?_];unfold picks;rw[aq];show bP (j7 _ _) ?_;rw[List.length_zip,cC];lia;rw[aq];lia
 .rintro i x y p zs τ H' H2 hx hy ⟨sm,rfl,x0,y0,rfl⟩ n2;rw[bJ] at hx;let#[x',hx',Z]:=cU.mp hx;let e:=HG (part:=part) hx' hy;lk
  .rename_i he;rw[if_pos he] at e;show#[by walk_at "same", e.symm,_,_,Z]
  .rename_i he;rw[if_neg he,cZ] at e;show#[by walk_at "same", e.symm,_,_,Z]
 .rintro zs τ H' ⟨sm,rfl,x,y,rfl⟩ p H2 n2;show q p H2 (by walk_at "same") (by walk_at "free") ?_;rw[n2.self,aq,XB,Nat.min_self,b9,<- XB,b9]
inductive abh(K_:aC)(vs:List V)(H:Hp)(Q:VK)(z:XK):Prop|mk(a:Addr)(r:Row)(z:vs=[¬a])(z:H a=!.tup r.vals)(z:∀p H',az H H'->H p=none->H' p=!.lst^r.ways.map V.int->Q (¬p) H')
def zp:T.tP∩(2,abh K_):=by exists T.tP,Hz,#[a,r,rfl,ha,q],"-:/lF +0g",1;lk;show#[a,r, "place", rfl,ha,λp H' sm hp e=>?_];rw[EO] at e;show q p H' sm hp e
noncomputable def Row.kX(f:M->M):bv->bv
 | .num d k v q=>.num d k v (f q)|.copy d k i q=>.copy d k i (f q)|.op d s k i j q=>.op d s k i j (f q)|.out i q=>.out i (f q)|.fork i q p=>.fork i (f q) (f p)|.look i q=>.look i (f q)|.mark q=>.mark (f q)|.back i=>.back i
def Row.Mc(f:M->M)(r:bv):(r.kX f).key=r.key:=by cases r<;>rfl
def Row.Me(f:M->M)(r:bv):(r.kX f).rest.length=r.rest.length:=by cases r<;>rfl
def Mf(f:M->M)(r:bv):∀(i:O)(x:bc)(y:V),r.parts[i]?=!x->r.rest[i]?=!y->(x = "place" /\ ∃z∈r.ways,y=.int z/\(r.kX f).rest[i]?=!.int^f z)\/(x ≠ "place" /\ (r.kX f).rest[i]?=!y):=by
 intro i x y hx hy;cases r<;>rcases i with _|_|_|_|_|_|i<;>erw[Row.parts,Row.rest,BE,List.getElem?_cons_succ,List.getElem?_nil,Option.some.injEq,reduceCtorEq] at hx hy
 all_goals subst hx hy
 all_goals first
  | show .inl #[Z,_,by simp[Row.ways],Z,Z]
  | show .inr #[(),Z]
inductive HH(K_:aC)(vs:List V)(H:Hp)(Q:VK)(q:XK):Prop|mk(a m:Addr)(r:Row)(us:List V)(f:Int->Int)(q:vs=[¬a,¬m])(q:H a=!.tup r.vals)(q:H m=!.lst us)(q:(∀z∈r.ways,qG us z=!.int^f z))(q:∀t H',az H H'->H' t=!.tup (r.kX f).vals->Q (¬t) H')
theorem Cw:T.pU∩(1,HH K_):=by
 exists T.pU,sW,#[a,m,r,us,f,rfl,ha,hm,hf,q],".Ô2¶TÁ+ÒoÓ<0*p0Q·2[k0ak1RZK0^!211-:r*WD*<02",3,["part", "number"],"part",["moved"],[1],["moved"],(λj j=>rfl),(show(["part", "number", "moved"]:List Str).Nodup from ()),(show(["part", "number", "moved"]:List Str).Nodup from ()),lP (K:=K_) rfl;let#[pp,hpp,cp]:=ER T r;lk;show aeI hpp ?_;lk;ext t H3 n3;let et:fV r.vals (!1) aw=r.rest:=afm _ _;rw[et] at n3 ⊢;let XB:=J9 r;let hsm:=Bg r;let hml:=Row.Me f r;let hm3:=n3.keep hm;show OG (λi zs τ H'=>A3 (az H3 H') (zs=(r.kX f).rest.take i) (E2 λx y=>τ=[x,y,!.ref m])) ?_ ?_ ?_ ?_ ?_;show#[az.refl _,Z,_,_,Z];rintro i zs τ H' hi ⟨sm,rfl,x,y,rfl⟩;show#[fj.sq cp,dD.of^sm _ _ n3.self,?_];rw[cC];lia;rw[aq];lia
 .rintro i x y p zs τ H' H4 hx hy ⟨sm,rfl,x0,y0,rfl⟩ n4;rw[bJ] at hx;let#[x',hx',Z]:=cU.mp hx;let hm4:H4 m=!.lst us:=n4.keep^sm _ _ hm3;rcases Mf f r i x' y hx' hy with⟨rfl,z,hz,rfl,e⟩|⟨UV,e⟩
  .lk;show cj (bI.of hm4) (hf z hz) ?_;show#[sm.trans n4.same,?_,_,_,Z];rw[b8,e];rfl
  .lk;show#[sm.trans n4.same,?_,_,_,Z];rw[b8,e];rfl
 .rintro zs τ H' ⟨sm,rfl,x,y,rfl⟩ p H4 n4;rw[aq,XB,Nat.min_self,<- XB,<- hml,b9] at n4;let ha4:H4 a=!.tup r.vals:=n4.keep^sm _ _^n3.keep ha;lk;ext l5 H5 n5 l6 H6 n6 l7 H7 n7;show q _ _ ((((n3.same.trans sm).trans n4.same).trans n5.same).trans^n6.same.trans n7.same) ?_;rw[n7.self];change _=!HO.tup (.str (r.kX f).key::(r.kX f).rest);rw[Row.Mc];rfl
noncomputable def Row.kK:bv->List M
 | .num _ k _ _=>[k]|.copy _ k i _=>[k,i]|.op _ _ k i j _=>[k,i,j]|.out i _=>[i]|.fork i _ _=>[i]|.look i _=>[i]|.mark _=>[]|.back i=>[i]
noncomputable def Row.gc:bv->cf
 | .num ..=>true|.copy ..=>true|.op ..=>true|_=>false
noncomputable def Row.sd:bv->M
 | .num d _ _ _=>d|.copy d _ _ _=>d|.op d _ _ _ _ _=>d|_=>2
def Bh(r:bv):picks "box" r.parts r.rest=r.kK.map V.int:=by cases r<;>rfl
def qR(h:r.ok n):∀b∈r.kK,0<=b/\b<8:=by cases r<;>erw[Row.ok] at h<;>erw[Row.kK,aP,d9,or_false]<;>intro b hb;rw[hb];show h.2.1;rcases hb with e|e<;>rw[e];show h.2.1;show h.2.2.1;rcases hb with e|e|e<;>rw[e];show h.2.2.1;show h.2.2.2.1;show h.2.2.2.2.1;rw[hb];show h.1;rw[hb];show h.1;rw[hb];show h.1;show hb.elim;rw[hb];show h
def U6(r:bv):r.kK.length<=3:=by cases r<;>simp[Row.kK]
abbrev cA(H:Hp):List V->List (M×M)->Prop:=Paired λv p=>∃a,v=¬a/\H a=!.tup [.int p.1,.int p.2]
def cA.same(e:az H H')(h:cA H vs ps):cA H' vs ps:=dG (λ_ _ ⟨a,h1,h2⟩=>#[a,h1,e _ _ h2]) h
def cA.fQ(e:bX H H')(h:cA H vs ps):cA H' vs ps:=dG (λ_ _ ⟨a,h1,h2⟩=>#[a,h1,e _ _ h2]) h
noncomputable def iN(r:bv)(s:M):Bool:=not r.gc||decide (r.sd=s)||decide (r.sd=2)
noncomputable def ny(r:bv)(bs:List M):List (M×M):=[0,1].flatMap λs=>if iN r s then(SN.f9 bs).map λb=>(s,b) else[]
def xO(r:bv):z9 (.str r.key) [.str "num", .str "copy", .str "op"]=r.gc:=by
 let k:∀x∈(["num", "copy", "op"]:List bc),z9 (.str x) [.str "num", .str "copy", .str "op"]=true:=()
 let n:∀x∈(["out", "fork", "look", "mark", "back"]:List bc),z9 (.str x) [.str "num", .str "copy", .str "op"]=false:=()
 cases r<;>first|show k _ (by simp[Row.key])|show n _ (by simp[Row.key])
def U7(h:r.gc=ag):qG r.vals 1=!.int r.sd:=by cases r<;>first|rfl|cases h
def U8(d s:M):z9 (.int d) [.int s,.int 2]=(decide (d=s)||decide (d=2)):=by erw[z9,lq,List.any_nil,Bool.or_false,Tq];rw[show(s==d)=decide (d=s) from by rw[Bool.beq_comm];rfl,show((2:M)==d)=decide (d=2) from by rw[Bool.beq_comm];rfl]
def HJ(r:bv)(bs:List M)(h:([0,1]:List M)[i]?=!s):(([0,1]:List M).take (i+1)).flatMap (λs=>if iN r s then(SN.f9 bs).map λb=>(s,b) else[])=(([0,1]:List M).take i).flatMap (λs=>if iN r s then(SN.f9 bs).map λb=>(s,b) else[])++if iN r s then(SN.f9 bs).map λb=>(s,b) else[]:=by rw[b8,h,xY];simp
def mh(ns:List M):(SN.f9 ns).length<=8:=by unfold SN.f9;rw[aq];show bP (j7 ..) (by simp)
def kF{F:α->β->eL}{xs:List α}{ys:List β}{xs':List α}{Sc:List β}(h:Paired F xs ys)(h':Paired F xs' Sc):Paired F (xs++xs') (ys++Sc):=by
 induction h with
 | nil=>show h'
 | cons a _ ih=>show .cons a ih
inductive Ka(vs:List V)(H:Hp)(Q:VK)(z:XK):Prop|mk(a b:Addr)(r:Row)(bs:List Int)(z:vs=[¬a,¬b])(z:H a=!.tup r.vals)(z:H b=!.lst^bs.map V.int)(z:(∀n∈bs,0<=n/\n<8))(z:bs.length<=3)(z:∀(l:Addr)(us:List V)(H':Hp),az H H'->H l=none->H' l=!.lst us->cA H' us^ny r bs->Q (¬l) H')
theorem ES:T.EL∩(1,Ka):=by
 exists T.EL,y9,#[a,b,r,bs,rfl,ha,hb,SJ,hbl,q],".=2P.LíoÕB3-?XzsÖ<0©ªf<0>+3*¸-Gt2*hTH¹!*u!ÂÃ*1R>+1*0-:2",4,(by with_unfolding_all rfl),(by with_unfolding_all rfl),"box",["side"],[3],["side"],yL rfl,AR rfl;let cd:=T.nQ.q;let cs:=T.wI.q;lk;ext fo H1 n1;let XO:=n1.1;let afo:=n1.self;let s1:=n1.same;clear n1;show f_tup (xs:=[.int 0,.int 1]) (λi Y' H'=>E2 λx us=>A4 (Y'=[!.ref a,!.ref b,!.ref fo,x]) (az H H') (H' fo=!.lst us)^cA H' us ((([0,1]:List M).take i).flatMap λs=>if iN r s then(SN.f9 bs).map λb=>(s,b) else[])) ?_ ?_ ?_ ?_;show#[none,[],Z,s1,afo,.nil];rintro i Y' H' _ ⟨x,us,rfl,s',_⟩;show fj.sq cs
 .rintro i x Y' H2 hx ⟨x0,us,rfl,s2,zu,uT⟩;obtain⟨s,hs,rfl⟩:∃s,([0,1]:List Int)[i]?=some s/\x=.int s:=by
   match i,hx with
   | 0,hx=>cases hx;show#[0,Z,Z]
   | 1,hx=>cases hx;show#[1,Z,Z]
  let step:=HJ r bs hs;let zw:dv<=16:=by
   let h1:=uT.length;rw[h1];let h8:=mh bs
   match i,hs with
   | 0,_=>show aV _
   | 1,_ =>
    change(([0]:List M).flatMap _).length<=16;rw[List.flatMap_singleton];split;rw[aq];lia;show aV _
  clear afo s1;show ajO ?_;show aeT ?_;intro kt0 kf0 abi Qy;let hK:∀H',az H2 H'->H' fo=!.lst us->iN r s=ag->kt0 H':=λH3 s3 tT U9=>by
   show abi _ ?_;clear abi Qy;rw[U9,if_pos Z] at step;let hb3:=s3 _ _^s2 _ _ hb;let Mg:=uT.same s3;lk;show aaV (bI.of hb3) SJ ∅ ?_;intro p4 H4 n4;lk;show JG n4.self SJ ?_;intro p5 H5 n5;lk;show iI (xs:=(SN.f9 bs).map V.int) (λj ys H'=>az H5 H'/\cA H' ys (((SN.f9 bs).take j).map λb=>(s,b))) #[az.refl _,.nil] ?_ ?_ ?_;rintro j ys H' _ ⟨s',_⟩;show bI.of^s' _ _ n5.self
   .rintro j x ys H6 hx ⟨s6,hys⟩;rw[bJ] at hx;let#[y,hy,Z]:=cU.mp hx;let Nw:=hys.length;rw[aq,cC] at Nw;let h8:=mh bs;show#[di ∅,?_];lk;ext t7 H7 n7;show#[s6.trans n7.same,?_];rw[b8,hy,bq];show eU (hys.same n7.same) #[t7,Z,n7.self]
   rintro ys H6 ⟨s6,hys⟩ p7 H7 n7;rw[aq,b9] at hys;let Nw:=hys.length;rw[aq] at Nw;let h8:=mh bs;let abj:=n7.keep^s6 _ _^n5.keep^n4.keep tT;let s37:=((n4.same.trans n5.same).trans s6).trans n7.same;let akT:=Mg.same s37;let abl:=hys.same n7.same;let hp7:=n7.self;let npf:fo≠p7:=aH (s6 _ _^n5.keep^n4.keep tT) n7.1;let s07:=(s2.trans s3).trans s37;clear n4 n5 s6 n7 hys Mg tT hb3 s37;lk;ext H8 p8;let tt:bX H7 H8:=λb xs e=>p8.keep (cJ e abj (by intro z;cases z)) e;show#[_,_,Z,p8.same s07 XO,p8.self,?_];rw[step];show kF (akT.fQ tt)^abl.fQ tt
  clear abi;let hN:∀H',az H2 H'->H' fo=!.lst us->iN r s=bj->kf0 H':=λH3 s3 tT U9=>by show Qy _ ?_;clear Qy;rw[U9] at step;lk;show#[_,_,Z,s2.trans s3,tT,?_];rw[step];simpa using uT.same s3
  clear Qy uT step;let IR:=s2 _ _ ha;let hdi:=xO r;lk;rw[hdi];cases Cc:r.gc with
  | false =>
   erw[Bool.not_false,if_true];show hK H2 (az.refl _) zu (by unfold iN;rw[Cc];rfl)
  | true =>
   erw[g6,cK,if_false];lk;show rX (dD.of IR) (U7 Cc) ?_;lk;ext t4 H4 n4;let esd:z9 (.int r.sd) [.int s,.int 2]=iN r s:=by rw[U8];unfold iN;rw[Cc];rfl
   rw[esd];cases hsr:iN r s with
   | true=>rw[if_pos Z];show hK H4 n4.same (n4.keep zu) hsr
   | false=>rw[if_neg ()];show hN H4 n4.same (n4.keep zu) hsr
 .rintro Y' H2 ⟨x0,us,rfl,s2,zu,uT⟩;lk;show q fo us H2 s2 XO zu uT
def Row.wK(r:bv):List Int:=if r.gc then r.kK.drop 1 else r.kK
def eX(r:bv):List (M×M):=ny r r.wK
noncomputable def bW(r:bv):List (M×M):=if r.gc then ny r^r.kK.take 1 else[]
def Cy:∀b∈r.wK,b∈r.kK:=λb hb=>by unfold Row.wK at hb;split at hb;show List.mem_of_mem_drop hb;show hb
theorem Va(r:bv):r.wK.length<=3:=by have:=U6 r;unfold Row.wK;split;rw[yc];lia;show this
inductive Vb(vs:List V)(H:Hp)(Q:VK)(z:XK):Prop|mk(a:Addr)(r:Row)(n:Int)(z:vs=[¬a])(z:H a=!.tup r.vals)(z:r.ok n)(z:∀(l:Addr)(us:List V)(H':Hp),az H H'->H l=none->H' l=!.lst us->cA H' us^eX r->Q (¬l) H')
def ET:T.reads∩(2,Vb):=by
 exists T.reads,Ez,#[a,r,n,rfl,ha,hok,q],".=1/lF +0g-:/ES +0*Zf<0©«1Q1",2,(by with_unfolding_all rfl);let cd:=T.nQ.q;let hdi:=xO r;lk;show#[a,r, "box", rfl,ha,λp H1 s1 fp hp=>?_];rw[Bh] at hp;let IO:=s1 _ _ ha;let fin:∀(c:ae)(H2:Hp),az H H2->H2 a=!.tup r.vals->H2 c=!.lst^r.wK.map V.int->Ka [¬a,¬c] H2 Q E0:=λc H2 s2 IR hc=>#[a,c,r,r.wK,Z,IR,hc,λb hb=>qR hok b^Cy b hb,Va r,λl us H3 s3 fl hl uT=>q l us H3 (s2.trans s3) (s2.free fl) hl uT];lk;rw[hdi];cases Cc:r.gc with
 | true =>
  rw[if_pos Z];lk;ext c H2 n2;let ec:fV (r.kK.map V.int) (!1) aw=r.wK.map V.int:=by unfold Row.wK;rw[Cc,if_pos Z];cases r<;>first|rfl|cases Cc
  rw[ec] at n2;show fin c H2 (s1.trans n2.same) (n2.keep IO) n2.self
 | false =>
  rw[if_neg ()];lk;show fin p H1 s1 IO (by unfold Row.wK;rw[Cc];show hp)
inductive Vc(vs:List V)(H:Hp)(Q:VK)(z:XK):Prop|mk(a:Addr)(r:Row)(n:Int)(z:vs=[¬a])(z:H a=!.tup r.vals)(z:r.ok n)(z:∀(l:Addr)(us:List V)(H':Hp),az H H'->H l=none->H' l=!.lst us->cA H' us^bW r->Q (¬l) H')
theorem EU:T.gives∩(2,Vc):=by
 exists T.gives,Qm,#[a,r,n,rfl,ha,hok,q],"-:Zf<0©/ES +0*l/lF +0gQP",1,(by with_unfolding_all rfl);let cd:=T.nQ.q;let hdi:=xO r;lk;rw[hdi];cases Cc:r.gc with
 | true =>
  rw[if_pos Z];lk;show#[a,r, "box", rfl,ha,λp H1 s1 fp hp=>?_];rw[Bh] at hp;let IO:=s1 _ _ ha;lk;ext c H2 n2;let ec:fV (r.kK.map V.int) aw^some 1=(r.kK.take 1).map V.int:=by cases r<;>rfl
  rw[ec] at n2;show#[a,c,r,r.kK.take 1,Z,n2.keep IO,n2.self,λb hb=>qR hok b^List.mem_of_mem_take hb,by rw[cC];lia,λl us H3 s3 fl hl uT=>q l us H3 ((s1.trans n2.same).trans s3) ((s1.trans n2.same).free fl) hl ?_];unfold bW;rw[Cc];show uT
 | false =>
  rw[if_neg ()];lk;ext l H1 n1;show q l [] H1 n1.same n1.1 n1.self ?_;unfold bW;rw[Cc];show .nil
inductive eE (rs:List Row) (p:Int×Int):Nat->Prop
 | here {k:Nat} {r:Row} (h:rs[k]?=!r) (m:p∈eX r):eE rs p k
 | on {k q:Nat} {r:Row} (h:rs[k]?=!r) (m:p∉bW r) (w8:((q:Nat):Int)∈r.ways) (l:eE rs p q):eE rs p k
def eE.lt{rs:List bv}{p:M×M}{k:O}(h:eE rs p k):k<rs.length:=by
 cases h with
 | here h _=>show(gq h).1
 | on h _ _ _=>show(gq h).1
def eE.read{p:M×M}(h:eE rs p k):∃r∈rs,p∈eX r:=by
 induction h with
 | here h m=>show#[_,jd h,m]
 | on _ _ _ _ ih=>show ih
def EV{p:M×M}{S:O->eL}(h1:∀k r,rs[k]?=!r->p∈eX r->S k)(h2:∀(k q:O) r,rs[k]?=!r->p∉bW r->((q:O):M)∈r.ways->S q->S k):∀k,eE rs p k->S k:=by
 intro k h;induction h with
 | here h m=>show h1 _ _ h m
 | on h m w8 _ ih=>show h2 _ _ _ h m w8 ih
def isLive(rs:List bv)(k:O)(p:M×M):Bool:=@decide (eE rs p k)^Classical.propDecidable _
def nA{p:M×M}:isLive rs k p=ag↔eE rs p k:=by unfold isLive;show @decide_eq_true_iff _^Classical.propDecidable _
noncomputable def eF:List (M×M):=[(0,0),(0,1),(0,2),(0,3),(0,4),(0,5),(0,6),(0,7),(1,0),(1,1),(1,2),(1,3),(1,4),(1,5),(1,6),(1,7)]
def kY(rs:List bv)(k:O):List (M×M):=eF.filter^isLive rs k
def EW:eF.Pairwise (λp q=>SN.rk p<SN.rk q):=()
theorem EX{p:M×M}(h1:p.1=0\/p.1=1)(h2:0<=p.2/\p.2<8):p∈eF:=by let#[a,b]:=p;dsimp only at h1 h2;let hb:b=0\/b=1\/b=2\/b=3\/b=4\/b=5\/b=6\/b=7:=∅;rcases h1 with rfl|rfl<;>rcases hb with rfl|rfl|rfl|rfl|rfl|rfl|rfl|rfl<;>decide
def EY{bs:List M}(hb:∀b∈bs,0<=b/\b<8){p:M×M}(h:p∈ny r bs):p∈eF:=by unfold ny at h;let#[s,hs,h]:=lA.mp h;split at h;let#[b,hb1,Z]:=aQ.mp h;show EX ?_^hb b^(SN.pR hb b).mp hb1;erw[aP,d9,or_false] at hs;show hs;show nomatch h
def reads_in(h:r.ok n){p:M×M}(hp:p∈eX r):p∈eF:=EY (λb hb=>qR h b^Cy b hb) hp
theorem Kc:∀{xs ys:List (M×M)},xs.Pairwise (λp q=>SN.rk p<SN.rk q)->ys.Pairwise (λp q=>SN.rk p<SN.rk q)->(∀p,p∈xs↔p∈ys)->xs=ys
 | [],[],_,_,_=>rfl
 | [],y::ys,_,_,h=>absurd ((h y).mpr^by simp) (by simp)
 | x::xs,[],_,_,h=>absurd ((h x).mp^by simp) (by simp)
 | x::xs,y::ys,hx,hy,h=>by
  rw[uI] at hx hy;let e:x=y:=by rcases aP.mp ((h x).mp^by simp) with e|h1;show e;rcases aP.mp ((h y).mpr^by simp) with e|h2;show e.symm;let a1:=hy.1 x h1;let a2:=hx.1 y h2;lia
  subst e;congr 1;show Kc hx.2 hy.2 λp=>#[λhp=>?_,λhp=>?_];rcases aP.mp ((h p).mp^by simp[hp]) with e|h1;have:=hx.1 p hp;rw[e] at this;lia;show h1;rcases aP.mp ((h p).mpr^by simp[hp]) with e|h1;have:=hy.1 p hp;rw[e] at this;lia;show h1
def Vd(hok:∀r∈rs,r.ok n){qs:List (M×M)}(hup:qs.Pairwise (λp q=>SN.rk p<SN.rk q))(hm:∀p,p∈qs↔∃r∈rs,p∈eX r)(k:O):qs.filter^isLive rs k=kY rs k:=by show Kc (hup.sublist List.filter_sublist) (EW.sublist List.filter_sublist) λp=>?_;rw[fT];unfold kY;rw[fT];show#[λ⟨h1,h2⟩=>#[?_,h2],λ⟨h1,h2⟩=>#[(hm p).mpr (nA.mp h2).read,h2]];let#[r,hr,hp]:=(hm p).mp h1;show reads_in (hok r hr) hp
def oZ(rs:List bv)(k:O):(kY rs k).length<=16:=bP (j7 _ _) ()
theorem nR{α:Type}[DecidableEq α]:∀{xs ys:List α},xs.Nodup->(∀x∈xs,x∈ys)->ab<=ce
 | [],_,_,_=>aV _
 | x::xs,ys,h,q=>by rw[iU] at h;let hx:=q x (by simp);have:=nR (ys:=ys.erase x) h.2 λy hy=>(List.mem_erase_of_ne (λ(e:y=x)=>h.1 (by rw[<- e];show hy))).mpr (q y^by simp[hy]);rw[List.length_erase_of_mem hx] at this;let hp:=List.length_pos_of_mem hx;rw[ck];lia
theorem afp{p q:M×M}(h:SN.rk p<SN.rk q):p≠q:=λe=>by rw[e] at h;lia
def Qz(p:M×M):putK (ps.map λp=>(Aa p,V.bl ag)) (Aa p)^.bl ag=(if p∈ps then ps else ps++[p]).map λp=>(Aa p,V.bl ag):=by
 let hany:((ps.map λp=>(Aa p,V.bl ag)).any λkv=>decide (kv.1=Aa p))=decide (p∈ps):=by
  induction ps with
  | nil=>rfl
  | cons x ps ih =>
   rw[cN,lq,ih];by_cases e:x=p;simp[e];let e1:Not (Aa x=Aa p):=λz=>e^UI z;let e2:Not (p=x):=λz=>e z.symm;simp[e1,e2]
 unfold putK;rw[hany];by_cases h:p∈ps;rw[if_pos^decide_eq_true h,if_pos h,gI];show List.map_congr_left λx q=>?_;change(if Aa x=Aa p then(Aa x,V.bl ag) else(Aa x,V.bl ag))=_;split<;>rfl;rw[if_neg^by simpa using h,if_neg h,bq];rfl
noncomputable def cnt(rs:List bv)(j:O):Nat:=(rs.map λr=>r.ways.count (j:M)).sum
def QA(h:rs[i]?=!r)(j:O):cnt (rs.take (i+1)) j=cnt (rs.take i) j+r.ways.count (j:M):=by unfold cnt;rw[b8,h,bq,List.sum_append];simp
def Led(rs:List bv)(i j:O)(x:M):=∃k r,k<i/\x=((k:O):M)/\rs[k]?=!r/\((j:O):M)∈r.ways
theorem Led.succ(h:rs[i]?=!r):Led rs (i+1) j x↔Led rs i j x\/(x=((i:O):M)/\((j:O):M)∈r.ways):=by constructor;rintro⟨k,r',h1,h2,h3,h4⟩;by_cases e:k=i;subst e;rw[h] at h3;cases h3;show .inr #[h2,h4];show .inl #[k,r',∅,h2,h3,h4];rintro(⟨k,r',h1,h2,h3,h4⟩|⟨h1,h2⟩);show#[k,r',∅,h2,h3,h4];show#[i,r,∅,h1,h,h2]
def zx(H:Hp)(rs:List bv)(as:List ae):=∀(j:O) a,as[j]?=!a->∃l:List M,H a=!.lst^l.map V.int/\d4<=2*bp/\∀x,x∈l↔Led rs bp j x
def afq(H:Hp)(rs:List bv)(as:List ae):=∀(j:O) a,as[j]?=!a->∃l:List M,H a=!.lst^l.map V.int/\d4=cnt rs j
def zx.same{as:List ae}(e:az H H')(h:zx H rs as):zx H' rs as:=λj a ha=>by let#[l,h1,h2]:=h j a ha;show#[l,e _ _ h1,h2]
inductive Ve(K_:aC)(vs:List V)(H:Hp)(Q:VK)(z:XK):Prop|mk(p:Addr)(us:List V)(rs:List Row)(z:vs=[¬p])(z:H p=!.lst us)(z:Rows H us rs)(z:(∀r∈rs,r.ok rs.length))(z:rs.length<=2000)(z:∀f H' (as:List Addr),az H H'->H' f=!.lst^as.map V.ref->as.length=rs.length->zx H' rs as->afq H' rs as->Q (¬f) H')
theorem wL:T.leading∩(3,Ve K_):=by
 exists T.leading,ko,#[p,us,rs,rfl,hp,Tk,hok,hl,q],".v1ÄH0RP.L{*0|2[B2aB3-LH/zp *3B4-GOI14*2-:1",5;let zw:=Tk.length;lk;show iI (xs:=us) (λi ys H'=>az H H'/\∃as:List ae,A4 (ys=as.map V.ref) (as.length=i) as.Nodup (∀a∈as,H a=aw/\H' a=!.lst [])) ?_ ?_ ?_ ?_;show#[az.refl _,[],Z,Z,lB,λa h=>nomatch h];rintro i ys H' hi ⟨sm,as,rfl,_⟩;show bI.of^sm _ _ hp
 .rintro i x ys H' hx ⟨sm,as,rfl,ha,hn,hh⟩;let hi:i<us.length:=(gq hx).1;show#[di (by rw[aq];lia),?_];lk;ext b H2 n2;show#[sm.trans n2.same,as++[b],by simp,by simp[ha],?_,λa h=>?_];rw[fB];show#[hn,by simp,λa h c hc=>?_];rw[aJ.mp hc];intro e;rw[e] at h;have:=(hh b h).2;rw[n2.1] at this;cases this;rcases aM.mp h with h|h;show#[(hh a h).1,n2.keep (hh a h).2];rw[aJ.mp h];show#[sm.free n2.1,n2.self]
 rintro ys H1 ⟨sm1,as,rfl,Os,hnd,has⟩ f H2 n2;lk;let akV:f∉as:=λh=>by have:=(has f h).2;rw[n2.1] at this;cases this
 let hHf:H f=none:=sm1.free n2.1;show B5 (xs:=us) (λi Y' H'=>A4 (az H H') (H' f=!.lst^as.map V.ref) ((E3 λx y z=>Y'=[!.ref p,!.ref f,x,y,z])) (∀(j:O) a,as[j]?=!a->∃l:List M,H' a=!.lst^l.map V.int/\d4<=2*i/\d4=cnt (rs.take i) j/\∀x,x∈l↔Led rs i j x)) ?_ ?_ ?_ ?_;show#[sm1.trans n2.same,n2.self,#[_,_,_,Z],λj a h=>#[[],n2.keep (has a^jd h).2,aV _,Z,λx=>#[λh=>(nomatch h),λzq=>?_]]];let#[k,_,hk,_]:=zq;show absurd hk ∅;rintro i Y' H' hi ⟨sm,_⟩;show bI.of^sm _ _ hp
 .rintro i x t Y' H' H3 hx ⟨sm,hf,⟨x0,y0,z0,rfl⟩,hL⟩ n3;let hi:i<us.length:=(gq hx).1;let#[r,On,#[ra,Z,qg]]:=bw Tk hx;let Vf:H3 ra=!.tup r.vals:=n3.keep^sm _ _ qg;lk;show#[ra,r,Z,Vf,λpw H4 s4 hpw e4=>?_];lk;let afr:=Row.xN^hok r^jd On;let hwl:=Row.zh r;show f_list (xs:=r.ways.map V.int) (λk Y' H'=>A5 (az H H') (H' pw=!.lst^r.ways.map V.int) (H' f=!.lst^as.map V.ref) ((∃z,Y'=[!.ref p,!.ref f,!.int i,!.ref ra,z])) (∀(j:O) a,as[j]?=!a->∃l:List M,H' a=!.lst^l.map V.int/\d4<=2*i+k/\d4=cnt (rs.take i) j+(r.ways.take k).count ((j:O):M)/\∀x,x∈l↔Led rs i j x\/(x=((i:O):M)/\((j:O):M)∈r.ways.take k))) ?_ ?_ ?_ ?_;show#[(sm.trans n3.same).trans s4,e4,s4 _ _^n3.keep hf,#[_,Z],λj a h=>?_];let#[l,e,hl,hc,hm]:=hL j a h;show#[l,s4 _ _^n3.keep e,∅,by rw[hc];rfl,λx=>by rw[hm x];simp];rintro k Y' H' hk ⟨_,e,_⟩;show bI.of e
  .rintro k x Y' H5 hx ⟨sm5,hw5,QB,⟨z1,rfl⟩,hL5⟩;let hk:k<(r.ways.map V.int).length:=(gq hx).1;rw[aq] at hk;rw[bJ] at hx;let#[y,hy,Z]:=cU.mp hx;let hyb:=afr y^jd hy;let ey:y=((y.toNat:O):M):=∅;let hj:y.toNat<as.length:=∅;let HK:as[y.toNat]?=some as[y.toNat]:=by simp[hj]
   generalize as[y.toNat]'hj=a at HK;let#[l,el,hll,hlc,hm]:=hL5 _ a HK;lk;show cj (bI.of QB) (v:=¬a) (by rw[ey];show dM (by rw[bJ,HK];rfl)) ?_;let hml:(l.map V.int).length=l.length:=aq _;lk;ext H6 n6;let akX:pw≠a:=λe=>by rw[e] at hpw;let h2:H3 a=none:=hpw;let#[l',e',_]:=hL _ a HK;rw[n3.keep e'] at h2;cases h2
   let hfa:f≠a:=λe=>akV (e▸jd HK);show#[n6.same sm5 (has a^jd HK).1,n6.keep akX hw5,n6.keep hfa QB,#[_,Z],λj b hb=>?_];rw[b8,hy];by_cases e:j=y.toNat;subst e;rw[HK] at hb;cases hb;show#[l++[((i:O):M)],by rw[bq];show n6.self,by rw[aT];simp;lia,?_,λx=>?_];rw[aT,List.count_append,hlc,<- ey];simp;lia;rw[aM,hm x,aJ,aM,<- ey];erw[pN,aJ,or_true,and_true];constructor;rintro((h|h)|h);show .inl h;show .inr h.1;show .inr h;rintro(h|h);show .inl^.inl h;show .inr h
   .let#[l',e',Hn,akZ,hm']:=hL5 j b hb;let hba:b≠a:=λeb=>by subst eb;show e^lZ hnd hb HK
    show#[l',n6.keep hba e',∅,?_,λx=>?_];let UV:Not (y=((j:O):M)):=∅;rw[List.count_append,akZ];simp[UV];let UV:Not (((j:O):M)=y):=∅;rw[hm' x,aM];erw[pN,aJ,UV,or_false]
  .rintro Y' H5 ⟨sm5,hw5,QB,⟨z1,rfl⟩,hL5⟩;show#[sm5,QB,#[_,_,_,Z],λj a h=>?_];let#[l,e,hl,hc,hm]:=hL5 j a h;rw[aq] at hl hc;rw[b9] at hc;show#[l,e,∅,by rw[hc,QA On],λx=>?_];rw[hm x,Led.succ On,aq,b9]
 .rintro Y' H' ⟨sm,hf,⟨x0,y0,z0,rfl⟩,hL⟩;lk;show q f H' as sm hf ∅ (λj a h=>?_) λj a h=>?_;let#[l,e,hl,_,hm]:=hL j a h;rw[zw] at hl hm;show#[l,e,hl,hm];let#[l,e,_,hc,_]:=hL j a h;rw[zw,b9] at hc;show#[l,e,hc]
inductive abm(K_:aC)(vs:List V)(H:Hp)(Q:VK)(z:XK):Prop|mk(p:Addr)(us:List V)(rs:List Row)(z:vs=[¬p])(z:H p=!.lst us)(z:Rows H us rs)(z:(∀r∈rs,r.ok rs.length))(z:rs.length<=2000)(z:∀f H' (as:List Addr),az H H'->H' f=!.lst^as.map V.ref->as.length=rs.length->zx H' rs as->Q (¬f) H')
def HL(T:Txt w8 K_ m_):bS P_ w8 K_ m_ b_ fW 3 T.leading.f T.leading.d ["code"] (abm K_) :=
 (wL T).imp λvs H Q E h=>by let#[p,us,rs,h1,h2,h3,h4,h5,q]:=h;show#[p,us,rs,h1,h2,h3,h4,h5,λf H' as a b c d z=>q f H' as a b c d]
abbrev o5(H:Hp):List V->List^List (M×M)->Prop:=Paired λv ps=>∃a us,v=¬a/\H a=!.lst us/\cA H us ps
theorem o5.same{SK:List^List (M×M)}(e:az H H')(h:o5 H vs SK):o5 H' vs SK:=dG (λ_ _ ⟨a,us,h1,h2,h3⟩=>#[a,us,h1,e _ _ h2,h3.same e]) h
inductive abn(vs:List V)(H:Hp)(Q:VK)(z:XK):Prop|mk(p:Addr)(zs:List V)(SK:List^List (Int×Int))(z:vs=[¬p])(z:H p=!.lst zs)(z:o5 H zs SK)(z:(∀ps∈SK,∀q∈ps,q∈eF))(z:∀(l:Addr)(us:List V)(qs:List (Int×Int))(H':Hp),az H H'->H l=none->H' l=!.lst us->cA H' us qs->qs.Pairwise (λp q=>SN.rk p<SN.rk q)->(∀q,q∈qs↔∃ps∈SK,q∈ps)->Q (¬l) H')
theorem Cz:T.pV∩(1,abn):=by
 exists T.pV,jP,#[p,zs,SK,rfl,hp,hzs,Sr,q],".=1'N8 .LH0B2-LH2B3-}M13×-:¹!*1",4,G9 rfl;lk;ext d H1 n1;let fd:=n1.1;let s1:=n1.same;let QR:=n1.self;clear n1;show f_list (xs:=zs) (λi Y' H'=>A3 ((E2 λx y=>Y'=[!.ref p,!.ref d,x,y])) (az H H') (∃ps:List (M×M),A4 (H' d=!.dT (ps.map λp=>(Aa p,V.bl ag))) ps.Nodup ((∀q∈ps,q∈eF)) (∀q,q∈ps↔∃qs∈SK.take i,q∈qs))) ?_ ?_ ?_ ?_;show#[#[_,_,Z],s1,[],QR,lB,(λq h=>nomatch h),λq=>by simp];rintro i Y' H' _ ⟨_,s',_⟩;show bI.of^s' _ _ hp
 .rintro i x Y' H2 hx ⟨⟨x0,y0,rfl⟩,s2,ps,Qb,nd,Wp,hmem⟩;let#[qs,hqi,a,us,Z,ha,uT]:=bw hzs hx;let IR:=s2 _ _ ha;let afs:=uT.same s2;let hqa:=Sr qs^jd hqi;lk;show f_list (xs:=us) (λj Y' H'=>A3 ((∃y,Y'=[!.ref p,!.ref d,!.ref a,y])) (az H H') (∃ps:List (M×M),A4 (H' d=!.dT (ps.map λp=>(Aa p,V.bl ag))) ps.Nodup ((∀q∈ps,q∈eF)) (∀q,q∈ps↔(∃qs∈SK.take i,q∈qs)\/q∈qs.take j))) ?_ ?_ ?_ ?_;show#[#[_,Z],s2,ps,Qb,nd,Wp,λq=>by rw[hmem q];simp];rintro j Y' H' _ ⟨_,s',_⟩;show bI.of^s' _ _ ha
  .rintro j x Y' H3 hx ⟨⟨y0,rfl⟩,s3,ps,zy,nd,Wp,hmem⟩;let#[t,htj,b,Z,hb]:=bw uT hx;let hb3:=s3 _ _ hb;let TD:ci<=16:=nR nd Wp;lk;show aeZ (k:=Aa t) zy hb3 (by rw[aq];lia) ?_;intro H4 p4;rw[Qz] at p4;lk;show#[#[_,Z],p4.same s3 fd,_,p4.self,?_,?_,λq=>?_];by_cases h:t∈ps;rw[if_pos h];show nd;rw[if_neg h,fB];show#[nd,by simp,λx hx y hy e=>h (by rw[<- aJ.mp hy,<- e];show hx)]
   .intro q hq;by_cases h:t∈ps;rw[if_pos h] at hq;show Wp q hq
    .rw[if_neg h] at hq;rcases aM.mp hq with hq|hq;show Wp q hq;rw[aJ.mp hq];show hqa t^jd htj
   .rw[b8,htj,aM];erw[pN,aJ];by_cases h:t∈ps;rw[if_pos h,hmem q];constructor;rintro(h1|h1);show .inl h1;show .inr^.inl h1;rintro(h1|h1|h1);show .inl h1;show .inr h1;rw[h1];show(hmem t).mp h;rw[if_neg h,aM,hmem q,aJ,or_assoc]
  .rintro Y' H3 ⟨⟨y0,rfl⟩,s3,ps,zy,nd,Wp,hmem⟩;show#[#[_,_,Z],s3,ps,zy,nd,Wp,λq=>?_];rw[hmem q,uT.length,b9,b8,hqi];erw[aM,pN,aJ];constructor;rintro(⟨qs',h1,h2⟩|h1);show#[qs',.inl h1,h2];show#[qs,.inr Z,h1];rintro⟨qs',h1|h1,h2⟩;show .inl #[qs',h1,h2];subst h1;show .inr h2
 .rintro Y' H2 ⟨⟨x0,y0,rfl⟩,s2,ps,Qb,nd,Wp,hmem⟩;let TD:ci<=16:=nR nd Wp;lk;show UJ (f:=λz=>.bl ag) Qb (λq hq=>?_) ∅ λl us qs H3 n3 uT JE hup=>?_
  .have all:∀q∈eF,0<=q.2/\q.2<1000:=()
   show all q^Wp q hq
  .show q l us qs H3 (s2.trans n3.same) (s2.free n3.1) n3.self (cA.same n3.same uT) hup λq=>?_;rw[JE.mem_iff,hmem q,hzs.length,b9]
def zA(x:M):∀ss:List M,(c9 (ss.map λk=>((.inl k:Key),V.bl ag))^.inl x).isSome=decide (x∈ss):=λss=>by
 rw[<- kh];induction ss with
 | nil=>rfl
 | cons y ss ih =>
  rw[cN,lq,ih];by_cases e:y=x;simp[e];let e1:Not ((Sum.inl y:Key)=Sum.inl x):=λz=>e^Sum.inl.inj z;let e2:Not (x=y):=λz=>e z.symm;simp[e1,e2]
def QC{ss:List M}(h:x∉ss):putK (ss.map λk=>((.inl k:Key),V.bl ag)) (.inl x)^.bl ag=(ss++[x]).map λk=>((.inl k:Key),V.bl ag):=by unfold putK;rw[kh,zA,decide_eq_false h,if_neg (),bq];rfl
structure Apart (H5:Hp) (f l cm sn:Addr) (as:List Addr):Prop where
 c5:H5 cm=none
 n5:H5 sn=none
 a5:∀a∈as,H5 a=none
 fc:f≠cm
 fs:f≠sn
 lc:l≠cm
 ls:l≠sn
 cs:cm≠sn
 ca:cm∉as
 sa:sn∉as
 fa:f∉as
 la:l∉as
 nd:as.Nodup
structure Di (H5 H6:Hp) (f l cm sn:Addr) (as:List Addr) (us:List V) (cs ss:List Int) (g:Nat->List (Int×Int)) (H:Hp):Prop where
 s5:az H5 H
 t6:bX H6 H
 hf:H f=!.lst^as.map V.ref
 hl:H l=!.lst us
 hc:H cm=!.lst^cs.map V.int
 hs:H sn=!.dK (ss.map λk=>(.inl k,.bl true))
 ha:∀(k:Nat) a,as[k]?=!a->∃vs,H a=!.lst vs/\cA H vs^g k
section
variable {H5 H6:Hp}{cm sn:ae}{as:List ae}{us:List V}{Go ss:List M}{g g':O->List (M×M)}
def Di.new(x:Di H5 H6 f l cm sn as us cs ss g H)(n:gX H p o H'):Di H5 H6 f l cm sn as us cs ss g H' :=
 #[x.s5.trans n.same,x.t6.trans^sT n.same,n.keep x.hf,n.keep x.hl,n.keep x.hc,n.keep x.hs,λk a e=>let⟨vs,h1,h2⟩:=x.ha k a e;#[vs,n.keep h1,h2.same n.same]]
theorem Di.same(x:Di H5 H6 f l cm sn as us cs ss g H)(n:az H H'):Di H5 H6 f l cm sn as us cs ss g H' :=
 #[x.s5.trans n,x.t6.trans^sT n,n _ _ x.hf,n _ _ x.hl,n _ _ x.hc,n _ _ x.hs,λk a e=>let⟨vs,h1,h2⟩:=x.ha k a e;#[vs,n _ _ h1,h2.same n]]
def Di.aft(A:Apart H5 f l cm sn as)(x:Di H5 H6 f l cm sn as us cs ss g H)(p:mT H cm (.lst^Go.map V.int) H'):Di H5 H6 f l cm sn as us Go ss g H':=by let tt:bX H H':=λb xs e=>p.keep (cJ e x.hc (by intro z;cases z)) e;show#[p.same x.s5 A.c5,x.t6.trans tt,p.keep A.fc x.hf,p.keep A.lc x.hl,p.self,p.keep A.cs.symm x.hs,λk a e=>let⟨vs,h1,h2⟩:=x.ha k a e;#[vs,p.keep (λz=>A.ca (by rw[<- z];show jd e)) h1,h2.fQ tt]]
def Di.ak1(A:Apart H5 f l cm sn as){ss':List M}(x:Di H5 H6 f l cm sn as us cs ss g H)(p:mT H sn (.dK (ss'.map λk=>(.inl k,.bl ag))) H'):Di H5 H6 f l cm sn as us cs ss' g H':=by let tt:bX H H':=λb xs e=>p.keep (cJ e x.hs (by intro z;cases z)) e;show#[p.same x.s5 A.n5,x.t6.trans tt,p.keep A.fs x.hf,p.keep A.ls x.hl,p.keep A.cs x.hc,p.self,λk a e=>let⟨vs,h1,h2⟩:=x.ha k a e;#[vs,p.keep (λz=>A.sa (by rw[<- z];show jd e)) h1,h2.fQ tt]]
def Di.ak2(A:Apart H5 f l cm sn as){aj:ae}{vj:List V}(x:Di H5 H6 f l cm sn as us cs ss g H)(hj:as[j]?=!aj){w8:List V}(hold:H aj=!.lst w8)(p:mT H aj (.lst vj) H')(hv:cA H vj^g' j)(hg:∀k,k≠j->k<as.length->g' k=g k):Di H5 H6 f l cm sn as us cs ss g' H':=by let mj:=jd hj;let tt:bX H H':=λb xs e=>p.keep (cJ e hold (by intro z;cases z)) e;show#[p.same x.s5^A.a5 aj mj,x.t6.trans tt,p.keep (λz=>A.fa (by rw[z];show mj)) x.hf,p.keep (λz=>A.la (by rw[z];show mj)) x.hl,p.keep (λz=>A.ca (by rw[z];show mj)) x.hc,p.keep (λz=>A.sa (by rw[z];show mj)) x.hs,λk a e=>?_];by_cases ek:k=j;subst ek;rw[hj] at e;cases e;show#[vj,p.self,hv.fQ tt];let#[vs,h1,h2]:=x.ha k a e;show#[vs,p.keep (λz=>ek^lZ A.nd e (by rw[z];show hj)) h1,?_];rw[hg k ek (gq e).1];show h2.fQ tt
end
structure Kd (rs:List Row) (t:Int×Int) (cs ss:List Int):Prop where
 c1:∀x∈cs,∃k:Nat,x=((k:Nat):Int)/\eE rs t k
 s1:∀x∈ss,∃k:Nat,x=((k:Nat):Int)/\eE rs t k
 nd:ss.Nodup
 rd:∀(k:Nat) r,rs[k]?=!r->t∈eX r->((k:Nat):Int)∈ss\/((k:Nat):Int)∈cs
 cl:∀(k q:Nat) r,rs[k]?=!r->t∉bW r->((q:Nat):Int)∈r.ways->((q:Nat):Int)∈ss->((k:Nat):Int)∈ss\/((k:Nat):Int)∈cs
 ln:cs.length<=rs.length+ss.length*(2*rs.length)
section
variable {rs:List bv}{t:M×M}{ss:List M}
def Mh(nd:ss.Nodup){n:O}(h:∀x∈ss,∃k:O,x=((k:O):M)/\k<n):ss.length<=n:=by
 have:=nR nd (ys:=(List.range n).map λk:O=>(k:M)) λx hx=>by let#[k,Z,hk]:=h x hx;show aQ.mpr #[k,gJ.mpr hk,Z]
 rw[aq,uF] at this;show this
def Kd.few(d:Kd rs t cs ss):ss.length<=rs.length:=Mh d.nd λx hx=>by let#[k,e,h]:=d.s1 x hx;show#[k,e,h.lt]
theorem Kd.short(d:Kd rs t cs ss)(h:bp<=2000):cs.length<=8100000:=by let h1:=d.few;let h2:=d.ln;let h3:ss.length*(2*bp)<=2000*4000:=Nat.mul_le_mul ∅ ∅;lia
theorem Kd.skip(d:Kd rs t (cs++[x]) ss)(h:x∈ss):Kd rs t cs ss where
 c1:=λy hy=>d.c1 y (by simp[hy])
 s1:=d.s1
 nd:=d.nd
 rd:=λk r h1 h2=>by rcases d.rd k r h1 h2 with a|a;show .inl a;rcases aM.mp a with a|a;show .inr a;rw[aJ.mp a];show .inl h
 cl:=λk q r h1 h2 h3 h4=>by rcases d.cl k q r h1 h2 h3 h4 with a|a;show .inl a;rcases aM.mp a with a|a;show .inr a;rw[aJ.mp a];show .inl h
 ln:=by have:=d.ln;rw[aT] at this;simp at this;lia
theorem Kd.step{es:List M}(d:Kd rs t (cs++[x]) ss)(h:x∉ss)(h1:∀y,y∈es↔∃(k j:O)(r:bv),y=((k:O):M)/\x=((j:O):M)/\rs[k]?=!r/\((j:O):M)∈r.ways/\t∉bW r)(h2:es.length<=2*bp):Kd rs t (cs++es) (ss++[x]) where
 c1:=λy hy=>by rcases aM.mp hy with a|a;show d.c1 y (by simp[a]);let#[k,j,r,Z,ej,hr,hw,hg]:=(h1 y).mp a;let#[j',ej',hj]:=d.c1 x (by simp);let e:j=j':=∅;subst e;show#[k,Z,.on hr hg hw hj]
 s1:=λy hy=>by rcases aM.mp hy with a|a;show d.s1 y a;rw[aJ.mp a];show d.c1 x (by simp)
 nd:=by rw[fB];show#[d.nd,by simp,λa ha b hb e=>h (by rw[<- aJ.mp hb,<- e];show ha)]
 rd:=λk r a b=>by rcases d.rd k r a b with c|c;show .inl (by simp[c]);rcases aM.mp c with c|c;show .inr (by simp[c]);show .inl (by simp[aJ.mp c])
 cl:=λk q r a b c e=>by rcases aM.mp e with e|e;rcases d.cl k q r a b c e with z|z;show .inl (by simp[z]);rcases aM.mp z with z|z;show .inr (by simp[z]);show .inl (by simp[aJ.mp z]);let e:=aJ.mp e;show .inr^aM.mpr^.inr^(h1 _).mpr #[k,q,r,Z,e.symm,a,c,b]
 ln:=by have:=d.ln;rw[aT] at this;erw[aT,iB] at this ⊢;rw[Nat.add_mul];lia
theorem Kd.done(d:Kd rs t [] ss)(k:O):((k:O):M)∈ss↔eE rs t k:=by
 constructor;intro h;let#[j,e,hj]:=d.s1 _ h;have:k=j:=∅;rw[this];show hj
 .intro h;show EV (S:=λk=>((k:O):M)∈ss) (λk r a b=>?_) (λk q r a b c e=>?_) k h;rcases d.rd k r a b with z|z;show z;show nomatch z;rcases d.cl k q r a b c e with z|z;show z;show nomatch z
noncomputable def msr(n s c:O):Nat:=(n-s)*(2*n+1)+c
theorem abo{n s c e:O}(hs:s<n)(he:e<=2*n):msr n (s+1) (c+e)<msr n s (c+1):=by unfold msr;obtain⟨d,hd⟩:∃d,n-s=d+1:=#[n-s-1,∅];let h2:n-(s+1)=d:=∅;rw[hd,h2,Nat.add_mul];lia
def Mi{qs:List (M×M)}(hi:qs[i]?=!t)(h:((k:O):M)∈ss↔eE rs t k):(qs.take (i+1)).filter^isLive rs k=(qs.take i).filter^isLive rs k++if((k:O):M)∈ss then[t] else[]:=by rw[b8,hi,lu];congr 1;change[t].filter^isLive rs k=_;by_cases e:eE rs t k;rw[if_pos^h.mpr e,xX^nA.mpr e];rfl;rw[if_neg (λz=>e^h.mp z),xW (λz=>e^nA.mp z)];rfl
end
def Bj(H:Hp)(as:List ae)(rs:List bv):=∀(k:O) a,as[k]?=!a->∃us,H a=!.lst us/\cA H us^kY rs k
theorem o5.at{H:Hp}{vs:List V}{rs:List bv}{f:bv->List (M×M)}(h:o5 H vs^rs.map f){k:O}{r:bv}(e:rs[k]?=!r):∃a us,vs[k]?=!.ref a/\H a=!.lst us/\cA H us^f r:=by
 let hl:=h.length;rw[aq] at hl;let hk:k<vs.length:=by rw[hl];show(gq e).1
 let hv:vs[k]?=some vs[k]:=iR hk;let#[ps,h1,a,us,h2,h3,h4]:=bw h hv;rw[bJ,e] at h1;cases h1;show#[a,us,by rw[hv,h2],h3,h4]
inductive abp(vs:List V)(H:Hp)(Q:VK)(z:XK):Prop|mk(p:Addr)(us:List V)(rs:List Row)(z:vs=[¬p])(z:H p=!.lst us)(z:Rows H us rs)(z:(∀r∈rs,r.ok rs.length))(z:rs.length<=2000)(z:∀(f:Addr)(as:List Addr)(H':Hp),az H H'->H f=none->H' f=!.lst^as.map V.ref->as.length=rs.length->as.Nodup->(∀a∈as,H a=none)->f∉as->Bj H' as rs->Q (¬f) H')
set_option maxHeartbeats 40000000 in
theorem Ke:T.live∩(4,abp):=by
 exists T.live,jO,#[p,us,rs,rfl,hp,Tk,hok,hn,q],".v1ÄH0R/ET *0.=2¬H0R/EU *0.=3/HL *0.v4ÄH0RP.LH/Cz *1B5.Ô6¶T{*1·2[k0ak1qs!210.=7Ø-­®6.=8¯6-?ÅîM87.}M78×.GOI48*5-Gt6*hTHI38qs!2^!100-:4",9,["place", "some"],"place",["spot"],[5],["spot"],(show(["place", "some", "spot"]:List Str).Nodup from ()),(show(["place", "some", "spot"]:List Str).Nodup from ()),JK (K:=K_) rfl hr.units,(by with_unfolding_all rfl),(λs=>rfl),"other",["giving", "spot"],[2,5],["spot", "giving"],G8 (K:=K_) rfl hr.units,lP (K:=K_) rfl,(by with_unfolding_all rfl);let zw:=Tk.length;lk;show iI (xs:=us) (λi ys H'=>az H H'/\o5 H' ys^(rs.take i).map eX) #[az.refl _,.nil] ?_ ?_ ?_;rintro i ys H' _ ⟨s',_⟩;show bI.of^s' _ _ hp
 .rintro i x ys H1 hx ⟨s1,hys⟩;let#[r,Vg,a,rfl,ha]:=bw Tk hx;let Nw:=hys.length;rw[aq,cC] at Nw;show#[di ∅,?_];lk;show#[a,r,rs.length,rfl,s1 _ _ ha,hok r^jd Vg,λl ws H2 s2 s hl hws=>#[s1.trans s2,?_]];rw[b8,Vg,bq];show eU (hys.same s2) #[l,ws,rfl,hl,hws]
 rintro rzs H1 ⟨s1,hrz⟩ rd H2 n2;rw[zw,b9] at hrz;let afw:=n2.self;let afx:=hrz.same n2.same;let s2:=s1.trans n2.same;clear n2 s1 hrz;let hp2:=s2 _ _ hp;let QD:=Tk.same s2;lk;show iI (xs:=us) (λi ys H'=>az H2 H'/\o5 H' ys^(rs.take i).map bW) #[az.refl _,.nil] ?_ ?_ ?_;rintro i ys H' _ ⟨s',_⟩;show bI.of^s' _ _ hp2
 .rintro i x ys H3 hx ⟨s3,hys⟩;let#[r,Vg,a,rfl,ha]:=bw QD hx;let Nw:=hys.length;rw[aq,cC] at Nw;show#[di ∅,?_];lk;show#[a,r,rs.length,rfl,s3 _ _ ha,hok r^jd Vg,λl ws H4 s4 s hl hws=>#[s3.trans s4,?_]];rw[b8,Vg,bq];show eU (hys.same s4) #[l,ws,rfl,hl,hws]
 rintro gzs H3 ⟨s3,hgz⟩ gv H4 n4;rw[zw,b9] at hgz;let afy:=n4.self;let afz:=hgz.same n4.same;let s24:=s3.trans n4.same;clear n4 s3 hgz;let hp4:=s24 _ _ hp2;let QE:=QD.same s24;let afA:=s24 _ _ afw;let afB:=afx.same s24;let s4:=s2.trans s24;clear s24 hp2 QD afw afx s2;lk;show#[p,us,rs,rfl,hp4,QE,hok,∅,λah H5 als s45 abt Os ak4=>?_];let hp5:=s45 _ _ hp4;let afD:=s45 _ _ afA;let afE:=afB.same s45;let ak5:=s45 _ _ afy;let ak6:=afz.same s45;let s5:=s4.trans s45;clear s45 hp4 QE afA afB afy afz s4;lk;show iI (xs:=us) (λi ys H'=>az H5 H'/\∃as:List Addr,A4 (ys=as.map V.ref) (as.length=i) as.Nodup (∀a∈as,H5 a=none/\H' a=!.lst [])) #[az.refl _,[],rfl,rfl,lB,λa h=>nomatch h] ?_ ?_ ?_;rintro i ys H' _ ⟨s',_⟩;show bI.of^s' _ _ hp5
 .rintro i x ys H6 hx ⟨s6,as,rfl,ha,nd,hh⟩;let hi:i<us.length:=(gq hx).1;show#[di (by rw[aq];lia),?_];lk;ext b H7 n7;show#[s6.trans n7.same,as++[b],by simp,by simp[ha],?_,λa h=>?_];rw[fB];show#[nd,by simp,λa h c hc e=>?_];rw[aJ.mp hc] at e;subst e;have:=(hh a h).2;rw[n7.1] at this;cases this;rcases aM.mp h with h|h;show#[(hh a h).1,n7.keep (hh a h).2];rw[aJ.mp h];show#[s6.free n7.1,n7.self]
 rintro ys H6 ⟨XQ,as,rfl,D7,nd,has⟩ f H7 n7;let SM:=n7.self;let f5:H5 f=none:=XQ.free n7.1;let fa:f∉as:=λh=>by have:=(has f h).2;rw[n7.1] at this;cases this
 let Vh:∀a∈as,H5 a=none/\H7 a=!.lst []:=λa h=>#[(has a h).1,n7.keep (has a h).2];let QF:=XQ.trans n7.same;clear n7 XQ has;let Vi:=QF _ _ afD;let afF:=afE.same QF;lk;show#[rd,rzs,rs.map eX,rfl,Vi,afF,?_,λl ws qs H8 s78 fl hl8 afG hup hmem=>?_];intro ps Ty t ht;let#[r,hr,rfl]:=aQ.mp Ty;show reads_in (hok r hr) ht;let QG:=s78 _ _ SM;let s58:=QF.trans s78;let la:l∉as:=λh=>by have:=(Vh l h).2;rw[fl] at this;cases this
 let lf:l≠f:=λe=>by rw[e,SM] at fl;cases fl
 let hql:qs.length<=16:=nR (hup.imp λh=>afp h) (ys:=eF) λt ht=>by let#[ps,Ty,hq]:=(hmem t).mp ht;let#[r,hr,rfl]:=aQ.mp Ty;show reads_in (hok r hr) hq
 let abu:∀a∈as,H5 a=none/\H8 a=!.lst []:=λa h=>#[(Vh a h).1,s78 _ _ (Vh a h).2];clear s78 SM Vi afF Vh fl QF;lk;show f_list (xs:=ws) (λi Y' H'=>A6 ((E4 λx y z u=>Y'=[!.ref p,!.ref rd,!.ref gv,!.ref ah,!.ref f,x,y,z,u])) (az H5 H') (bX H8 H') (H' f=!.lst^as.map V.ref) (H' l=!.lst ws) (∀(k:Nat) a,as[k]?=!a->∃vs,H' a=!.lst vs/\cA H' vs^(qs.take i).filter^isLive rs k)) ?_ ?_ ?_ ?_;show#[#[_,_,_,_,rfl],s58,bX.refl _,QG,hl8,λk a e=>#[[],(abu a^jd e).2,.nil]];rintro i Y' H' _ ⟨_,_,_,_,h,_⟩;show bI.of h
 .rintro i x Y' H9 hx ⟨⟨x5,x6,x7,x8,rfl⟩,s9,t9,SO,hl9,SQ⟩;let#[t,hti,b,rfl,SJ]:=bw afG hx;let hb9:=t9 _ _ SJ;let QH:=s9 _ _ afD;let abv:=afE.same s9;lk;let hrl:=abv.length;rw[aq] at hrl;show Jq (λj zs τ H'=>A3 (az H9 H') ((∃ns:List Int,zs=ns.map V.int/\ns.length<=j/\∀y,y∈ns↔∃(k:Nat)(r:Row),k<j/\y=((k:Nat):Int)/\rs[k]?=!r/\t∈eX r)) (E2 λx y=>τ=[x,y,!.ref b])) ?_ ?_ ?_ ?_ ?_;show#[az.refl _,#[[],rfl,aV _,λy=>#[λh=>(nomatch h),λzq=>?_]],_,_,rfl];let#[k,_,h,_]:=zq;show absurd h ∅;rintro j zs τ H' _ ⟨s',⟨ns,rfl,hl,_⟩,_⟩;show#[bI.of^s' _ _ QH,by rw[aq];show hl];lia
  .rintro j x pp zs τ Ab Dj hx ⟨lG,⟨ns,rfl,hnl,Qr⟩,x0,y0,rfl⟩ o6;let#[ps,Ty,a,vs,rfl,ha,Oy]:=bw abv hx;rw[bJ] at Ty;let#[r,hrj,rfl]:=cU.mp Ty;let Dk:=lG.trans o6.same;let abw:=Dk _ _ ha;let Kf:=Oy.same Dk;let ak7:=Dk _ _ hb9;let hpp:=o6.self;clear o6 lG;lk;show JL ak7 (bI.of abw) Kf ?_;let split:∀y,(∃(k:Nat)(r:Row),k<j+1/\y=((k:Nat):Int)/\rs[k]?=!r/\t∈eX r)↔(∃(k:Nat)(r:Row),k<j/\y=((k:Nat):Int)/\rs[k]?=!r/\t∈eX r)\/(y=((j:Nat):Int)/\t∈eX r):=λy=>by constructor;rintro⟨k,r',h1,h2,h3,h4⟩;by_cases e:k=j;subst e;rw[hrj] at h3;cases h3;show .inr #[h2,h4];show .inl #[k,r',∅,h2,h3,h4];rintro(⟨k,r',h1,h2,h3,h4⟩|⟨h1,h2⟩);show#[k,r',∅,h2,h3,h4];show#[j,r,∅,h1,hrj,h2]
   by_cases hm:t∈eX r
   .rw[decide_eq_true hm];lk;show#[Dk,#[ns++[((j:Nat):Int)],by simp,by simp;lia,λy=>?_],_,_,rfl];rw[aM,Qr y,aJ,split y];erw[hm,and_true]
   .rw[decide_eq_false hm];lk;show#[Dk,#[ns,rfl,∅,λy=>?_],_,_,rfl];rw[Qr y,split y];erw[hm,and_false,or_false]
  rintro zs τ Ab ⟨lG,⟨ns,rfl,hnl,Qr⟩,x0,y0,rfl⟩ cm Dj o6;rw[hrl] at hnl Qr;lk;ext sn HN HP;let EZ:∀(k:Nat) a,as[k]?=!a->∃vs,HN a=!.lst vs/\cA HN vs^(qs.take i).filter^isLive rs k/\Ab a=!.lst vs/\Dj a=!.lst vs:=λk a e=>by let#[vs,h1,h2]:=SQ k a e;show#[vs,HP.keep^o6.keep^lG _ _ h1,h2.same^(lG.trans o6.same).trans HP.same,lG _ _ h1,o6.keep^lG _ _ h1]
  let T0:=(lG.trans o6.same).trans HP.same;let AP:Apart H5 f l cm sn as:=by
   let inn:∀a∈as,∃vs,Ab a=!HO.lst vs/\Dj a=!HO.lst vs:=λa h=>by let#[k,hk]:=iC.mp h;let#[vs,_,_,h1,h2]:=EZ k a hk;show#[vs,h1,h2]
   show#[s9.free^lG.free o6.1,s9.free^lG.free^o6.same.free HP.1,λa h=>(abu a h).1,aH (lG _ _ SO) o6.1,aH (o6.keep^lG _ _ SO) HP.1,aH (lG _ _ hl9) o6.1,aH (o6.keep^lG _ _ hl9) HP.1,aH o6.self HP.1,λh=>?_,λh=>?_,fa,la,nd];let#[vs,h1,_]:=inn cm h;rw[o6.1] at h1;cases h1;let#[vs,_,h1]:=inn sn h;rw[HP.1] at h1;cases h1
  let L0:Di H5 H8 f l cm sn as ws ns [] (λk=>(qs.take i).filter^isLive rs k++if((k:Nat):Int)∈([]:List Int) then[t] else[]) HN :=
   #[s9.trans T0,t9.trans^sT T0,T0 _ _ SO,T0 _ _ hl9,HP.keep o6.self,HP.self,λk a e=>by
    let#[vs,h1,h2,_]:=EZ k a e;show#[vs,h1,by simpa using h2]]
  let D0:Kd rs t ns []:=by show#[λx hx=>?_,(λx h=>nomatch h),lB,λk r h1 h2=>.inr^(Qr _).mpr #[k,r,(gq h1).1,rfl,h1,h2],(λk q r s s s h=>nomatch h),by simp;lia];let#[k,r,_,rfl,h1,h2]:=(Qr x).mp hx;show#[k,rfl,.here h1 h2]
  clear o6 HP lG T0 Qr hnl SQ EZ SO hl9 s9 t9 QH abv hb9;show pP (λm Y' H'=>E3 λ(cs ss:List Int)(x:Option V)=>A4 (Y'=[!.ref p,!.ref rd,!.ref gv,!.ref ah,!.ref f,!.ref b,!.ref cm,!.ref sn,x]) (Di H5 H8 f l cm sn as ws cs ss (λk=>(qs.take i).filter^isLive rs k++if((k:Nat):Int)∈ss then[t] else[]) H') (Kd rs t cs ss) (m=msr rs.length ss.length cs.length)) #[_,ns,[],_,rfl,L0,D0,rfl] ?_;clear L0 D0;rintro m Y' H13 ⟨cs,ss,x,rfl,L,D,rfl⟩;let afI:=L.hc;lk;rcases List.eq_nil_or_concat cs with e|⟨Go,y,e⟩
  .subst e;rw[if_neg ()];walk_at "nxd";show#[#[_,_,_,_,rfl],L.s5,L.t6,L.hf,L.hl,λk a e=>?_];let#[vs,h1,h2]:=L.ha k a e;show#[vs,h1,?_];rw[Mi hti^D.done k];show h2
  rw[List.concat_eq_append] at e;subst e;rw[if_pos^by simp];let#[ky,XR,lky]:=D.c1 y (by simp);let hss:=D.few;let hsh:=D.short hn;rw[aT,iB] at hsh;lk;show s_pop afI (y:=.int y) (by simp) ?_;intro H14 SR;let ed:(List.map V.int (Go++[y])).dropLast=Go.map V.int:=by simp
  rw[ed] at SR;let L14:=L.aft AP SR;clear SR afI L ed;let ak9:=L14.hs;by_cases hy:y∈ss
  .have hv:(not ((c9 (ss.map λk=>((.inl k:Key),V.bl true))^.inl y).isSome))=false:=by rw[zA,decide_eq_true hy];rfl
   lk;rw[hv,if_neg ()];lk;show#[_,?_,Go,ss,_,rfl,L14,D.skip hy,rfl];rw[aT,iB];unfold msr;lia
  let hv:(not ((c9 (ss.map λk=>((.inl k:Key),V.bl true))^.inl y).isSome))=true:=by rw[zA,decide_eq_false hy];rfl
  let hsl:(ss.map λk=>((.inl k:Key),V.bl true)).length<=2000:=by rw[aq];lia
  let ey:=QC hy;let Vj:=L14.hf;let nfs:=AP.fs;lk;rw[hv,if_pos rfl];lk;ext XS HQ;rw[ey] at HQ;let L15:=L14.ak1 AP HQ;clear HQ L14 ak9 ey hv Vj nfs;let tU:ky<as.length:=by have:=lky.lt;lia
  let HK:as[ky]?=some as[ky]:=iR tU;generalize as[ky]'tU=a at HK;let#[vs,Oy,Ty]:=L15.ha ky a HK;let hyk:Not (((ky:Nat):Int)∈ss):=by rw[<- XR];show hy
  rw[if_neg hyk,cZ] at Ty;let Op:vs.length<=16:=by rw[Ty.length];show bP (j7 _ _) ?_;rw[cC];lia
  let ala:=L15.hc;let hca:cm≠a:=λz=>AP.ca (by rw[z];show jd HK);let afK:=L15.s5 _ _ abt;let haa:ah≠a:=aH abt^AP.a5 a^jd HK;show cj (bI.of L15.hf) (v:=¬a) (by rw[XR];show dM (by rw[bJ,HK];rfl)) ?_;lk;ext H16 p16;let L16:Di H5 H8 f l cm sn as ws Go (ss++[y]) (λk=>(qs.take i).filter^isLive rs k++if((k:Nat):Int)∈ss++[y] then[t] else[]) H16:=by let x:=L15.ak2 AP (g':=λk=>(qs.take i).filter^isLive rs k++if((k:Nat):Int)∈ss++[y] then[t] else[]) HK Oy p16 ?_ λk hk s=>?_;show x;change cA XS _ ((qs.take i).filter^isLive rs ky++if((ky:Nat):Int)∈ss++[y] then[t] else[]);rw[if_pos (by rw[<- XR];simp)];show eU Ty #[b,rfl,L15.t6 _ _ SJ];let UV:Not (((k:Nat):Int)=y):=∅;erw[aM,aJ,UV,or_false]
  clear p16 L15 Oy Ty ala afK;let XT:=L16.s5 _ _ abt;let XU:=L16.s5 _ _ ak5;let XW:=ak6.same L16.s5;let afL:=L16.t6 _ _ SJ;let afM:ky<als.length:=by have:=lky.lt;lia
  let abz:als[ky]?=some als[ky]:=iR afM;generalize als[ky]'afM=al at abz;let#[le,hle,aqe,QI]:=ak4.same L16.s5 ky al abz;show cj (bI.of XT) (v:=¬al) (by rw[XR];show dM (by rw[bJ,abz];rfl)) ?_;lk;show iI (xs:=le.map V.int) (λj ys H'=>az H16 H'/\∃es:List Int,ys=es.map V.int/\es.length<=j/\∀z,z∈es↔∃(k:Nat)(r:Row),z=((k:Nat):Int)/\z∈le.take j/\rs[k]?=!r/\t∉bW r) #[az.refl _,[],rfl,aV _,λz=>#[λh=>(nomatch h),λ⟨k,r,_,h,_⟩=>by simp at h]] ?_ ?_ ?_;rintro j ys H' _ ⟨s',_⟩;show bI.of^s' _ _ hle
  .rintro j x ys H17 hx ⟨XX,es,rfl,hel,hes⟩;let hjl:j<(le.map V.int).length:=(gq hx).1;rw[aq] at hjl;rw[bJ] at hx;let#[z,hz,rfl]:=cU.mp hx;let#[k,r,hk,ez,hr,hw]:=(QI z).mp^jd hz;let#[ga,gus,hga,hgl,hgp]:=(XW.same XX).at hr;show#[di (by rw[aq];lia),?_];let afN:=XX _ _ XU;let alb:=XX _ _ afL;lk;show cj (bI.of afN) (v:=¬ga) (by rw[ez];show dM hga) ?_;lk;show Po alb (bI.of hgl) hgp ?_;let split:∀y,(∃(k:Nat)(r:Row),y=((k:Nat):Int)/\y∈le.take (j+1)/\rs[k]?=!r/\t∉bW r)↔(∃(k:Nat)(r:Row),y=((k:Nat):Int)/\y∈le.take j/\rs[k]?=!r/\t∉bW r)\/(y=z/\t∉bW r):=λy=>by rw[b8,hz];erw[pN,aM,aJ];constructor;rintro⟨k',r',h1,h2|h2,h3,h4⟩;show .inl #[k',r',h1,h2,h3,h4];let e:k'=k:=∅;subst e;rw[hr] at h3;cases h3;show .inr #[h2,h4];rintro(⟨k',r',h1,h2,h3,h4⟩|⟨h1,h2⟩);show#[k',r',h1,.inl h2,h3,h4];show#[k,r,by rw[h1,ez],.inr h1,hr,h2]
   by_cases hm:t∈bW r
   .rw[decide_eq_true hm];lk;show#[XX,es,rfl,∅,λy=>?_];rw[hes y,split y];erw[hm,not_true,and_false,or_false]
   .rw[decide_eq_false hm];lk;show#[XX,es++[z],by simp,by simp;lia,λy=>?_];rw[aM,hes y,aJ,split y];erw[hm,not_false_eq_true,and_true]
  rintro ys H17 ⟨XX,es,rfl,hel,hes⟩ ex H18 n18;rw[aq] at hel hes;rw[b9] at hes;let L18:=(L16.same XX).new n18;let hex:=n18.self;let aqh:=L18.hc;let hcl:(Go.map V.int).length<=8100000:=by rw[aq];lia
  let aqi:(es.map V.int).length<=4000:=by rw[aq];lia
  clear n18 XX L16 XT XU XW afL hle;lk;ext H19 p19;rw[<- bq] at p19;let L19:=L18.aft AP p19;show#[_,?_,Go++es,ss++[y],_,rfl,L19,D.step hy (λz=>?_) ∅,rfl]
  .have hlt:ss.length<rs.length:=by let d2:=(D.step (es:=es) hy (λz=>?_) ∅).few;rw[aT] at d2;simp at d2;lia;rw[hes z];constructor;rintro⟨k,r,h1,h2,h3,h4⟩;let#[k',r',_,e1,e2,e3]:=(QI z).mp h2;let e:k'=k:=∅;subst e;rw[h3] at e2;cases e2;show#[k',ky,r,h1,XR,h3,e3,h4];rintro⟨k,j,r,h1,h2,h3,h4,h5⟩;let e:j=ky:=∅;subst e;show#[k,r,h1,(QI z).mpr #[k,r,(gq h3).1,h1,h3,h4],h3,h5]
   rw[aT,aT,aT,iB];show abo hlt ∅
  .rw[hes z];constructor;rintro⟨k,r,h1,h2,h3,h4⟩;let#[k',r',_,e1,e2,e3]:=(QI z).mp h2;let e:k'=k:=∅;subst e;rw[h3] at e2;cases e2;show#[k',ky,r,h1,XR,h3,e3,h4];rintro⟨k,j,r,h1,h2,h3,h4,h5⟩;let e:j=ky:=∅;subst e;show#[k,r,h1,(QI z).mpr #[k,r,(gq h3).1,h1,h3,h4],h3,h5]
 .rintro Y' H9 ⟨⟨x5,x6,x7,x8,rfl⟩,s9,t9,SO,hl9,SQ⟩;lk;show q f as H9 (s5.trans s9) (s5.free f5) SO ∅ nd (λa h=>s5.free (abu a h).1) fa λk a e=>?_;let#[vs,h1,h2]:=SQ k a e;show#[vs,h1,?_];rw[afG.length,b9,Vd hok hup (λq=>?_) k] at h2;show h2;rw[hmem q];constructor;rintro⟨ps,Ty,hq⟩;let#[r,hr,rfl]:=aQ.mp Ty;show#[r,hr,hq];rintro⟨r,hr,hq⟩;show#[_,aQ.mpr #[r,hr,rfl],hq]
noncomputable def iO(rs:List bv)(j:O):Bool:=decide ((if j=0 then 1 else 2)<=cnt rs j)
noncomputable def gB(rs:List bv):List Int:=((List.range bp).filter^iO rs).map λ(j:O)=>(j:M)
def qb(rs:List bv)(i:O):List Int:=((List.range i).filter^iO rs).map λ(j:O)=>(j:M)
def CA(rs:List bv)(i:O):qb rs (i+1)=qb rs i++if iO rs i=ag then[(i:M)] else[]:=by unfold qb;rw[List.range_succ,lu,bq];congr 1;by_cases h:iO rs i=ag;simp[h];simp[h]
def E1(rs:List bv)(i:O):(qb rs i).length<=i:=by unfold qb;rw[aq];show bP (j7 _ _) (by rw[uF];show ay _)
inductive Vk(K_:aC)(vs:List V)(H:Hp)(Q:VK)(z:XK):Prop|mk(p:Addr)(us:List V)(rs:List Row)(z:vs=[¬p])(z:H p=!.lst us)(z:Rows H us rs)(z:(∀r∈rs,r.ok rs.length))(z:rs.length<=2000)(z:∀f H',az H H'->H f=none->H' f=!.lst^(gB rs).map V.int->Q (¬f) H')
theorem QJ:T.meets∩(4,Vk K_):=by
 exists T.meets,Qn,#[p,us,rs,rfl,hp,Tk,hok,hl,q],"-:Ñ¶!{*/wL *0·2[k0ak1qS'WV m!°±*1ZU0FF0",1,["place", "some"],bQ.pz (x := "place"),(show(["place", "some"]:List Str).Nodup from ()),(show(["place", "some"]:List Str).Nodup from ()),yG (K:=K_) rfl;lk;show#[p,us,rs,Z,hp,Tk,hok,hl,λf H1 as s1 hf Os j hL=>?_];lk;show Jq (λi zs τ H'=>A3 (az H1 H') (zs=(qb rs i).map V.int) (E2 λx y=>τ=[x,y])) ?_ ?_ ?_ ?_ ?_;show#[az.refl _,Z,_,_,Z];rintro i zs τ H' hi ⟨sm,rfl,x,y,rfl⟩;show#[bI.of^sm _ _ hf,by rw[aq];show E1 rs i];rw[aq];lia
 .rintro i x p zs τ H' H2 hx ⟨sm,rfl,x0,y0,rfl⟩ n2;rw[bJ] at hx;let#[a,ha,Z]:=cU.mp hx;let#[l,el,hll]:=hL i a ha;let e2:H2 a=!.lst^l.map V.int:=n2.keep^sm _ _ el;let e:=CA rs i;let hml:(l.map V.int).length=l.length:=aq _;let hm:iO rs i=decide ((if i=0 then 1 else 2)<=d4):=by rw[hll];rfl
  lk
  .show#[by walk_at "same", ?_,_,_,Z];rw[e,if_pos (by rw[hm];show decide_eq_true (by split<;>lia))];simp
  .show#[by walk_at "same", ?_,_,_,Z];rw[e,if_neg (by rw[hm];show λz=>absurd (of_decide_eq_true z) (by split<;>lia))];simp
  .show#[by walk_at "same", ?_,_,_,Z];rw[e,if_pos (by rw[hm];show decide_eq_true (by split<;>lia))];simp
  .show#[by walk_at "same", ?_,_,_,Z];rw[e,if_neg (by rw[hm];show λz=>absurd (of_decide_eq_true z) (by split<;>lia))];simp
 .rintro zs τ H' ⟨sm,rfl,x,y,rfl⟩ g H2 n2;show q g H2 (by walk_at "same") (by walk_at "free") ?_;rw[n2.self,aq,Os];rfl
noncomputable def Row.gv(r:bv)(s:M):Int:=if r.gc&&(decide (r.sd=s)||decide (r.sd=2)) then r.kK.headD 0 else -1
noncomputable def Row.rd(r:bv)(s:M):List Int:=if r.gc&&not (decide (r.sd=s)||decide (r.sd=2)) then[] else r.wK
def Bk{bs:List M}(hb:∀b∈bs,0<=b/\b<8)(hs:s=0\/s=1):(s,b)∈ny r bs↔iN r s=ag/\b∈bs:=by unfold ny;rw[lA];constructor;rintro⟨s',_,h⟩;split at h;ext U9;let#[b',hb1,e]:=aQ.mp h;cases e;show#[U9,(SN.pR hb b).mp hb1];show nomatch h;rintro⟨h1,h2⟩;show#[s,by simpa using hs,?_];rw[if_pos h1];show aQ.mpr #[b,(SN.pR hb b).mpr h2,Z]
def Bl(h:r.ok n)(hs:s=0\/s=1):(s,b)∈eX r↔b∈r.rd s:=by unfold eX Row.rd;rw[Bk (λb hb=>qR h b^Cy b hb) hs];unfold iN;cases r.gc<;>cases decide (r.sd=s)<;>cases decide (r.sd=2)<;>simp
def zB(h:r.gc=ag):r.kK.take 1=[r.kK.headD 0]:=by cases r<;>first|rfl|cases h
theorem qc(h:r.ok n)(hs:s=0\/s=1)(hb:0<=b):(s,b)∈bW r↔r.gv s=b:=by
 unfold bW Row.gv;by_cases hd:r.gc=ag
 .rw[if_pos hd,Bk (λb hb=>qR h b^List.take_subset _ _ hb) hs,zB hd,aJ];unfold iN;rw[hd];cases decide (r.sd=s)<;>cases decide (r.sd=2)<;>simp<;>first|lia|show#[λe=>e.symm,λe=>e.symm]
 .rw[if_neg hd];have:r.gc=false:=by simpa using hd
  rw[this];simp;lia
theorem afO(h:r.ok n)(s:M):r.gv s<8:=by
 unfold Row.gv;split
 .rename_i e;let hd:r.gc=true:=by cases hr:r.gc<;>simp[hr] at e ⊢
  show(qR h (r.kK.headD 0)^List.take_subset 1 _ (by rw[zB hd];simp)).2
 .lia
def getD_at{l:List α}{x d:α}(h:l[k]?=!x):l.getD k d=x:=by rw[xm,h];rfl
section
variable {rs:List bv}{s:M}{ms:List O}(hs:s=0\/s=1)(hok:∀r∈rs,r.ok bp)
include hs hok
end
open HM in
noncomputable def Row.ends(r:bv):fX->cf
 | none=>z9 (.str r.key) [.str "mark", .str "out", .str "back"]
 | some p=>z9 (.str r.key) [.str "look", .str "out", .str "back"] && decide (r.kK.headD 0=p.2)
open HM in
def LeftOf(r:bv):fX->fX->eL
 | none,u=>r.ends aw=bj/\u=aw
 | some p,u=>r.ends^some p=bj/\((u=!p/\r.gv p.1≠p.2)\/(u=!(p.1,r.gv p.1)/\0<=r.gv p.1/\p.2∈r.rd p.1))
open HM in
def fX.lv(rs:List bv)(k:O):fX->eL
 | none=>True
 | some p=>p∈kY rs k
open HM in
def Kg(rs:List bv)(r:bv)(t:fX)(z:bY):Prop:=z.1∈r.ways/\LeftOf r t z.2/\fX.lv rs z.1.toNat z.2
open HM in
def SS:fX->eL
 | none=>True
 | some p=>(p.1=0\/p.1=1)/\0<=p.2/\p.2<8
theorem LeftOf.ok(h:r.ok n){u:HM.fX}(ht:SS t)(l:LeftOf r t u):SS u/\u.isSome=t.isSome:=by
 cases t with
 | none=>rw[l.2];show#[trivial,Z]
 | some p =>
  rcases l.2 with⟨rfl,_⟩|⟨rfl,h0,_⟩;show#[ht,Z];show#[#[ht.1,h0,afO h _],Z]
theorem Kh{α:Type}(f:α->M):∀{xs ys:List α},xs.Pairwise (λp q=>f p<f q)->ys.Pairwise (λp q=>f p<f q)->(∀p,p∈xs↔p∈ys)->xs=ys
 | [],[],_,_,_=>rfl
 | [],y::ys,_,_,h=>absurd ((h y).mpr^by simp) (by simp)
 | x::xs,[],_,_,h=>absurd ((h x).mp^by simp) (by simp)
 | x::xs,y::ys,hx,hy,h=>by
  let h1:=uI.mp hx;let h2:=uI.mp hy;let e:x=y:=by rcases aP.mp ((h x).mp^by simp) with e|e;show e;rcases aP.mp ((h y).mpr^by simp) with e'|e';show e'.symm;have:=h1.1 _ e';have:=h2.1 _ e;lia
  subst e;rw[Kh f h1.2 h2.2 λp=>?_];constructor
  .intro hp;rcases aP.mp^(h p).mp^d8 _ hp with e|e;rw[e] at hp;have:=h1.1 _ hp;lia;show e
  .intro hp;rcases aP.mp^(h p).mpr^d8 _ hp with e|e;rw[e] at hp;have:=h2.1 _ hp;lia;show e
noncomputable def fq(r:bv):HM.fX->List HM.fX
 | none=>if r.ends aw then[] else[none]
 | some p=>if r.ends^!p then[] else(if p∈bW r then[] else[!p])++if p∈eX r then((bW r).filter λq=>decide (q.1=p.1)).map some else[]
theorem Mj(b:M):(SN.f9 [b]).length<=1:=by
 let h1:=SN.DZ [b];let h2:∀n∈SN.f9 [b],n=b:=λn hn=>by unfold SN.f9 at hn;let#[k,hk,Z]:=aQ.mp hn;have:=(fT.mp hk).2;simpa using this
 match h:SN.f9 [b] with
 | []=>simp
 | [_]=>simp
 | x::y::l =>
  rw[h] at h1 h2;let e1:=h2 x (by simp);let e2:=h2 y (by simp);have:=(uI.mp h1).1 y (by simp);lia
theorem HR(r:bv)(hs:s=0\/s=1):((bW r).filter λq=>decide (q.1=s)).length<=1:=by
 unfold bW;split
 .rename_i hd;let e:=zB hd;rw[e];unfold ny;let l1:=Mj^r.kK.headD 0;generalize r.kK.headD 0=hd0 at l1 ⊢;let all:∀(s':M),(((SN.f9 [hd0]).map λb=>(s',b)).filter λq=>decide (q.1=s))=if s'=s then(SN.f9 [hd0]).map λb=>(s',b) else[]:=λs'=>by split;ext e;rw[List.filter_eq_self];intro x hx;let#[b,_,Z]:=aQ.mp hx;simpa using e;ext e;rw[List.filter_eq_nil_iff];intro x hx;let#[b,_,Z]:=aQ.mp hx;simpa using e
  erw[nX,List.flatMap_nil,cZ,lu,aT];rcases hs with rfl|rfl
  .have a0:=all 0;let a1:=all 1;cases h0:iN r 0<;>cases h1:iN r 1<;>erw[if_true,cK,if_false,a0,a1,List.filter_nil,List.length_nil]<;>simp<;>lia
  .have a0:=all 0;let a1:=all 1;cases h0:iN r 0<;>cases h1:iN r 1<;>erw[if_true,cK,if_false,a0,a1,List.filter_nil,List.length_nil]<;>simp<;>lia
 .simp
theorem Ml(r:bv):(bW r).length<=16:=by
 unfold bW;split
 .unfold ny;let h:=mh^r.kK.take 1;erw[nX,List.flatMap_nil,cZ,aT];let e:∀s:M,(if iN r s=ag then(SN.f9^r.kK.take 1).map λb=>(s,b) else[]).length<=8:=λs=>by split<;>simp[h]
  let h0:=e 0;let h1:=e 1;lia
 .simp
theorem zC(r:bv)(ht:SS t):(fq r t).length<=2:=by
 cases t with
 | none=>unfold fq;dsimp only;split<;>simp
 | some p =>
  unfold fq;dsimp only;have:=HR r (s:=p.1) ht.1;split;simp
  .rw[aT];let h1:(if p∈bW r then([]:List HM.fX) else[!p]).length<=1:=by split<;>simp
   let h2:(if p∈eX r then((bW r).filter λq=>decide (q.1=p.1)).map some else([]:List HM.fX)).length<=1:=by split;rw[aq];show this;simp
   lia
def Mm(h:r.ok n)(hg:(s,b)∈bW r):0<=b:=by
 unfold bW at hg;split at hg
 .have:=EY (λb hb=>qR h b^List.take_subset _ _ hb) hg;let all:∀q∈eF,0<=q.2:=()
  show all _ this
 .show nomatch hg
def kG(h:r.ok n)(ht:SS t)(u:HM.fX):u∈fq r t↔LeftOf r t u:=by
 cases t with
 | none =>
  unfold fq LeftOf;dsimp only;cases r.ends none<;>simp
 | some p =>
  let#[hs,hb0,SJ]:=ht;let#[s,b]:=p;dsimp only at hs hb0 SJ;unfold fq LeftOf;dsimp only;cases r.ends^some (s,b) with
  | true=>simp
  | false =>
   erw[cK,if_false,true_and];rw[aM];let e1:u∈(if(s,b)∈bW r then([]:List HM.fX) else[!(s,b)])↔(u=!(s,b)/\r.gv s≠b):=by let m_:=qc h hs hb0;split;ext e;simp[m_.mp e];ext e;simp[show Not (r.gv s=b) from λz=>e^m_.mpr z]
   let e2:u∈(if(s,b)∈eX r then((bW r).filter λq=>decide (q.1=s)).map some else([]:List HM.fX))↔(u=!(s,r.gv s)/\0<=r.gv s/\b∈r.rd s):=by
    let mr:=Bl h hs (b:=b);split
    .rename_i e;replace e:=mr.mp e;rw[aQ];constructor
     .rintro⟨⟨s',b'⟩,hq,rfl⟩;let#[hg,hq2]:=fT.mp hq;let hq2:s'=s:=by simpa using hq2
      subst hq2;let P2:0<=b':=Mm h hg;have:=(qc h hs P2).mp hg;rw[this];show#[Z,P2,e]
     .rintro⟨rfl,h0,_⟩;show#[(s,r.gv s),fT.mpr #[(qc h hs h0).mpr Z,by simp],Z]
    .rename_i e;simp[show Not (b∈r.rd s) from λz=>e^mr.mpr z]
   rw[e1,e2]
def lvB(rs:List bv)(k:O):HM.fX->cf
 | none=>true
 | some p=>decide (p∈kY rs k)
def Kl:lvB rs k t=ag↔fX.lv rs k t:=by cases t<;>simp[lvB,fX.lv]
def Vl(h:z9 (.str r.key) [.str "look", .str "out", .str "back"]=ag):qG r.vals 1=!.int^r.kK.headD 0:=by cases r<;>first|rfl|(show absurd (show z9 (.str "num") [.str "look", .str "out", .str "back"]=ag from h) ())|(show absurd (show z9 (.str "copy") [.str "look", .str "out", .str "back"]=ag from h) ())|(show absurd (show z9 (.str "op") [.str "look", .str "out", .str "back"]=ag from h) ())|(show absurd (show z9 (.str "mark") [.str "look", .str "out", .str "back"]=ag from h) ())
abbrev mq(H:Hp):List V->List HM.fX->Prop:=Paired λx t=>fP H t x
theorem mq.same{ts:List HM.fX}(h:mq H vs ts)(e:az H H'):mq H' vs ts:=dG (λz z x=>fP.same x e) h
inductive QK(vs:List V)(H:Hp)(Q:VK)(z:XK):Prop|mk(a tk gv:Addr)(x:V)(r:Row)(n:Int)(t:HM.fX)(us ws:List V)(z:vs=[¬a,x,¬tk,¬gv])(z:H a=!.tup r.vals)(z:r.ok n)(z:fP H t x)(z:SS t)(z:H tk=!.lst us)(z:cA H us^eX r)(z:H gv=!.lst ws)(z:cA H ws (bW r))(z:∀(l:Addr)(xs:List V)(H':Hp),az H H'->H l=none->H' l=!.lst xs->mq H' xs^fq r t->Q (¬l) H')
set_option maxHeartbeats 40000000 in
theorem vt:T.jk∩(1,QK):=by
 exists T.jk,lT,#[a,tk,gv,x,r,n,t,us,ws,rfl,ha,hok,hx,ht,KF,uT,hgv,hws,q],".?SÆ1~-:Zf<0o'T.qu.c PDg.?Xcf<0o'T.qv.c d¨<0<1-:P.=4ZsÙ13PD*1.?sÙ12-Gt4*hTH3q¨^!0F^!1F0-:4",5,(by with_unfolding_all rfl),(by with_unfolding_all rfl),(by with_unfolding_all rfl),(by with_unfolding_all rfl),"spot",["thing"],[1],["thing"],B6 (K:=K_) rfl,B6 (K:=K_) rfl;let cm:=T.qu.q;let cs:=T.qv.q;lk;show XA hx ?_;cases t with
 | none =>
  change F8 _ (.bl true) H;lk;split
  .rename_i he;lk;ext l H1 n1;show q l [] H1 n1.same n1.1 n1.self ?_;unfold fq;dsimp only;rw[if_pos^show r.ends none=true from he];show .nil
  .rename_i he;lk;ext l H1 n1;show q l _ H1 n1.same n1.1 n1.self ?_;unfold fq;dsimp only;rw[if_neg^show Not (r.ends none=true) from he];show .cons rfl .nil
 | some p =>
  change F8 _ (.bl false) H;let#[b,rfl,hb]:=hx;let hwl:=hws.length;let hgl:(bW r).length<=16:=Ml r;lk;let rest:r.ends^some p=false->nx0 [!.ref a,!.ref b,!.ref tk,!.ref gv,none] H:=by
   intro he;let em:fq r^some p=(if p∈bW r then[] else[!p])++if p∈eX r then((bW r).filter λq=>decide (q.1=p.1)).map some else[]:=by unfold fq;dsimp only;rw[he];rfl
   show abA _ _ ?_;lk;show JL hb (bI.of hgv) hws ?_;by_cases hg:p∈bW r
   case' pos =>
    rw[decide_eq_true hg];change F8 _ (.bl true) H;lk;ext f H1 n1;let bs:∃vs,H1 f=!.lst vs/\mq H1 vs (if p∈bW r then[] else[!p])/\vs.length<=1:=#[[],n1.self,by rw[if_pos hg];show .nil,aV _]
   case' neg =>
    rw[decide_eq_false hg];change F8 _ (.bl false) H;lk;ext f H1 n1;let bs:∃vs,H1 f=!.lst vs/\mq H1 vs (if p∈bW r then[] else[!p])/\vs.length<=1:=#[[¬b],n1.self,by rw[if_neg hg];show .cons #[b,rfl,n1.keep hb] .nil,ay _]
   all_goals
    let s1:=n1.same;let ff:=n1.1;clear n1;let#[vs,hf1,Oy,Op]:=bs;let hb1:=s1 _ _ hb;let ale:=s1 _ _ KF;let alf:=s1 _ _ hgv;let alg:=cA.same s1 uT;let alh:=cA.same s1 hws;show JL hb1 (bI.of ale) alg ?_;by_cases hr:p∈eX r
    .rw[decide_eq_true hr];change F8 _ (.bl true) H1;lk;show iI (xs:=ws) (λk zs H'=>H'=H1/\mq H1 zs^(((bW r).take k).filter λq=>decide (q.1=p.1)).map some) #[rfl,.nil] ?_ ?_ ?_;rintro k zs H' _ ⟨rfl,_⟩;show bI.of alf
     .rintro k y zs H' hy ⟨rfl,hz⟩;let#[t,abB,c,rfl,hc]:=bw alh hy;let hzl:=hz.length;rw[aq] at hzl;let hle:=j7 (λq:Int×Int=>decide (q.1=p.1))^(bW r).take k;rw[cC] at hle;show#[di ∅,?_];let et:(bW r).take (k+1)=(bW r).take k++[t]:=by rw[b8,abB];rfl
      lk;ext e;show#[rfl,?_];rw[et,lu,bq,xX^by simpa using e];show eU hz #[c,rfl,hc];ext e;show#[rfl,?_];rw[et,lu,bq,xW^by simpa using e];simpa using hz
     .rintro zs H' ⟨rfl,hz⟩ l H2 n2;rw[hwl,b9] at hz;let hzl:=hz.length;rw[aq] at hzl;let hle:=j7 (λq:Int×Int=>decide (q.1=p.1))^bW r;let Kb:=n2.keep hf1;let Pm:=n2.self;let s2:=n2.same;clear n2;lk;ext H3 p3;let s3:=p3.same (s1.trans s2) ff;let kp:∀{ys:List V}{ts:List HM.fX},mq H' ys ts->mq H3 ys ts:=λh=>dG (λv t x=>by
       cases t with
       | none=>show x
       | some u=>let#[c,e1,e2]:=x;show#[c,e1,p3.keep (by intro z;subst z;rw[hf1] at e2;cases e2)^s2 _ _ e2]) h
      show q f _ H3 s3 ff p3.self ?_;rw[em,if_pos hr];show kF (kp Oy)^kp hz
    .rw[decide_eq_false hr];change F8 _ (.bl false) H1;lk;show q f vs H1 s1 ff hf1 ?_;rw[em,if_neg hr,cZ];show Oy
  clear abA;cases he:z9 (.str r.key) [.str "look", .str "out", .str "back"];rw[if_neg (),if_neg ()];show Qy _^rest ?_;unfold Row.ends;dsimp only;rw[he];rfl
  .rw[if_pos rfl];lk;show rX (dD.of ha) (Vl he) ?_;lk
   .rename_i e l H1 n1;show q l [] H1 n1.same n1.1 n1.self ?_;have:r.ends^some p=true:=by unfold Row.ends;dsimp only;rw[he,decide_eq_true e];rfl
    unfold fq;dsimp only;rw[this];show .nil
   .rename_i e;show rest ?_;unfold Row.ends;dsimp only;rw[he,decide_eq_false e];rfl
def kH(rs:List bv)(r:bv)(t:HM.fX)(ks:List HM.bY):=ks.Pairwise (λx y=>HM.vm x<HM.vm y)/\∀z,z∈ks↔Kg rs r t z
inductive QL(vs:List V)(H:Hp)(Q:VK)(j:XK):Prop|mk(o th lv:Addr)(ws:List Int)(xs:List V)(ts:List HM.fX)(as:List Addr)(rs:List Row)(j:vs=[¬o,¬th,¬lv])(j:H o=!.lst^ws.map V.int)(j:ws.length<=2)(j:(∀q∈ws,0<=q/\q<rs.length))(j:H th=!.lst xs)(j:mq H xs ts)(j:ts.length<=2)(j:(∀t∈ts,SS t))(j:(∀t∈ts,∀u∈ts,t.isSome=u.isSome))(j:H lv=!.lst^as.map V.ref)(j:as.length=rs.length)(j:Bj H as rs)(j:∀(l:Addr)(vs:List V)(ks:List HM.bY)(H':Hp),az H H'->H l=none->H' l=!.lst vs->cF H' vs ks->ks.Pairwise (λx y=>HM.vm x<HM.vm y)->(∀z,z∈ks↔z.1∈ws/\z.2∈ts/\fX.lv rs z.1.toNat z.2)->Q (¬l) H')
set_option maxHeartbeats 40000000 in
theorem HS:T.xH∩(1,QL):=by
 exists T.xH,qP,#[o,th,lv,ws,xs,ts,as,rs,rfl,ho,hw2,hw,hth,hxs,ht2,KF,Os,Hl,D7,hL,q],".=3P.LH0B4-Gt3*hTH1qXzS!0~ªs!0^!12>+2*0-:¹!*u!ÂÃ*3",5,"thing",["lively", "way"],[2,4],["way", "lively"],TV (K:=K_) rfl hr.units,JK (K:=K_) rfl hr.units,lP (K:=K_) rfl,(by with_unfolding_all rfl),Hq hr.units rfl,LS hr.units rfl;lk;ext f H1 n1;let ff:=n1.1;let s1:=n1.same;let hf1:=n1.self;clear n1;show f_list (xs:=ws.map V.int) (λi Y' H'=>A3 ((∃y,Y'=[!.ref o,!.ref th,!.ref lv,!.ref f,y])) (az H H') (E2 λ(vs:List V)(ks:List HM.bY)=>A4 (H' f=!.lst vs) (cF H' vs ks) (ks.length<=2*i) (∀z,z∈ks↔z.1∈ws.take i/\z.2∈ts/\fX.lv rs z.1.toNat z.2))) ?_ ?_ ?_ ?_;show#[#[_,rfl],s1,[],[],hf1,.nil,aV _,λz=>by simp];rintro i Y' H' _ ⟨_,s',_⟩;show bI.of^s' _ _ ho
 .rintro i x Y' H2 hx ⟨⟨y0,rfl⟩,s2,vs,ks,Kb,hks,tU,hmem⟩;rw[bJ] at hx;let#[q0,hqi,rfl]:=cU.mp hx;let#[hq0,hq1]:=hw q0^jd hqi;let Hm:=(gq hqi).1;obtain⟨j,rfl⟩:∃j:Nat,q0=(j:Int):=#[q0.toNat,∅];obtain⟨a,ha⟩:∃a,as[j]?=some a:=#[_,iR ∅];let#[us,uT,Ty]:=hL j a ha;let afs:=s2 _ _ uT;let QM:=Ty.same s2;let abD:=s2 _ _ hth;let abE:=hxs.same s2;let Vm:=s2 _ _ Hl;let P7:=hxs.length;let hnf:∀{b:Addr}{o:HO},H b=!o->b≠f:=λe z=>by rw[z,ff] at e;cases e
  lk;show iI (xs:=xs) (λk zs H'=>az H2 H'/\∃Ga:List HM.bY,cF H' zs Ga/\Ga.length<=k/\∀z,z∈Ga↔z.1=(j:Int)/\z.2∈ts.take k/\fX.lv rs j z.2) #[az.refl _,[],.nil,aV _,λz=>by simp] ?_ ?_ ?_;rintro k zs H' _ ⟨s',_⟩;show bI.of^s' _ _ abD
  .rintro k y zs H3 hy ⟨s3,Ga,GT,ali,Ki⟩;let#[t,abB,hyt]:=bw abE hy;let abF:=fP.same hyt s3;let hkb:=(gq hy).1;let hzl:=GT.length;show#[di ∅,?_];lk;show XA abF ?_;let step:∀b:Bool,lvB rs j t=b->(b=true->∀(u:Addr)(H4:Hp),gX H3 u (.tup [.int (j:Int),y]) H4->az H2 H4/\∃Ga:List HM.bY,cF H4 (zs++[¬u]) Ga/\Ga.length<=k+1/\∀z,z∈Ga↔z.1=(j:Int)/\z.2∈ts.take (k+1)/\fX.lv rs j z.2)/\(b=false->az H2 H3/\∃Ga:List HM.bY,cF H3 zs Ga/\Ga.length<=k+1/\∀z,z∈Ga↔z.1=(j:Int)/\z.2∈ts.take (k+1)/\fX.lv rs j z.2):=by
    intro b hb;let et:ts.take (k+1)=ts.take k++[t]:=by rw[b8,abB];rfl
    show#[λe u H4 n4=>#[s3.trans n4.same,Ga++[((j:Int),t)],eU (cF.same GT n4.same) #[u,y,rfl,n4.self,fP.same abF n4.same],by simp;lia,λz=>?_],λe=>#[s3,Ga,GT,∅,λz=>?_]];rw[e] at hb;rw[aM,Ki z,et,aM,aJ,aJ];constructor;rintro(⟨h1,h2,h3⟩|rfl);show#[h1,.inl h2,h3];show#[rfl,.inr rfl,Kl.mp hb];rintro⟨h1,h2|h2,h3⟩;show .inl #[h1,h2,h3];show .inr^Prod.ext h1 h2;rw[e] at hb;rw[Ki z,et,aM,aJ];constructor;rintro⟨h1,h2,h3⟩;show#[h1,.inl h2,h3];rintro⟨h1,h2|h2,h3⟩;show#[h1,h2,h3];rw[h2] at h3;rw[Kl.mpr h3] at hb;cases hb
   cases t with
   | none =>
    change F8 _ (.bl true) H3;lk;ext u H4 n4;show(step true rfl).1 rfl u H4 n4
   | some p =>
    change F8 _ (.bl false) H3;let#[b,rfl,hb]:=abF;let abG:=s3 _ _ Vm;let Mg:=s3 _ _ afs;lk;show cj (bI.of abG) (v:=¬a) (dM (by rw[bJ,ha];rfl)) ?_;lk;show JL hb (bI.of Mg) (cA.same s3 QM) ?_;by_cases hm:p∈kY rs j
    .rw[decide_eq_true hm];change F8 _ (.bl true) H3;lk;ext u H4 n4;show(step true^decide_eq_true hm).1 rfl u H4 n4
    .rw[decide_eq_false hm];change F8 _ (.bl false) H3;lk;show(step false^decide_eq_false hm).2 rfl
  .rintro zs H3 ⟨s3,Ga,GT,ali,Ki⟩ l H4 n4;let Mn:=n4.keep^s3 _ _ Kb;let alj:=cF.same (cF.same hks s3) n4.same;let hzl:=GT.length;let Op:=hks.length;let XY:=n4.self;let hk4:=cF.same GT n4.same;let E6:=(s2.trans s3).trans n4.same;clear n4;lk;ext H5 p5;let s5:=p5.same E6 ff;let sp:∀(v:V)(k:HM.bY),bD H4 v k->bD H5 v k:=λv k ⟨a1,u,e1,e2,e3⟩=>#[a1,u,e1,p5.keep (by intro z;subst z;rw[Mn] at e2;cases e2) e2,by
    revert e3;generalize k.2=k2;intro e3;cases k2 with
    | none=>show e3
    | some p=>let#[b,e4,e5]:=e3;show#[b,e4,p5.keep (by intro z;subst z;rw[Mn] at e5;cases e5) e5]]
   show#[#[_,rfl],s5,_,ks++Ga,p5.self,kF (dG sp alj)^dG sp hk4,by simp;lia,λz=>?_];rw[aM,hmem z,Ki z,b8,hqi,aM,P7,b9];erw[pN,aJ];constructor;rintro(⟨h1,h2,h3⟩|⟨h1,h2,h3⟩);show#[.inl h1,h2,h3];show#[.inr h1,h2,by rw[h1];show h3];rintro⟨h1|h1,h2,h3⟩;show .inl #[h1,h2,h3];show .inr #[h1,h2,by rw[h1] at h3;show h3]
 .rintro Y' H2 ⟨⟨y0,rfl⟩,s2,vs,ks,Kb,hks,tU,hmem⟩;rw[aq] at tU hmem;lk;show aa6 (bI.of Kb) hks ∅ ?_;intro p H3 zs n3 hz hzm;lk;let Sr:∀z∈zs,z.1.2∈ts:=λz Ix=>((hmem z.1).mp^(hzm _).mp^aQ.mpr #[z,Ix,rfl]).2.1;show UP n3.self (λz Ix=>(hz z Ix).same n3.same) (λz Ix p hp=>?_) (λz Ix y hy=>Os _ (Sr z Ix) _^Sr y hy) ?_;have:=KF _^Sr z Ix;rw[hp] at this;let#[h1,h2,h3]:=this;lia
  .intro l H4 vs4 ks4 n4 h4 m4 u4;show q l vs4 ks4 H4 ((s2.trans n3.same).trans n4.same) ((s2.trans n3.same).free n4.1) n4.self (cF.same h4 n4.same) u4 λz=>by rw[m4,hzm,hmem,b9]
theorem CB(h:Rows H us rs){p:O}(hr:rs[p]?=!r):∃a,qG us (p:M)=!.ref a/\H a=!.tup r.vals:=by let hp:p<rs.length:=(gq hr).1;let hl:=h.length;let#[y,hy,a,e,ha]:=bw h (i:=p) (x:=us[p]'∅) (by simp[show p<us.length by lia]);rw[hr] at hy;cases hy;show#[a,dM (by rw[<- e];simp[show p<us.length by lia]),ha]
def QN(H0 H:Hp)(rs:List bv)(r:bv)(bs:List ae)(ts:List HM.fX):=bs.length=ts.length/\∀(i:O)(b:ae)(t:HM.fX),bs[i]?=!b->ts[i]?=!t->H0 b=aw/\∃vs ks,H b=!.lst vs/\cF H vs ks/\kH rs r t ks
inductive Mp(vs:List V)(H:Hp)(Q:VK)(z:XK):Prop|mk(a th lv:Addr)(r:Row)(xs:List V)(ts:List HM.fX)(as:List Addr)(rs:List Row)(z:vs=[¬a,¬th,¬lv])(z:H a=!.tup r.vals)(z:r.ok rs.length)(z:H th=!.lst xs)(z:mq H xs ts)(z:ts.length<=20)(z:(∀t∈ts,SS t))(z:H lv=!.lst^as.map V.ref)(z:as.length=rs.length)(z:Bj H as rs)(z:∀(l:Addr)(bs:List Addr)(H':Hp),az H H'->H l=none->H' l=!.lst^bs.map V.ref->QN H H' rs r bs ts->Q (¬l) H')
set_option maxHeartbeats 40000000 in
theorem E9:T.tR∩(4,Mp):=by
 exists T.tR,kU,#[a,th,lv,r,xs,ts,as,rs,rfl,ha,hok,hth,hxs,Ao,hts,Hl,D7,hL,q],".=3/ET *0.=4/EU *0.=5/zp *0-:hTH1R/HS +5+/vt +1+0+3*4*2",6,"thing",["row", "lively", "taken", "given", "onward"],[0,2,3,4,5],["taken", "row", "onward", "lively", "given"];lk;show#[a,r,rs.length,rfl,ha,hok,λtk us H1 s1 y KF uT=>?_];lk;show#[a,r,rs.length,rfl,s1 _ _ ha,hok,λgv ws H2 s2 y hgv hws=>?_];lk;show#[a,r,rfl,s2 _ _^s1 _ _ ha,λwy H3 s3 y hwy=>?_];let w5:=s2.trans s3;let Nl:=s1.trans w5;let alk:=w5 _ _ KF;let Mg:=uT.same w5;let alm:=s3 _ _ hgv;let aln:=hws.same s3;let Vn:=Nl _ _ ha;let alo:=Nl _ _ hth;let afQ:=hxs.same Nl;let abG:=Nl _ _ Hl;let hL3:Bj H3 as rs:=λk a e=>let⟨vs,h1,h2⟩:=hL k a e;#[vs,Nl _ _ h1,h2.same Nl];clear s1 s2 s3 w5 KF uT hgv hws ha hth hxs Hl hL;let P7:=afQ.length;lk;show iI (xs:=xs) (λi ys H'=>az H3 H'/\∃bs:List Addr,ys=bs.map V.ref/\QN H H' rs r bs^ts.take i) #[az.refl _,[],rfl,by simp,λi b t h=>by simp at h] ?_ ?_ ?_;rintro i ys H' _ ⟨s',_⟩;show bI.of^s' _ _ alo
 .rintro i x ys H4 hx ⟨s4,bs,rfl,hbl,HU⟩;let#[t,hti,hxt]:=bw afQ hx;let Hm:=(gq hx).1;rw[cC] at hbl;show#[di (by rw[aq];lia),?_];let JD:=hts t^jd hti;lk;show#[a,tk,gv,x,r,rs.length,t,us,ws,rfl,s4 _ _ Vn,hok,fP.same hxt s4,JD,s4 _ _ alk,Mg.same s4,s4 _ _ alm,aln.same s4,λth2 xs2 H5 s5 y abD abE=>?_];lk;let QO:=s4.trans s5;show#[wy,th2,lv,r.ways,xs2,fq r t,as,rs,rfl,QO _ _ hwy,Row.zh r,λq hq=>?_,abD,abE,zC r JD,λu hu=>((kG hok JD u).mp hu |>.ok hok JD).1,λu hu v hv=>?_,QO _ _ abG,D7,λk a e=>let⟨vs,h1,h2⟩:=hL3 k a e;#[vs,QO _ _ h1,h2.same QO],λl vs6 ks6 H6 s6 fl hl6 hk6 u6 m6=>?_];show Row.xN hok q hq;rw[((kG hok JD u).mp hu |>.ok hok JD).2,((kG hok JD v).mp hv |>.ok hok JD).2]
  .have s36:=QO.trans s6;show#[s36,bs++[l],by simp,by simp;lia,λj b t' hb ht'=>?_];rcases dg j bs.length with hlt|hge
   .rw[BD hlt] at hb;let hj:j<i:=∅;rw[uD ∅] at ht';let#[h0,vs,ks,h1,h2,h3]:=HU j b t' hb (by rw[uD hj];show ht');show#[h0,vs,ks,(s5.trans s6) _ _ h1,cF.same h2^s5.trans s6,h3]
   .rw[xZ hge] at hb;let hj:j=i:=by have:=(gq hb).1;simp at this;lia
    subst hj;rw[uD ∅,hti] at ht';cases ht';rw[show j-bs.length=0 by lia] at hb;cases hb;show#[(Nl.trans QO).free fl,vs6,ks6,hl6,hk6,u6,λz=>?_];rw[m6 z,kG hok JD];rfl
 .rintro ys H4 ⟨s4,bs,rfl,HU⟩ l H5 n5;rw[P7,b9] at HU;show q l bs H5 ((Nl.trans s4).trans n5.same) ((Nl.trans s4).free n5.1) n5.self #[HU.1,λi b t hb ht=>?_];let#[h0,vs,ks,h1,h2,h3]:=HU.2 i b t hb ht;show#[h0,vs,ks,n5.keep h1,cF.same h2 n5.same,h3]
def fu(H:Hp)(rs:List bv)(kvs:gZ):=∀x∈kvs,∃(a:ae)(vs:List V)(ks:List HM.bY)(k:O)(r:bv),x.2.2=¬a/\H a=!.lst vs/\cF H vs ks/\x.1.1=(k:M)/\rs[k]?=!r/\kH rs r x.1.2 ks
def dj(rs:List bv)(k:O):List HM.fX:=(kY rs k).map some++[none]
def cG(rs:List bv)(n:O):List HM.bY:=(List.range n).flatMap λk=>(dj rs k).map λt=>((k:M),t)
def fP.Fb(h:fP H t v)(hf:H f=!.ext φ)(p:mT H f o H'):fP H' t v:=by
 cases t with
 | none=>show h
 | some p2=>let#[b,e1,e2]:=h;show#[b,e1,p.keep (by intro z;subst z;rw[hf] at e2;cases e2) e2]
theorem bD.Fb{k:HM.bY}(h:bD H v k)(hf:H f=!.ext φ)(p:mT H f o H'):bD H' v k:=by let#[a,u,e,h1,h2]:=h;show#[a,u,e,p.keep (by intro z;subst z;rw[hf] at h1;cases h1) h1,fP.Fb h2 hf p]
theorem fu.same(h:fu H rs kvs)(s:az H H'):fu H' rs kvs:=λx hx=>by let#[a,vs,ks,k,r,h1,h2,h3,h4]:=h x hx;show#[a,vs,ks,k,r,h1,s _ _ h2,cF.same h3 s,h4]
theorem fu.Fb(h:fu H rs kvs)(hf:H f=!.ext φ)(p:mT H f o H'):fu H' rs kvs:=λx hx=>by let#[a,vs,ks,k,r,h1,h2,h3,h4]:=h x hx;show#[a,vs,ks,k,r,h1,p.keep (by intro z;subst z;rw[hf] at h2;cases h2) h2,dG (λq q x=>bD.Fb x hf p) h3,h4]
def HV(h:cA H vs ps):mq H vs^ps.map some:=by
 induction h with
 | nil=>show .nil
 | cons h _ ih=>show .cons h ih
theorem qS(rs:List bv)(k:O):(dj rs k).length<=17:=by have:=oZ rs k;unfold dj;simp;lia
def Bm(rs:List bv)(k:O):∀t∈dj rs k,SS t:=λt ht=>by
 unfold dj at ht;rcases aM.mp ht with ht|ht
 .let#[p,hp,Z]:=aQ.mp ht;let all:∀t∈eF,(t.1=0\/t.1=1)/\0<=t.2/\t.2<8:=()
  show all p (fT.mp hp).1
 .rw[aJ.mp ht];trivial
def qT(rs:List bv)(n:O):cG rs (n+1)=cG rs n++(dj rs n).map λt=>((n:M),t):=by unfold cG;rw[List.range_succ,xY];simp
theorem tV(rs:List bv):∀n,(cG rs n).length<=17*n
 | 0=>by simp[cG]
 | n+1=>by have:=tV rs n;let h:=qS rs n;rw[qT,aT,aq];lia
def Bo(rs:List bv)(k:O):(dj rs k).Nodup:=by unfold dj;rw[fB];show#[?_,by simp,λx hx y hy e=>?_];let h:(kY rs k).Nodup:=(List.Pairwise.filter _ (show eF.Pairwise (· ≠ ·) by decide));show nZ.mpr (h.imp λh e=>h^Option.some.inj e);let#[p,_,Z]:=aQ.mp hx;rw[aJ.mp hy] at e;cases e
theorem QS(h:(dj rs i)[j]?=!t):((i:M),t)∉cG rs i++((dj rs i).take j).map (λt=>((i:M),t)):=by
 intro hm;rcases aM.mp hm with hm|hm
 .unfold cG at hm;let#[k,hk,hz]:=lA.mp hm;let#[u,_,e]:=aQ.mp hz;let e1:(k:M)=(i:M):=congrArg Prod.fst e;have:=gJ.mp hk;lia
 .let#[u,hu,e]:=aQ.mp hm;let e2:u=t:=congrArg Prod.snd e;subst e2;let#[m,hm,e3]:=List.mem_take_iff_getElem.mp hu;let hj:=(gq h);let#[hjl,hje]:=hj;have:=(x9^Bo rs i).mp^e3.trans hje.symm;lia
inductive Mq(P_:Program)(w8:World)(vs:List V)(H:Hp)(Q:VK)(z:XK):Prop|mk(c:Addr)(us:List V)(rs:List Row)(z:vs=[¬c])(z:H c=!.lst us)(z:Rows H us rs)(z:(∀r∈rs,r.ok rs.length))(z:rs.length<=2000)(z:∀(d:Addr)(ep:Nat)(kvs:gZ)(H':Hp),az H H'->H d=none->H' d=!.ext (eW P_ w8 d ep kvs)->cX H' kvs->kvs.map (·.1)=cG rs rs.length->fu H' rs kvs->Q (¬d) H')
set_option maxHeartbeats 40000000 in
theorem HW:T.xJ∩(5,Mq P_ w8):=by
 exists T.xJ,gm,#[c,us,rs,rfl,hc,Tk,hok,hn,q],".=1/Ke *0.=2Ú.L{*0|2[B3aB4.=5WI13Dg-LÁ+5*/E9 +4+5*1|2[B6aB7-Û2>+3*67-:2",8;lk;show#[c,us,rs,rfl,hc,Tk,hok,hn,λlv as H1 s1 s Hl D7 s s s hL=>?_];lk;ext d ep H2 n2;let fd:=(show H d=none from s1.free n2.1);let s2:=s1.trans n2.same;let Qb:=n2.self;let Vm:=n2.keep Hl;let Xg:Bj H2 as rs:=λk a e=>let⟨vs,h1,h2⟩:=hL k a e;#[vs,n2.keep h1,h2.same n2.same];let fd1:=n2.1;let T0:=n2.same;clear n2;let zw:=Tk.length;show B5 (xs:=us) (λi Y' H'=>A3 ((E5 λy3 y4 y5 y6 y7=>Y'=[!.ref c,!.ref lv,!.ref d,y3,y4,y5,y6,y7])) (az H1 H') (E2 λep kvs=>A4 (H' d=!.ext (eW P_ w8 d ep kvs)) (cX H' kvs) (kvs.map (·.1)=cG rs i)^fu H' rs kvs)) ?_ ?_ ?_ ?_;show#[#[_,_,_,_,_,rfl],T0,ep,[],Qb,(λx hx=>nomatch hx),rfl,λx hx=>nomatch hx];rintro i Y' H' _ ⟨_,s',_⟩;show bI.of^s' _ _^s1 _ _ hc
 .rintro i x p Y' H3 H4 hx ⟨⟨y3,y4,y5,y6,y7,rfl⟩,s3,ep3,kvs,zy,hk3,em,hla⟩ n4;let#[r,Vg,a,rfl,ha]:=bw Tk hx;let Fc:=hok r^jd Vg;let XZ:az H1 H4:=s3.trans n4.same;let Nm:=n4.keep zy;let hk4:=hk3.same n4.same;let afR:=fu.same hla n4.same;lk;let Hm:=(gq Vg).1;obtain⟨al,Os⟩:∃a,as[i]?=some a:=#[_,iR ∅];let#[ws,hws,Ty]:=hL i al Os;let alv:=XZ _ _ hws;let hwl:=Ty.length;let hll:=oZ rs i;clear n4 zy hk3 hla;show cj (bI.of^XZ _ _ Hl) (v:=¬al) (dM (by rw[bJ,Os];rfl)) ?_;lk;ext mk H5 n5 tg H6 n6;let s46:=n5.same.trans n6.same;let s16:=XZ.trans s46;let htg:=n6.self;let hts:mq H6 (ws++[.str "mark"])^dj rs i:=kF (HV^Ty.same s16)^.cons rfl .nil;let Vo:=s46 _ _ Nm;let hk6:=hk4.same s46;let alw:=fu.same afR s46;clear n5 n6 s46 Nm hk4 afR alv;show#[a,tg,lv,r,_,dj rs i,as,rs,rfl,s16 _ _^s1 _ _ ha,Fc,htg,hts,bP (qS rs i) (),Bm rs i,s16 _ _ Hl,D7,λk a e=>let⟨vs,h1,h2⟩:=hL k a e;#[vs,s16 _ _ h1,h2.same s16],λl bs H7 s7 s hl HU=>?_];lk;let SV:=s7 _ _ Vo;let hk7:=hk6.same s7;let QT:=fu.same alw s7;let alx:=hts.same s7;let aly:=s7 _ _ htg;let hbl:=HU.1;let Ao:=hts.length;let tU:kvs.length<=17*rs.length:=by let h1:=congrArg List.length em;rw[aq] at h1;let h2:=tV rs i;let h3:17*i<=17*rs.length:=Nat.mul_le_mul_left _ ∅;lia
  let hld:l≠d:=λz=>by rw[z,SV] at hl;cases hl
  let htd:tg≠d:=λz=>by rw[z,Vo] at htg;cases htg
  let afT:=qS rs i;show aeH (t1:=false) (t2:=false) (λj Y' H'=>A3 ((E2 λy6 y7=>Y'=[!.ref c,!.ref lv,!.ref d,!.int (i:Int),!.ref a,!.ref tg,y6,y7])) ((∀b o,b≠d->H7 b=!o->H' b=!o)) (E2 λep UF=>A4 (H' d=!.ext (eW P_ w8 d ep UF)) (cX H' UF) (UF.map (·.1)=cG rs i++((dj rs i).take j).map (λt=>((i:Int),t)))^fu H' rs UF)) ?_ ?_ ?_ ?_;show#[#[_,_,rfl],λb o s e=>e,ep3,kvs,SV,hk7,by simpa using em,QT];rintro j Y' H' _ ⟨_,k',_⟩;show#[bI.of^k' _ _ htd aly,bI.of^k' _ _ hld hl]
  .rintro j x y p Y' H8 H9 hx hy ⟨⟨y6,y7,rfl⟩,k8,ep8,Vp,SW,hk8,em8,abH⟩ n9;let#[t,htj,hxt]:=bw alx hx;rw[bJ] at hy;let#[b,hbj,rfl]:=cU.mp hy;let#[h0b,bvs,bks,hb7,alz,alA]:=HU.2 j b t hbj htj;lk;ext tu Ab wM;let hbd:b≠d:=λz=>by rw[z,Vo] at h0b;cases h0b
   let nd7:∀{c:Addr}{zs:List V},H7 c=!.tup zs->c≠d:=λe z=>by rw[z,SV] at e;cases e
   let t8:∀{v:V}{u:HM.fX},fP H7 u v->fP H8 u v:=λ{v u} h=>by
    cases u with
    | none=>show h
    | some q=>let#[c,e1,e2]:=h;show#[c,e1,k8 _ _ (nd7 e2) e2]
   let h8:∀(v:V)(k:HM.bY),bD H7 v k->bD H8 v k:=λv k ⟨c,u,e1,e2,e3⟩=>#[c,u,e1,k8 _ _ (nd7 e2) e2,t8 e3];let Fd:=n9.same.trans wM.same;let QU:=Fd _ _ SW;let hkey:bD Ab (¬tu) ((i:Int),t):=#[tu,x,rfl,wM.self,fP.same (t8 hxt) Fd];let aob:Vp.length<=17*i+17:=by let h1:=congrArg List.length em8;rw[aq,aT,aq,cC] at h1;let h2:=tV rs i;lia
   show P0 QU (hk8.same Fd) hkey ∅ ?_;intro vN Dj wN;let hnew:((i:Int),t)∉Vp.map (·.1):=by rw[em8];show QS htj
   rw[yR hnew] at wN;show#[#[_,_,rfl],λb o hb e=>wN.keep hb^Fd _ _^k8 b o hb e,vN,_,wN.self,λz hz=>?_,?_,λz hz=>?_];rcases aM.mp hz with hz|hz;show bD.Fb ((hk8.same Fd) z hz) QU wN;rw[aJ.mp hz];show bD.Fb hkey QU wN;rw[bq,em8,b8,htj,bq,jD];rfl
   .rcases aM.mp hz with hz|hz;show fu.Fb (fu.same abH Fd) QU wN z hz;rw[aJ.mp hz];show#[b,bvs,bks,i,r,rfl,wN.keep hbd^Fd _ _^k8 _ _ hbd hb7,dG (λv k h=>bD.Fb (bD.same (h8 v k h) Fd) QU wN) alz,rfl,Vg,alA]
  .rintro Y' H8 ⟨⟨y6,y7,rfl⟩,k8,ep8,Vp,SW,hk8,em8,abH⟩;rw[aq,hbl,Ao,Nat.min_self,b9,<- qT] at em8;show abI _ _ ?_;show#[#[_,_,_,_,_,rfl],λb o e=>k8 b o (λz=>by subst z;rw[fd1] at e;cases e)^s7 _ _^s16 _ _ e,ep8,Vp,SW,hk8,em8,abH]
 .rintro Y' H3 ⟨⟨y3,y4,y5,y6,y7,rfl⟩,s3,ep3,kvs,zy,hk3,em,hla⟩;rw[zw] at em;lk;show q d ep3 kvs H3 (s1.trans s3) fd zy hk3 em hla
section
variable {α:Type} [DecidableEq α]
noncomputable def eG(L:α->List α)(ks:List α)(o:α):List α:=ks.flatMap λx=>((L x).filter λz=>decide (z=o)).map λq=>x
def X0(L:α->List α)(F:List (α×M)):=∀x∈F,1<=x.2/\(∀o∈L x.1,∃m,(o,m)∈F/\m<x.2)/\(x.2=1/\L x.1=[]\/∃o∈L x.1,(o,x.2-1)∈F)
structure Bp (ks:List α) (L:α->List α) (F:List (α×Int)):Prop where
 nd:(F.map (·.1)).Nodup
 sub:∀x∈F,x.1∈ks
 fin:X0 L F
 out:∀h∈ks,h∉F.map (·.1)->∃o∈L h,o∉F.map (·.1)
noncomputable def qw(L:α->List α)(G:List α)(h:α):Nat:=((L h).filter λo=>decide (o∉G)).length
structure jl (ks:List α) (L:α->List α) (F:List (α×Int)) (w8:α->Int) (R:List α):Prop where
 nd:(F.map (·.1)).Nodup
 sub:∀x∈F,x.1∈ks
 fin:X0 L F
 cnt:∀h∈ks,w8 h=qw L (F.map (·.1)) h
 ndR:R.Nodup
 SX:∀h,h∈R↔h∈ks/\h∉F.map (·.1)/\w8 h=0
def Mr{L:α->List α}{G:List α}{h:α}(e:qw L G h=0):∀o∈L h,o∈G:=λo ho=>iS λn=>by have:o∈(L h).filter λo=>decide (o∉G):=fT.mpr #[ho,decide_eq_true n];rw[qw] at e;rw[BF.mp e] at this;show nomatch this
def jl.done{ks:List α}{L:α->List α}{F:List (α×M)}{w8:α->M}(v:jl ks L F w8 []):Bp ks L F:=by
 show#[v.nd,v.sub,v.fin,λh hk hf=>iS λn=>?_];have:h∈([]:List α):=(v.SX h).mpr #[hk,hf,by
  rw[v.cnt h hk];have:(L h).filter (λo=>decide (o∉F.map (·.1)))=[]:=List.filter_eq_nil_iff.mpr λo ho e=>n #[o,ho,of_decide_eq_true e];rw[qw,this];rfl]
 show nomatch this
def jl.start{ks:List α}{L:α->List α}(nd:ks.Nodup):jl ks L [] (λh=>((L h).length:M)) (ks.filter λh=>decide (((L h).length:M)=0)):=by
 show#[.nil,(λx hx=>nomatch hx),(λx hx=>nomatch hx),λh z=>?_,List.Pairwise.filter _ nd,λh=>?_]
 .have:(L h).filter (λo=>decide (o∉List.map (·.1) ([]:List (α×M))))=L h:=List.filter_eq_self.mpr λo z=>by simp
  rw[qw,this]
 .rw[fT];simp
def QV{L:α->List α}{o x:α}:∀{ks:List α},ks.Nodup->x∈ks->(eG L ks o).count x=(L x).count o:=by
 intro ks;let each:∀y,(((L y).filter λz=>decide (z=o)).map λq=>y).count x=if y=x then(L x).count o else 0:=λy=>by generalize hn:((L y).filter λz=>decide (z=o))=l;let e:l.map (λq=>y)=List.replicate d4 y:=List.map_const';rw[e,List.count_replicate];by_cases hy:y=x;subst hy;erw[BEq.rfl,if_true];rw[<- hn,List.count_eq_length_filter];show congrArg List.length (List.filter_congr λz q=>by by_cases hz:z=o<;>simp[hz]);rw[if_neg hy,if_neg^by simpa using hy]
 induction ks with
 | nil=>intro _ h;show nomatch h
 | cons y ks ih =>
  intro nd hx;let nd2:=iU.mp nd;rw[eG,nX,List.count_append,each];by_cases hy:y=x
  .subst hy;rw[if_pos Z];let z:(ks.flatMap λx=>((L x).filter λz=>decide (z=o)).map λq=>x).count y=0:=by rw[List.count_eq_zero];intro hm;let#[a,ha,hb]:=lA.mp hm;let#[_,_,Z]:=aQ.mp hb;show nd2.1 ha
   rw[z];rfl
  .rw[if_neg hy,Nat.zero_add];show ih nd2.2 ((aP.mp hx).resolve_left λe=>hy e.symm)
def QW{L:α->List α}{ks:List α}{o x:α}:x∈eG L ks o↔x∈ks/\o∈L x:=by unfold eG;rw[lA];constructor;rintro⟨y,hy,hx⟩;let#[z,hz,Z]:=aQ.mp hx;let#[h1,h2]:=fT.mp hz;rw[of_decide_eq_true h2] at h1;show#[hy,h1];rintro⟨hx,ho⟩;show#[x,hx,aQ.mpr #[o,fT.mpr #[ho,by simp],Z]]
theorem Ms{L:α->List α}{G:List α}{h x:α}(hG:h∉G):qw L G x=qw L (G++[h]) x+(L x).count h:=by
 unfold qw;induction L x with
 | nil=>rfl
 | cons o l ih =>
  by_cases e:o=h;subst e;rw[xX^by simpa using hG,xW^by simp,List.count_cons_self,ck,ih];lia;rw[List.count_cons_of_ne e];by_cases g:o∈G;rw[xW^by simp[g],xW^by simp[g],ih];rw[xX^by simp[g],xX^by simp[g,e],ck,ck,ih];lia
structure tW (ks:List α) (L:α->List α) (G:List α) (E:List α) (j:Nat) (w8:α->Int) (R:List α):Prop where
 cnt:∀x∈ks,w8 x=qw L G x+((E.drop j).count x:Nat)
 ndR:R.Nodup
 SX:∀x,x∈R↔x∈ks/\x∉G/\w8 x=0
theorem jl.pop{ks:List α}{L:α->List α}{F:List (α×M)}{w8:α->M}{R:List α}{h:α}(nd:ks.Nodup)(v:jl ks L F w8 (R++[h])):
  h∈ks/\h∉F.map (·.1)/\(∀o∈L h,o∈F.map (·.1))/\tW ks L (F.map (·.1)++[h]) (eG L ks h) 0 w8 R:=by let#[h1,h2,h3]:=(v.SX h).mp (by simp);let h4:=v.cnt h h1;show#[h1,h2,Mr ∅,λx hx=>?_,(fB.mp v.ndR).1,λx=>?_];rw[v.cnt x hx,uC,QV nd hx,Ms h2];simp;let hR:h∉R:=λz=>(fB.mp v.ndR).2.2 h z h (by simp) Z;have:=v.SX x;rw[aM,aJ] at this ⊢;constructor;intro hx;let#[a,b,c]:=this.mp^.inl hx;show#[a,λz=>z.elim b λe=>hR (e▸hx),c];rintro⟨a,b,c⟩;show(this.mpr #[a,λz=>b^.inl z,c]).resolve_right λe=>b^.inr e
noncomputable def zD(w8:α->β)(x:α)(n:β):α->β:=λy=>if y=x then n else w8 y
theorem tW.next{ks:List α}{L:α->List α}{G:List α}{h:α}{w8:α->M}{R:List α}{x:α}(v:tW ks L (G++[h]) (eG L ks h) j w8 R)
  (cl:∀y∈ks,y∈G->∀o∈L y,o∈G)(hG:h∉G)(hL:∀o∈L h,o∈G)(hx:(eG L ks h)[j]?=!x):
  1<=w8 x/\x∈ks/\(w8 x-1=0->tW ks L (G++[h]) (eG L ks h) (j+1) (zD w8 x (w8 x-1)) (R++[x]))/\(w8 x-1≠0->tW ks L (G++[h]) (eG L ks h) (j+1) (zD w8 x (w8 x-1)) R):=by
 let#[hk,hh]:=QW.mp^jd hx;let#[hj,ej]:=gq hx;let c:=v.cnt x hk;let ed:∀y,((eG L ks h).drop j).count y=((eG L ks h).drop (j+1)).count y+if x=y then 1 else 0:=λy=>by rw[BC hj,ej,List.count_cons];by_cases e:x=y<;>simp[e]
 let hw:1<=w8 x:=by have:=ed x;rw[if_pos Z] at this;lia
 let xG:x∉G++[h]:=λz=>by rcases aM.mp z with z|z;show hG^cl x hk z h hh;rw[aJ.mp z] at hh;show hG^hL h hh
 let cnt:∀y∈ks,zD w8 x (w8 x-1) y=qw L (G++[h]) y+(((eG L ks h).drop (j+1)).count y:O):=λy hy=>by let c:=v.cnt y hy;let e:=ed y;unfold zD;by_cases hyx:y=x;subst hyx;rw[if_pos Z] at e ⊢;lia;rw[if_neg λz=>hyx z.symm] at e;rw[if_neg hyx];lia
 let xR:x∉R:=λz=>by have:=((v.SX x).mp z).2.2;lia
 show#[hw,hk,λe0=>#[cnt,?_,λy=>?_],λe0=>#[cnt,v.ndR,λy=>?_]];rw[fB];show#[v.ndR,by simp,λa ha b hb e=>xR (by rw[aJ.mp hb] at e;show e▸ha)];rw[aM,aJ];unfold zD;by_cases hyx:y=x;subst hyx;rw[if_pos Z];show#[λq=>#[hk,xG,e0],λq=>.inr Z];rw[if_neg hyx];show#[λz=>(v.SX y).mp^z.resolve_right hyx,λz=>.inl^(v.SX y).mpr z];unfold zD;by_cases hyx:y=x;subst hyx;rw[if_pos Z];show#[λz=>absurd z xR,λz=>absurd z.2.2 e0];rw[if_neg hyx];show v.SX y
theorem tW.end{ks:List α}{L:α->List α}{F:List (α×M)}{h:α}{m:M}{w0 w8:α->M}{R0 R E:List α}(v0:jl ks L F w0 R0)(v:tW ks L (F.map (·.1)++[h]) E E.length w8 R)(hk:h∈ks)(hF:h∉F.map (·.1))(hL:∀o∈L h,o∈F.map (·.1))(e:n=1+m)
  (h0:L h=[]->m=0)(h1:L h≠[]->(∃o∈L h,(o,m)∈F)/\∀o∈L h,∀k,(o,k)∈F->k<=m):jl ks L (F++[(h,n)]) w8 R:=by
 let em:(F++[(h,n)]).map (·.1)=F.map (·.1)++[h]:=by simp
 let up:∀o k,(o,k)∈F->(o,k)∈F++[(h,n)]:=λo k z=>j8 _ z;show#[?_,λx hx=>?_,λx hx=>?_,λx hx=>?_,v.ndR,?_];rw[em,fB];show#[v0.nd,by simp,λa ha b hb z=>hF (by rw[aJ.mp hb] at z;show z▸ha)];rcases aM.mp hx with z|z;show v0.sub x z;rw[aJ.mp z];show hk
 .rcases aM.mp hx with z|z;let#[a,b,c]:=v0.fin x z;show#[a,λo ho=>let⟨k,c,d⟩:=b o ho;#[k,up _ _ c,d],c.imp_right λ⟨o,ho,c⟩=>#[o,ho,up _ _ c]];rw[aJ.mp z];dsimp only;by_cases hn:L h=[];have:=h0 hn;rw[hn];show#[∅,(λo ho=>nomatch ho),.inl #[∅,Z]];let#[#[o,ho,hm],hle]:=h1 hn;have:=(v0.fin _ hm).1;dsimp only at this;show#[∅,λo ho=>?_,.inr #[o,ho,?_]];let#[#[_,k],hx,Z]:=aQ.mp^hL o ho;have:=hle _ ho k hx;show#[k,up _ _ hx,∅];rw[show n-1=m by lia];show up _ _ hm
 .rw[em,v.cnt x hx,List.drop_length];simp
 .rw[em];show v.SX
theorem nB{β:Type}:∀{F:List (α×β)}{o:α}{a b:β},(F.map (·.1)).Nodup->(o,a)∈F->(o,b)∈F->a=b
 | [],_,_,_,_,h,_=>nomatch h
 | x::F,o,a,b,nd,ha,hb=>by rw[cN,iU] at nd;rcases aP.mp ha with e1|h1<;>rcases aP.mp hb with e2|h2;show congrArg Prod.snd^e1.trans e2.symm;show absurd (by rw[<- e1];show aQ.mpr #[_,h2,Z]) nd.1;show absurd (by rw[<- e2];show aQ.mpr #[_,h1,Z]) nd.1;show nB nd.2 h1 h2
end
def Mt(H H':Hp):=∀b vs,H b=!.tup vs->H' b=!.tup vs
def zE{xs:List V}(hf:H f=!.lst xs)(p:mT H f o H'):Mt H H':=λb vs h=>p.keep (by intro z;subst z;rw[hf] at h;cases h) h
def Fe(hf:H f=!.ext φ)(p:mT H f o H'):Mt H H':=λb vs h=>p.keep (by intro z;subst z;rw[hf] at h;cases h) h
def fP.tups(h:fP H t v)(s:Mt H H'):fP H' t v:=by
 cases t with
 | none=>show h
 | some p2=>let#[b,e1,e2]:=h;show#[b,e1,s _ _ e2]
theorem bD.tups{k:HM.bY}(h:bD H v k)(s:Mt H H'):bD H' v k:=by let#[a,u,e,h1,h2]:=h;show#[a,u,e,s _ _ h1,fP.tups h2 s]
theorem cF.tups(h:cF H vs ks)(s:Mt H H'):cF H' vs ks:=dG (λz z x=>bD.tups x s) h
theorem cX.tups(h:cX H kvs)(s:Mt H H'):cX H' kvs:=λx hx=>bD.tups (h x hx) s
def jU(H:Hp)(kvs:gZ)(L:HM.bY->List HM.bY):=∀x∈kvs,∃a vs,x.2.2=V.ref a/\H a=!.lst vs/\cF H vs^L x.1
theorem jU.same{L:HM.bY->List HM.bY}(h:jU H kvs L)(s:az H H'):jU H' kvs L:=λx hx=>let⟨a,vs,h1,h2,h3⟩:=h x hx;#[a,vs,h1,s _ _ h2,cF.same h3 s]
theorem zF:∀{kvs:gZ}{x:HM.bY×ae×V},(kvs.map (·.1)).Nodup->x∈kvs->nV kvs x.1=!x.2.2
 | [],_,_,hx=>nomatch hx
 | y::kvs,x,nd,hx=>by
  rw[cN,iU] at nd;unfold nV;rw[j6];rcases aP.mp hx with rfl|hx;simp
  .have ne:Not (y.1=x.1):=λe=>nd.1 (e▸uH hx);rw[decide_eq_false ne];show zF nd.2 hx
def CC{k:HM.bY}(nd:(kvs.map (·.1)).Nodup)(hk:k∈kvs.map (·.1)):∃x∈kvs,x.1=k/\nV kvs k=!x.2.2:=by let#[x,hx,Z]:=aQ.mp hk;show#[x,hx,Z,zF nd hx]
def jV(ks:List HM.bY)(L:HM.bY->List HM.bY):=ks.Nodup/\eI<=40000/\∀k∈ks,(L k).length<=4/\∀o∈L k,o∈ks
theorem Ff(L:HM.bY->List HM.bY)(o:HM.bY):∀ks:List HM.bY,(∀k∈ks,(L k).length<=4)->(eG L ks o).length<=4*eI
 | [],_=>by simp[eG]
 | k::ks,h=>by let h1:=Ff L o ks λk hk=>h k^d8 _ hk;let h2:=h k (by simp);let h3:=j7 (λz=>decide (z=o))^L k;unfold eG at h1 ⊢;rw[nX,aT,aq,ck];lia
def HX(H0 H:Hp)(kvs:gZ)(L:HM.bY->List HM.bY):=(kvs.map (·.2.2)).Nodup/\∀x∈kvs,∃a vs,x.2.2=V.ref a/\H0 a=aw/\H a=!.lst vs/\cF H vs^L x.1
theorem HX.same{L:HM.bY->List HM.bY}(h:HX H0 H kvs L)(s:az H H'):HX H0 H' kvs L:=#[h.1,λx hx=>let⟨a,vs,h1,h0,h2,h3⟩:=h.2 x hx;#[a,vs,h1,h0,s _ _ h2,cF.same h3 s]]
theorem HY:∀{kvs:gZ}{x y:HM.bY×ae×V},(kvs.map (·.2.2)).Nodup->x∈kvs->y∈kvs->x.2.2=y.2.2->x=y
 | [],_,_,_,hx,_,_=>nomatch hx
 | z::kvs,x,y,nd,hx,hy,e=>by rw[cN,iU] at nd;rcases aP.mp hx with e1|h1<;>rcases aP.mp hy with e2|h2;rw[e1,e2];show absurd (by rw[<- e1,e];show uH h2) nd.1;show absurd (by rw[<- e2,<- e];show uH h1) nd.1;show HY nd.2 h1 h2 e
inductive QX(P_:Program)(w8:World)(vs:List V)(H:Hp)(Q:VK)(z:XK):Prop|mk(d:Addr)(ep:Nat)(kvs:gZ)(L:HM.bY->List HM.bY)(z:vs=[¬d])(z:H d=!.ext (eW P_ w8 d ep kvs))(z:cX H kvs)(z:jU H kvs L)(z:jV (kvs.map (·.1)) L)(z:∀(d':Addr)(vN:Nat)(UF:gZ)(H':Hp),az H H'->H d'=none->H' d'=!.ext (eW P_ w8 d' vN UF)->cX H' UF->UF.map (·.1)=kvs.map (·.1)->jU H' UF^eG L^kvs.map (·.1)->Q (¬d') H')
set_option maxHeartbeats 40000000 in
theorem Mu:T.turned∩(1,QX P_ w8):=by
 exists T.turned,pS,#[d,ep,kvs,L,rfl,hd,hk,hl,#[nd,hn,hL],q],".=1uÜÇÈ*¬º0R>+0*P.Lº0B2-LH²02B3-GO²13*2-:1",4,(λv v=>rfl),(λv v=>rfl);rw[aq] at hn;lk;show Cg (kvs:=kvs) (λi ys H'=>az H H'/\∃ps:gZ,ps.map (·.1)=(kvs.take i).map (·.1)/\sP H' ys ps/\HX H H' ps λv=>[]) #[az.refl _,[],by simp,.nil,.nil,λx hx=>nomatch hx] ?_ ?_ ?_;rintro i ys H' _ ⟨s',_⟩;show s' _ _ hd
 .rintro i e ys H1 he ⟨s1,ps,X3,Ty,own⟩;let Hm:=(gq he).1;let TD:=Ty.length;let h2:=congrArg List.length X3;rw[aq,aq,cC] at h2;show#[di ∅,?_];lk;ext a H2 n2 t H3 n3;let s3:=n2.same.trans n3.same;show#[s1.trans s3,ps++[(e.1,e.2.1,¬a)],?_,eU (dG (λu p ⟨t,h1,h2,h3⟩=>#[t,h1,s3 _ _ h2,bD.same h3 s3]) Ty) #[t,rfl,n3.self,bD.same (hk e^jd he)^s1.trans s3],?_,λx hx=>?_];rw[bq,X3,b8,he,bq];rfl;rw[bq,fB];show#[own.1,by simp,λx hx y hy e=>?_];let#[z,hz,rfl]:=aQ.mp hx;let#[b,vs,h1,_,h3,_]:=own.2 z hz;rw[List.map_singleton,aJ] at hy;subst hy;rw[h1] at e;cases e;rw[n2.1] at h3;cases h3;rcases aM.mp hx with hx|hx;show(HX.same own s3).2 x hx;rw[aJ.mp hx];show#[a,[],rfl,s1.free n2.1,n3.keep n2.self,.nil]
 rintro ys H1 ⟨s1,ps,X3,Ty,own⟩ l H2 n2;rw[b9] at X3;lk;show JP (bI.of n2.self) (dG (λu p ⟨t,h1,h2,h3⟩=>#[t,h1,n2.keep h2,bD.same h3 n2.same]) Ty) (by rw[X3];show nd) ?_;intro f LH H3 n3;let s23:=n2.same.trans n3.same;let s3:=s1.trans s23;let ff:H f=none:=(s1.trans n2.same).free n3.1;let hf:=n3.self;let alB:=own.same s23;let hpk:cX H3 ps:=λx hx=>by let#[i,hi,rfl]:=uG.mp hx;let#[t,_,_,h]:=yS Ty hi;rw[xm,iR hi] at h;show bD.same h s23
 clear n2 n3 s23 own Ty s1;let ndp:(ps.map (·.1)).Nodup:=by rw[X3];show nd
 let e0:∀o,eG L [] o=[]:=λo=>rfl;lk;show UR (λi Y' H'=>A5 ((E2 λy z=>Y'=[!.ref d,!.ref f,y,z])) (az H H') (H' f=!.ext (eW P_ w8 f LH ps)) (cX H' ps)^HX H H' ps^eG L^(kvs.map (·.1)).take i) ?_ ?_ ?_ ?_;show#[#[_,_,rfl],s3,hf,hpk,by rw[List.take_zero];show alB];rintro i Y' H' _ ⟨_,s',_⟩;show s' _ _ hd
 .rintro i e Y' H4 he ⟨⟨y,z,rfl⟩,s4,Mn,abK,Vq⟩;let hem:=jd he;let#[a,vs,ea,ha,Oy]:=hl e hem;let Hm:=(gq he).1;let hLe:=hL e.1^uH hem;let Op:=Oy.length;lk;show sQ (s4 _ _ hd) (hk.same s4) (bD.same (hk e hem) s4) ((zF nd hem).trans^congrArg some ea) ?_;lk;show f_list (xs:=vs) (λj Y' H'=>A5 ((∃z,Y'=[!.ref d,!.ref f,!.ref e.2.1,z])) (az H H') (H' f=!.ext (eW P_ w8 f LH ps)) (cX H' ps)^HX H H' ps (λo=>eG L ((kvs.map (·.1)).take i) o++(((L e.1).take j).filter λz=>decide (z=o)).map λv=>e.1)) ?_ ?_ ?_ ?_;show#[#[_,rfl],s4,Mn,abK,?_];simpa using Vq;rintro j Y' H' _ ⟨_,s',_⟩;show bI.of^s' _ _ ha
  .rintro j x Y' H5 hx ⟨⟨z,rfl⟩,s5,QB,Vr,HZ⟩;let#[o,ho,hxo]:=bw Oy hx;let hom:=hLe.2 o^jd ho;let#[p,hp,rfl,tX]:=CC ndp (by rw[X3];show hom);let#[b,bs,eb,fb,hb,HU]:=HZ.2 p hp;let alC:=bD.same hxo s5;let#[xa,xu,rfl,hxa,hxu]:=hxo;let hbl:bs.length<1000000:=by let h1:=HU.length;let h2:=Ff L p.1 ((kvs.map (·.1)).take i) λk hk=>(hL k^List.take_subset _ _ hk).1;let h3:=j7 (λz=>decide (z=p.1))^(L e.1).take j;rw[aT,aq] at h1;rw[cC,aq] at h2;rw[cC] at h3;lia
   lk;show sQ QB Vr alC (tX.trans^congrArg some eb) ?_;lk;ext H6 p6;let hfb:f≠b:=λz=>by rw[z,hb] at QB;cases QB
   let t6:=zE hb p6;show#[#[_,rfl],p6.same s5 fb,p6.keep hfb QB,cX.tups Vr t6,HZ.1,λx hx=>?_];by_cases hxp:x=p
   .subst hxp;show#[b,_,eb,fb,p6.self,?_];dsimp only;rw[b8,ho,lu,bq,<- jD];let e1:List.filter (λz=>decide (z=x.1)) (!x.1).toList=[x.1]:=by simp
    rw[e1];show eU (cF.tups HU t6)^bD.tups (bD.same (hk e hem) s5) t6
   .let#[c,cs,ec,fc,hc,hcs]:=HZ.2 x hx;show#[c,cs,ec,fc,p6.keep (λz=>hxp^HY HZ.1 hx hp^by rw[ec,eb,z]) hc,?_];let UV:Not (p.1=x.1):=λz=>by let h1:=zF ndp hx;rw[<- z,tX] at h1;show hxp^HY HZ.1 hx hp (Option.some.inj h1).symm
    dsimp only;rw[b8,ho,lu,bq];let e1:List.filter (λz=>decide (z=x.1)) (!p.1).toList=[]:=by simp[UV]
    rw[e1,List.map_nil,cZ];show cF.tups hcs t6
  .rintro Y' H5 ⟨⟨z,rfl⟩,s5,QB,Vr,HZ⟩;show#[#[_,_,rfl],s5,QB,Vr,?_];let e1:(λo=>eG L ((kvs.map (·.1)).take i) o++(((L e.1).take vs.length).filter λz=>decide (z=o)).map λv=>e.1)=eG L^(kvs.map (·.1)).take (i+1):=by funext o;rw[Op,b9,b8,bJ,he];unfold eG;rw[xY];simp
   rw[<- e1];show HZ
 .rintro Y' H4 ⟨⟨y,z,rfl⟩,s4,Mn,abK,Vq⟩;rw[<- aq (f:=λx:HM.bY×Addr×V=>x.1),b9] at Vq;lk;show q f LH ps H4 s4 ff Mn abK X3 λx hx=>let⟨a,vs,h1,_,h2,h3⟩:=Vq.2 x hx;#[a,vs,h1,h2,h3]
def kI(kvs:gZ)(F:List (HM.bY×M)):=kvs.map (λx=>(x.1,x.2.2))=F.map λp=>(p.1,V.int p.2)
def kI.keys{F:List (HM.bY×M)}(e:kI kvs F):kvs.map (·.1)=F.map (·.1):=by let h:=congrArg (List.map (·.1)) e;rw[gI,gI] at h;show h
theorem Fg:∀{kvs:gZ}{F:List (HM.bY×M)},kI kvs F->∀{o:HM.bY},o∈F.map (·.1)->∃n,(o,n)∈F/\nV kvs o=!(.int n)
 | [],[],_,_,ho=>nomatch ho
 | [],_::_,e,_,_=>nomatch e
 | _::_,[],e,_,_=>nomatch e
 | x::kvs,y::F,e,o,ho=>by unfold kI at e;rw[cN,cN] at e;let#[e1,e2]:=List.cons.inj e;let a1:x.1=y.1:=congrArg Prod.fst e1;let a2:x.2.2=V.int y.2:=congrArg Prod.snd e1;unfold nV;rw[j6];by_cases h:x.1=o;rw[decide_eq_true h];show#[y.2,by rw[<- h,a1];simp,congrArg some a2];rw[decide_eq_false h];rw[cN] at ho;let#[n,h1,h2]:=Fg (kvs:=kvs) (F:=F) e2 ((aP.mp ho).resolve_left λz=>h^a1.trans z.symm);show#[n,d8 _ h1,h2]
def QY{F:List (HM.bY×M)}{k:HM.bY}{a:ae}(e:kI kvs F)(hk:k∉F.map (·.1)):lR kvs k a^.int n=kvs++[(k,a,.int n)]/\kI (kvs++[(k,a,.int n)]) (F++[(k,n)]):=by show#[yR (by rw[e.keys];show hk),?_];unfold kI at e ⊢;rw[bq,bq,e];rfl
theorem tY:∀{kvs:gZ}{k:HM.bY},k∈kvs.map (·.1)->(nV kvs k).isSome=ag
 | [],_,h=>nomatch h
 | x::kvs,k,h=>by unfold nV;rw[j6];by_cases e:x.1=k;rw[decide_eq_true e];rfl;rw[decide_eq_false e];show tY (kvs:=kvs) ((aP.mp h).resolve_left λz=>e z.symm)
def FnAt(kvs:gZ)(ks:List HM.bY)(g:HM.bY->M):=kvs.map (·.1)=ks/\∀x∈kvs,x.2.2=V.int^g x.1
def FnAt.val{g:HM.bY->M}(h:FnAt kvs ks g){k:HM.bY}(hk:k∈ks):nV kvs k=!.int^g k:=by
 have:=tY (kvs:=kvs) (k:=k) (by rw[h.1];show hk);unfold nV at this ⊢;cases e:kvs.find? (λx=>decide (x.1=k)) with
 | none=>rw[e] at this;cases this
 | some x =>
  let h1:=h.2 x^List.mem_of_find?_eq_some e;let h2:=List.find?_some e;rw[of_decide_eq_true h2] at h1;show congrArg some h1
def FnAt.put{g:HM.bY->M}(h:FnAt kvs ks g){k:HM.bY}{a:ae}(hk:k∈ks):FnAt (lR kvs k a^.int n) ks^zD g k n:=by unfold lR;rw[if_pos^tY (by rw[h.1];show hk)];constructor;rw[gI,<- h.1];apply List.map_congr_left;intro x _;change(if x.1=k then(x.1,x.2.1,V.int n) else x).1=x.1;split<;>rfl;intro y hy;let#[x,hx,Z]:=aQ.mp hy;unfold zD;split;rfl;show h.2 x hx
def QZ{k:HM.bY}{a:ae}(h:cX H kvs)(hk:k∈kvs.map (·.1)):cX H^lR kvs k a v:=by unfold lR;rw[if_pos^tY hk];intro y hy;let#[x,hx,Z]:=aQ.mp hy;split;show h x hx;show h x hx
def Fi{F:α->β->eL}{xs:List α}{ys:List β}(hp:Paired F xs ys):∀{i:O}{y:β},ys[i]?=!y->∃x,xs[i]?=!x/\F x y:=by
 induction hp with
 | nil=>show λ{i x} h=>by simp at h
 | cons a _ ih =>
  intro i x h;cases i with
  | zero=>cases h;show#[_,Z,a]
  | succ i=>show ih h
def Fj{F:α->β->eL}{xs:List α}:∀{x:α}{ys:List β},Paired F (xs++[x]) ys->∃ys0 y,ys=ys0++[y]/\Paired F xs ys0/\F x y:=by
 induction xs with
 | nil =>
  intro x ys h;cases h with
  | cons h t=>cases t;show#[[],_,Z,.nil,h]
 | cons a xs ih =>
  intro x ys h;cases h with
  | cons h t =>
   let#[ys0,y,Z,h1,h2]:=ih t;show#[_::ys0,y,Z,.cons h h1,h2]
inductive Vs(P_:Program)(w8:World)(vs:List V)(H:Hp)(Q:VK)(z:XK):Prop|mk(d:Addr)(ep:Nat)(kvs:gZ)(L:HM.bY->List HM.bY)(z:vs=[¬d])(z:H d=!.ext (eW P_ w8 d ep kvs))(z:cX H kvs)(z:jU H kvs L)(z:jV (kvs.map (·.1)) L)(z:∀(d':Addr)(vN:Nat)(UF:gZ)(F:List (HM.bY×Int))(H':Hp),az H H'->H d'=none->H' d'=!.ext (eW P_ w8 d' vN UF)->cX H' UF->kI UF F->Bp (kvs.map (·.1)) L F->Q (¬d') H')
set_option maxHeartbeats 40000000 in
theorem Q0:T.ended∩(2,Vs P_ w8):=by
 exists T.ended,kq,#[d,ep,kvs,L,rfl,hd,hk,hl,hok,q],".=1/Mu *0.=2uÜÇÈ*hTº0R>+0*m!°±*!.v3Tº0qU!0.=4Ú.­®3.=5¯3.Û45¡ï*hTH²05R!-LH²15B6.ð26-?U²26-GO3*6-:4",7,"harm",["later"],[0],["later"],yG (K:=K_) rfl,vo (P:=P_) (w:=w8) rfl rfl hr.units (pv 1) (pv 0) (λs s=>rfl),"harm",["waiting"],[2],["waiting"],vo (P:=P_) (w:=w8) rfl rfl hr.units (pv 1) (pv 0) (λs s=>rfl),(λs=>rfl),"other",["found"],[4],["found"],(λs s=>rfl),vo (P:=P_) (w:=w8) rfl rfl hr.units (pv 1) (pv 0) (λs s=>rfl),(λs s=>rfl),(λs s s=>rfl),(λs s=>rfl);lk;show#[d,ep,kvs,L,rfl,hd,hk,hl,hok,λe epE alE H1 s1 fe he hke eke hle=>?_];let#[nd,hn,hL]:=hok;generalize Vt:kvs.map (·.1)=ks at *;let hkn:kvs.length<=40000:=by rw[<- Vt,aq] at hn;show hn
 let QR:=s1 _ _ hd;let hk1:=hk.same s1;let NE:=jU.same hl s1;clear hd hk hl;lk;show Cg (kvs:=kvs) (λi ys H'=>az H1 H'/\sP H' ys ((kvs.take i).map λx=>(x.1,x.2.1,V.int (L x.1).length))) #[az.refl _,by rw[List.take_zero];show .nil] ?_ ?_ ?_;rintro i ys H' _ ⟨s',_⟩;show s' _ _ QR
 .rintro i x ys H2 hx ⟨s2,Ty⟩;let Hm:=(gq hx).1;let TD:=Ty.length;rw[aq,cC] at TD;let Vu:=jd hx;let#[a,vs,ea,ha,Oy]:=NE x Vu;let Op:=Oy.length;show#[di ∅,?_];lk;show sQ (s2 _ _ QR) (hk1.same s2) (bD.same (hk1 x Vu) s2) ((zF (by rw[Vt];show nd) Vu).trans^congrArg some ea) ?_;let IR:=s2 _ _ ha;lk;ext t H3 n3;show#[s2.trans n3.same,?_];rw[b8,hx,bq];show eU (dG (λu p ⟨t,h1,h2,h3⟩=>#[t,h1,n3.keep h2,bD.same h3 n3.same]) Ty) #[t,rfl,by let z:=n3.self;rw[Op] at z;show z,bD.same (hk1 x Vu)^s2.trans n3.same]
 rintro ys H2 ⟨s2,Ty⟩ l H3 n3;rw[b9] at Ty;lk;show JP (bI.of n3.self) (dG (λu p ⟨t,h1,h2,h3⟩=>#[t,h1,n3.keep h2,bD.same h3 n3.same]) Ty) (by rw[gI];show(show(kvs.map (·.1)).Nodup by rw[Vt];show nd)) ?_;intro wt epw H4 n4;let s4:az H1 H4:=(s2.trans n3.same).trans n4.same;let fwt:H1 wt=none:=(s2.trans n3.same).free n4.1;let hwt:=n4.self;let fn4:FnAt (kvs.map λx=>(x.1,x.2.1,V.int (L x.1).length)) ks λh=>((L h).length:Int):=#[by rw[gI];show Vt,λx hx=>by let#[y,_,rfl]:=aQ.mp hx;rfl];let hwk:cX H4 (kvs.map λx=>(x.1,x.2.1,V.int (L x.1).length)):=λx hx=>by let#[y,hy,rfl]:=aQ.mp hx;show bD.same (hk1 y hy) s4
 generalize (kvs.map λx=>(x.1,x.2.1,V.int (L x.1).length))=Km at *;clear n3 n4 Ty s2;lk;show Cg (kvs:=kvs) (λi ys H'=>az H4 H'/\cF H' ys ((ks.take i).filter λh=>decide (((L h).length:Int)=0))) #[az.refl _,.nil] ?_ ?_ ?_;rintro i ys H' _ ⟨s',_⟩;show s' _ _^s4 _ _ QR
 .rintro i x ys H5 hx ⟨s5,hys⟩;let Hm:=(gq hx).1;let Nw:=hys.length;let hfl:=j7 (λh=>decide (((L h).length:Int)=0))^ks.take i;rw[cC] at hfl;let Vu:=jd hx;let hxk:x.1∈ks:=by rw[<- Vt];show uH Vu
  let hxi:ks[i]?=!x.1:=by rw[<- Vt,bJ,hx];rfl
  let hkx:=bD.same (hk1 x Vu)^s4.trans s5;show#[di ∅,?_];lk;show sQ (s5 _ _ hwt) (hwk.same s5) hkx (fn4.val hxk) ?_;lk
  .rename_i h0;show#[s5,?_];rw[b8,hxi,lu];let e1:List.filter (λh=>decide (((L h).length:Int)=0)) (!x.1).toList=[x.1]:=by simpa using h0
   rw[e1];show eU hys hkx
  .rename_i h0;show#[s5,?_];rw[b8,hxi,lu];let e1:List.filter (λh=>decide (((L h).length:Int)=0)) (!x.1).toList=[]:=by simpa using h0
   rw[e1,cZ];show hys
 rintro ys H5 ⟨s5,hys⟩ rd H6 n6;let ekl:kvs.length=ks.length:=by rw[<- Vt,aq]
 rw[ekl,b9] at hys;let XQ:=s5.trans n6.same;let s6:=s4.trans XQ;let frd:H1 rd=none:=(s4.trans s5).free n6.1;let hrd:=n6.self;let afV:=cF.same hys n6.same;let Vv:=XQ _ _ hwt;let afW:=hwk.same XQ;let abL:rd≠wt:=λz=>by rw[z] at n6;have:=s5 _ _ hwt;rw[n6.1] at this;cases this
 clear n6 hys hwt hwk XQ s5 s4;lk;ext f X4 H7 n7;let s7:=s6.trans n7.same;let ff:H1 f=none:=s6.free n7.1;let SM:=n7.self;let Vi:=n7.keep hrd;let alG:=n7.keep Vv;let abl:=cF.same afV n7.same;let alH:=afW.same n7.same;let afX:f≠wt:=λz=>by rw[z] at n7;rw[n7.1] at Vv;cases Vv
 let abM:f≠rd:=λz=>by rw[z] at n7;rw[n7.1] at hrd;cases hrd
 clear n7 hrd Vv afV afW s6;show pP (λm Y' H'=>A3 ((E2 λy5 y6=>Y'=[!.ref d,!.ref e,!.ref wt,!.ref rd,!.ref f,y5,y6])) (az H1 H') (E8 λvs R epw Km g X4 Gb F=>A10 (H' rd=!.lst vs) (cF H' vs R) (H' wt=!.ext (eW P_ w8 wt epw Km)) (cX H' Km) (FnAt Km ks g) (H' f=!.ext (eW P_ w8 f X4 Gb)) (cX H' Gb) (kI Gb F) (jl ks L F g R) (m=ks.length-F.length))) ?_ ?_;show#[_,#[_,_,rfl],s7,ys,_,epw,Km,_,X4,[],[],Vi,abl,alG,alH,fn4,SM,(λx hx=>nomatch hx),rfl,jl.start nd,rfl];rintro m Y' H8 ⟨⟨y5,y6,rfl⟩,s8,vs,R,alI,alJ,g,alK,Gb,F,Vw,Fl,afY,afZ,fn8,QG,abN,hF8,inv,rfl⟩;lk;let hFl:F.length<=ks.length:=by
  have:=nR inv.nd (ys:=ks) λx hx=>by let#[y,hy,rfl]:=aQ.mp hx;show inv.sub y hy
  rw[aq] at this;show this
 rcases List.eq_nil_or_concat vs with rfl|⟨vs0,v,rfl⟩
 .cases Fl;show Oi rfl ?_;lk;show q f alK Gb F H8 (s1.trans s8) (s1.free ff) QG abN hF8 inv.done
 rw[List.concat_eq_append] at Vw Fl ⊢;let#[R0,h,rfl,af0,hvh]:=Fj Fl;let#[hhk,hhF,hhL,inn]:=inv.pop nd;show B0 (by simp) #[_,λs s x=>x,?_];lk;show s_pop Vw (y:=v) (by simp) ?_;rw[List.dropLast_concat];intro H9 p9;let t9:=zE Vw p9;let s9:=p9.same s8 frd;let QH:=p9.self;let Q2:=cF.tups af0 t9;let Vx:=bD.tups hvh t9;let af2:=p9.keep (aR abL) afY;let af3:=cX.tups afZ t9;let SO:=p9.keep abM QG;let abO:=cX.tups abN t9;clear p9 t9 Vw Fl af0 hvh afY afZ QG abN s8;let#[x,Vu,rfl,hxv]:=CC (kvs:=kvs) (k:=h) (by rw[Vt];show nd) (by rw[Vt];show hhk);let#[a,as,ea,ha,has]:=NE x Vu;let hL4:=hL x.1 hhk;let D7:=has.length;let hv:=Vx;let#[vb,vu,rfl,_,_]:=hv;lk;show sQ (s9 _ _ QR) (hk1.same s9) Vx (hxv.trans^congrArg some ea) ?_;let SQ:=s9 _ _ ha;let af4:=cF.same has s9;let hkF:=hF8.keys;lk;show iI (xs:=as) (λj ys H'=>az H9 H'/\∃ns:List Int,ys=ns.map V.int/\Paired (λn o=>(o,n)∈F) ns^(L x.1).take j) #[az.refl _,[],rfl,.nil] ?_ ?_ ?_;rintro j ys H' _ ⟨s',_⟩;show bI.of^s' _ _ SQ
 .rintro j y ys Ab hy ⟨lG,ns,rfl,Qr⟩;let#[o,ho,hyo]:=bw af4 hy;let hjl:=(gq hy).1;let hnl:=Qr.length;rw[cC] at hnl;show#[di (by rw[aq];lia),?_];let#[n,hn1,hn2]:=Fg hF8^hhL o^jd ho;let alM:=bD.same hyo lG;let#[yb,yu,rfl,_,_]:=hyo;lk;show sQ (lG _ _ SO) (abO.same lG) alM hn2 ?_;show#[lG,ns++[n],by simp,?_];rw[b8,ho];show eU Qr hn1
 rintro ys Ab ⟨lG,ns,rfl,Qr⟩ ml Dj o6;rw[D7,b9] at Qr;let CD:=lG.trans o6.same;let hml:=o6.self;let Dk:=s9.trans CD;let X5:=CD _ _ QH;let Kf:=cF.same Q2 CD;let Kn:=bD.same Vx CD;let X6:=CD _ _ af2;let X7:=af3.same CD;let Mv:=CD _ _ SO;let Q3:=abO.same CD;clear o6 lG CD QH Q2 Vx af2 af3 SO abO s9 SQ af4;lk;show aa9 (bI.of hml) λm hm0 hm1=>?_;lk;let aqH:Gb.length=F.length:=by have:=congrArg List.length hkF;rw[aq,aq] at this;show this
 show P0 Mv Q3 Kn ∅ ?_;intro af6 HN Mw;let#[ep1,alN]:=QY (a:=vb) (n:=1+m) hF8 hhF;rw[ep1] at Mw;let t12:=Fe Mv Mw;let T0:=Mw.same Dk ff;let Vy:=Mw.self;let X8:cX HN (Gb++[(x.1,vb,.int (1+m))]):=λy hy=>by rcases aM.mp hy with hy|hy;show bD.tups (Q3 y hy) t12;rw[aJ.mp hy];show bD.tups Kn t12
 let X9:=Mw.keep (aR abM) X5;let Yb:=cF.tups Kf t12;let af7:=bD.tups Kn t12;let Yc:=Mw.keep (aR afX) X6;let Yd:=cX.tups X7 t12;clear Mw t12 hml X5 Kf Kn X6 X7 Mv Q3 Dk;let#[pe,hpe,epx,tX]:=CC (kvs:=alE) (k:=x.1) (by rw[eke];show nd) (by rw[eke];show hhk);let#[b,bs,eb,hb,HU]:=hle pe hpe;rw[epx] at HU;lk;show sQ (T0 _ _ he) (hke.same T0) af7 (tX.trans^congrArg some eb) ?_;let alO:=T0 _ _ hb;lk;let cl:∀y∈ks,y∈F.map (·.1)->∀o∈L y,o∈F.map (·.1):=λy s hy o ho=>by let#[z,hz,rfl]:=aQ.mp hy;let#[n,hn,_]:=(inv.fin z hz).2.1 o ho;show aQ.mpr #[_,hn,rfl]
 show f_list (xs:=bs) (λj Y' H'=>A3 ((∃z,Y'=[!.ref d,!.ref e,!.ref wt,!.ref rd,!.ref f,!.ref vb,z])) (az H1 H') (E5 λvs R epw Km g=>A8 (H' rd=!.lst vs) (cF H' vs R) (H' wt=!.ext (eW P_ w8 wt epw Km)) (cX H' Km) (FnAt Km ks g) (H' f=!.ext (eW P_ w8 f af6 (Gb++[(x.1,vb,.int (1+m))]))) (cX H' (Gb++[(x.1,vb,.int (1+m))]))^tW ks L (F.map (·.1)++[x.1]) (eG L ks x.1) j g R)) ?_ ?_ ?_ ?_;show#[#[_,rfl],T0,vs0,R0,alI,alJ,g,X9,Yb,Yc,Yd,fn8,Vy,X8,inn];rintro j Y' H' _ ⟨_,s',_⟩;show bI.of^s' _ _ hb
 .rintro j y Y' H13 hy ⟨⟨z0,rfl⟩,w5,vs,R,Ye,Km,g,Ko,Kp,Bq,Br,Mx,Vz,Kq,My⟩;clear X9 Yb Yc Yd Vy X8 T0 alO;let#[o,ho,hyo]:=bw HU hy;let#[hw1,hok,hyes,IH]:=My.next cl hhF hhL ho;let Kr:=bD.same hyo w5;let#[yb,yu,rfl,_,_]:=hyo;let hWl:Km.length=ks.length:=by rw[<- Mx.1,aq]
  lk;show sQ Bq Br Kr (Mx.val hok) ?_;lk;show aaG ?_;show P0 Bq Br Kr ∅ ?_;intro Yg H14 SR;let t14:=Fe Bq SR;let XZ:=SR.same w5 fwt;let Q4:=SR.self;let Q5:=cX.tups (QZ (a:=yb) (v:=.int (g o-1)) Br (by rw[Mx.1];show hok)) t14;let abP:FnAt (lR Km o yb^.int (g o-1)) ks^zD g o (g o-1):=Mx.put hok;let Yh:=SR.keep abL Ko;let Q6:=cF.tups Kp t14;let Vj:=SR.keep afX Vz;let Yi:=cX.tups Kq t14;let Yj:=bD.tups Kr t14;clear SR t14 w5 Ko Kp Bq Br Vz Kq Kr;let Op:=Q6.length;let hRl:=nR My.ndR (ys:=ks) λy hy=>((My.SX y).mp hy).1;lk;show sQ Q4 Q5 Yj (abP.val hok) ?_;let eg:zD g o (g o-1) o=g o-1:=by unfold zD;rw[if_pos rfl]
  rw[eg];lk;ext h0 XS HQ;let t15:=zE Yh HQ;show#[#[_,rfl],HQ.same XZ frd,_,_,Yg,_,_,HQ.self,eU (cF.tups Q6 t15)^bD.tups Yj t15,HQ.keep (aR abL) Q4,cX.tups Q5 t15,abP,HQ.keep abM Vj,cX.tups Yi t15,hyes h0];ext h0;show#[#[_,rfl],XZ,_,_,Yg,_,_,Yh,Q6,Q4,Q5,abP,Vj,Yi,IH h0]
 .rintro Y' H13 ⟨⟨z0,rfl⟩,w5,vs,R,Ye,Km,g,Ko,Kp,Bq,Br,Mx,Vz,Kq,My⟩;rw[HU.length] at My;show abI _ _ ?_;let hlt:F.length+1<=ks.length:=by
   let h1:(F.map (·.1)++[x.1]).Nodup:=by rw[fB];show#[inv.nd,by simp,λa ha b hb z=>hhF (by rw[aJ.mp hb] at z;show z▸ha)]
   have:=nR h1 (ys:=ks) λy hy=>by rcases aM.mp hy with hy|hy;let#[z,hz,rfl]:=aQ.mp hy;show inv.sub z hz;rw[aJ.mp hy];show hhk
   rw[aT,aq] at this;show this
  show#[ks.length-(F++[(x.1,1+m)]).length,by rw[aT];simp;lia,#[_,_,rfl],w5,vs,R,Ye,Km,g,af6,_,_,Ko,Kp,Bq,Br,Mx,Vz,Kq,alN,tW.end inv My hhk hhF hhL rfl (λe0=>?_) (λe0=>?_),rfl];rw[e0] at Qr;cases Qr;show hm0 rfl
  .have UV:ns≠[]:=λz=>by rw[z] at Qr;cases hL0:L x.1 with
    | nil=>show e0 hL0
    | cons _ _=>rw[hL0] at Qr;cases Qr
   let#[h1,h2]:=hm1 UV;let#[i,hi,ei]:=uG.mp h1;let#[o,ho,hoF]:=bw Qr (i:=i) (x:=m) (by rw[iR hi,ei]);show#[#[o,jd ho,hoF],λo ho k hk=>?_];let#[j,hj,ej]:=uG.mp ho;let#[n,hn,hnF]:=Fi Qr (i:=j) (y:=o) (by rw[iR hj,ej]);rw[nB inv.nd hk hnF];show h2 n^jd hn
section
variable {α:Type} [DecidableEq α]
theorem Fo{ks:List α}{L:α->List α}{F G:List (α×M)}(hF:Bp ks L F)(hG:Bp ks L G):∀(n:O)(h:α)(m:M),m.toNat<=n->(h,m)∈F->(h,m)∈G
 | 0,h,m,hn,hm=>by have:=(hF.fin _ hm).1;dsimp only at this;lia
 | n+1,h,m,hn,hm=>by
  let#[h1,h2,h3]:=hF.fin _ hm;dsimp only at h1 h2 h3;let ih:∀o∈L h,∀k,(o,k)∈F->(o,k)∈G:=λo ho k hk=>by let#[k',NM,hlt]:=h2 o ho;let e:=nB hF.nd hk NM;subst e;have:=(hF.fin _ hk).1;dsimp only at this;show Fo hF hG n o k ∅ hk
  let Sr:h∈G.map (·.1):=iS λno=>by let#[o,ho,IH]:=hG.out h (hF.sub _ hm) no;let#[k,hk,_]:=h2 o ho;show IH^aQ.mpr #[_,ih o ho k hk,Z]
  let#[#[_,m'],hm',Z]:=aQ.mp Sr;let#[g1,g2,g3]:=hG.fin _ hm';dsimp only at g1 g2 g3 h1 h2 h3 ih hm;let e:m'=m:=by rcases h3 with⟨e1,e2⟩|⟨o,ho,ho1⟩;rcases g3 with⟨e3,_⟩|⟨o,ho,_⟩;lia;rw[e2] at ho;show nomatch ho;rcases g3 with⟨_,e3⟩|⟨o',He,ho2⟩;rw[e3] at ho;show nomatch ho;let#[k,hk,hlt]:=g2 o ho;let a:=nB hG.nd hk^ih o ho _ ho1;let#[k',NM,hlt']:=h2 o' He;let b:=nB hG.nd (ih o' He _ NM) ho2;lia
  rw[<- e];show hm'
def nC(ks:List α)(L:α->List α)(F:List (α×M)):=Bp ks L F/\F.length=eI
theorem VA{ks:List α}{L:α->List α}{F G:List (α×M)}(nd:ks.Nodup)(hF:nC ks L F)(hG:Bp ks L G):G.length=ks.length:=by
 let h1:F.length<=G.length:=by
  have:=nR hF.1.nd (ys:=G.map (·.1)) λx hx=>by let#[#[h,m],hm,Z]:=aQ.mp hx;show aQ.mpr #[_,Fo hF.1 hG _ h m (ay _) hm,Z]
  rwa [aq,aq] at this
 let h2:G.length<=ks.length:=by
  have:=nR hG.nd (ys:=ks) λx hx=>by let#[y,hy,Z]:=aQ.mp hx;show hG.sub y hy
  rwa [aq] at this
 have:=hF.2;lia
theorem nC.mem{ks:List α}{L:α->List α}{F:List (α×M)}(nd:ks.Nodup)(h:nC ks L F){x:α}(hx:x∈ks):∃n,(x,n)∈F:=by
 have:x∈F.map (·.1):=iS λno=>by
  let h1:(F.map (·.1)++[x]).Nodup:=by rw[fB];show#[h.1.nd,by simp,λa ha b hb z=>no (by rw[aJ.mp hb] at z;show z▸ha)]
  have:=nR h1 (ys:=ks) λy hy=>by rcases aM.mp hy with hy|hy;let#[z,hz,Z]:=aQ.mp hy;show h.1.sub z hz;rw[aJ.mp hy];show hx
  rw[aT,aq,h.2,iB] at this;lia
 let#[#[_,n],hn,Z]:=aQ.mp this;show#[n,hn]
def tZ(ks:List α)(L:α->List α)(m:M):=∃F,nC ks L F/\(∃x∈F,x.2=m)/\∀x∈F,x.2<=m
end
def VB{ls:List HM.bY}(h:kH rs r t ks)(g:kH rs r t ls):ks=ls:=Kh HM.vm h.1 g.1 λz=>(h.2 z).trans (g.2 z).symm
theorem Q7(hok:r.ok n)(ht:SS t)(h:kH rs r t ks):eI<=4:=by
 let nd:ks.Nodup:=h.1.imp λh e=>by rw[e] at h;lia
 let h1:eI<=(r.ways.flatMap λq=>(fq r t).map λu=>(q,u)).length:=nR nd λz hz=>by let#[a1,a2,_]:=(h.2 z).mp hz;show lA.mpr #[z.1,a1,aQ.mpr #[z.2,(kG hok ht _).mpr a2,Z]]
 let h2:=Row.zh r;let h3:=zC r ht;let h4:∀ws:List M,(ws.flatMap λq=>(fq r t).map λu=>(q,u)).length=ws.length*(fq r t).length:=λws=>by
  induction ws with
  | nil=>simp
  | cons w8 ws ih=>rw[nX,aT,ih,aq,ck,Nat.succ_mul,Nat.add_comm]
 rw[h4] at h1;show bP h1^Nat.mul_le_mul h2 h3
open Classical in
def fH(rs:List bv)(h:HM.bY):List HM.bY:=if e:∃(ks:List HM.bY)(r:bv),rs[h.1.toNat]?=!r/\kH rs r h.2 ks then e.choose else[]
def Ks{h:HM.bY}(hr:rs[h.1.toNat]?=!r)(hl:kH rs r h.2 ks):fH rs h=ks:=by let e:∃(ks:List HM.bY)(r:bv),rs[h.1.toNat]?=!r/\kH rs r h.2 ks:=#[ks,r,hr,hl];unfold fH;rw[dif_pos e];let#[r',On,Hn]:=e.choose_spec;rw[hr] at On;cases On;show VB Hn hl
def Q8(h:fu H rs kvs):jU H kvs^fH rs:=λx hx=>by let#[a,vs,ks,k,r,h1,h2,h3,h4,h5,h6]:=h x hx;show#[a,vs,h1,h2,?_];rw[Ks (r:=r) (by rw[h4];show h5) h6];show h3
def jy{n:O}{z:HM.bY}:z∈cG rs n↔∃k:O,k<n/\z.1=(k:M)/\z.2∈dj rs k:=by unfold cG;rw[lA];constructor;rintro⟨k,hk,hz⟩;let#[t,ht,Z]:=aQ.mp hz;show#[k,gJ.mp hk,Z,ht];rintro⟨k,hk,e,ht⟩;show#[k,gJ.mpr hk,aQ.mpr #[z.2,ht,Prod.ext e.symm rfl]]
def mw:t∈dj rs k↔fX.lv rs k t:=by
 unfold dj;cases t with
 | none=>simp[fX.lv]
 | some p=>simp[fX.lv]
theorem Fp(rs:List bv):∀n,(cG rs n).Nodup
 | 0=>.nil
 | n+1=>by rw[qT,fB];show#[Fp rs n,nZ.mpr ((Bo rs n).imp λh e=>h^congrArg Prod.snd e),λx hx y hy e=>?_];let#[k,hk,e1,_]:=jy.mp hx;let#[t,_,Z]:=aQ.mp hy;rw[e] at e1;let e1:(n:M)=(k:M):=e1;lia
theorem Q9(hok:∀r∈rs,r.ok bp)(hn:bp<=2000)(em:kvs.map (·.1)=cG rs bp)(h:fu H rs kvs):
  jV (cG rs bp)^fH rs/\∀k r t,rs[k]?=!r->t∈dj rs k->kH rs r t^fH rs ((k:M),t):=by
 let each:∀z∈cG rs bp,∃(k:O)(r:bv),z.1=(k:M)/\rs[k]?=!r/\kH rs r z.2^fH rs z/\SS z.2:=λz hz=>by rw[<- em] at hz;let#[x,hx,Z]:=aQ.mp hz;let#[a,vs,ks,k,r,h1,h2,h3,h4,h5,h6]:=h x hx;let#[k',_,e',ht]:=jy.mp (by rw[<- em];show hz);show#[k,r,h4,h5,?_,Bm rs k' _ ht];rw[Ks (r:=r) (by rw[h4];show h5) h6];show h6
 show#[#[Fp rs _,bP (tV rs _) ∅,λz hz=>?_],λk r t hr ht=>?_];let#[k,r,e,hr,hl,JD]:=each z hz;let Fc:=hok r^jd hr;show#[Q7 Fc JD hl,λo ho=>?_];let#[a1,a2,a3]:=(hl.2 o).mp ho;let#[b1,b2]:=Row.xN Fc o.1 a1;show jy.mpr #[o.1.toNat,∅,∅,mw.mpr a3];let hk:=(gq hr).1;let#[k',r',e,On,hl,_]:=each ((k:M),t)^jy.mpr #[k,hk,Z,ht];let e:(k:M)=(k':M):=e;have:k=k':=∅;subst this;rw[hr] at On;cases On;show hl
inductive Mz(P_:Program)(w8:World)(vs:List V)(H:Hp)(Q:VK)(z:XK):Prop|mk(d:Addr)(ep:Nat)(kvs:gZ)(L:HM.bY->List HM.bY)(z:vs=[¬d])(z:H d=!.ext (eW P_ w8 d ep kvs))(z:cX H kvs)(z:jU H kvs L)(z:jV (kvs.map (·.1)) L)(z:(∀H',az H H'->(∀F,Not (nC (kvs.map (·.1)) L F))->Q .cB H'))(z:∀(d':Addr)(vN:Nat)(UF:gZ)(F:List (HM.bY×Int))(H':Hp),az H H'->H d'=none->H' d'=!.ext (eW P_ w8 d' vN UF)->cX H' UF->kI UF F->nC (kvs.map (·.1)) L F->Q (¬d') H')
set_option maxHeartbeats 40000000 in
theorem Ie:T.xK∩(3,Mz P_ w8):=by
 exists T.xK,za,#[d,ep,kvs,L,rfl,hd,hk,hl,hok,q0,q],".=1/Q0 *0-:Z¨mÝ°±*1mÝ°±*01w",2;lk;show#[d,ep,kvs,L,rfl,hd,hk,hl,hok,λf X4 Gb F H1 s1 ff hf Ku hF af9=>?_];let QR:=s1 _ _ hd;let hkF:Gb.length=F.length:=by have:=congrArg List.length hF.keys;rw[aq,aq] at this;show this
 lk;ext e;show q f X4 Gb F H1 s1 ff hf Ku hF #[af9,by rw[aq];lia];ext e;show q0 H1 s1 λG hG=>e ?_;have:=VA hok.1 hG af9;rw[aq] at this;lia
inductive Ra(P_:Program)(w8:World)(vs:List V)(H:Hp)(Q:VK)(z:XK):Prop|mk(c:Addr)(us:List V)(rs:List Row)(z:vs=[¬c])(z:H c=!.lst us)(z:Rows H us rs)(z:(∀r∈rs,r.ok rs.length))(z:rs.length<=2000)(z:(jV (cG rs rs.length)^fH rs->(∀k r t,rs[k]?=!r->t∈dj rs k->kH rs r t^fH rs ((k:Int),t))->(∀H',az H H'->(∀F,Not (nC (cG rs rs.length) (fH rs) F))->Q .cB H')/\∀(d':Addr)(vN:Nat)(UF:gZ)(F:List (HM.bY×Int))(H':Hp),az H H'->H d'=none->H' d'=!.ext (eW P_ w8 d' vN UF)->cX H' UF->kI UF F->nC (cG rs rs.length) (fH rs) F->Q (¬d') H'))
set_option maxHeartbeats 40000000 in
def MA:T.Cv∩(6,Ra P_ w8):=by
 exists T.Cv,L4,#[c,us,rs,rfl,hc,Tk,hok,hn,q],"-:/Ie */HW *0",1;lk;show#[c,us,rs,rfl,hc,Tk,hok,hn,λd ep kvs H1 s1 fd hd hk em hla=>?_];let#[Fq,qU]:=Q9 hok hn em hla;let#[q0,q1]:=q Fq qU;lk;show#[d,ep,kvs,fH rs,rfl,hd,hk,Q8 hla,by rw[em];show Fq,λH2 s2 no=>?_,λf X4 Gb F H2 s2 ff hf Ku hF e=>?_]
 .lk;rw[em] at no;show q0 H2 (s1.trans s2) no
 .lk;rw[em] at e;show q1 f X4 Gb F H2 (s1.trans s2) (s1.free ff) hf Ku hF e
inductive VC(vs:List V)(H:Hp)(Q:VK)(z:XK):Prop|mk(c:Addr)(us:List V)(rs:List Row)(z:vs=[¬c])(z:H c=!.lst us)(z:Rows H us rs)(z:(∀r∈rs,r.ok rs.length))(z:rs.length<=2000)(z:rs≠[])(z:(jV (cG rs rs.length)^fH rs->(∀k r t,rs[k]?=!r->t∈dj rs k->kH rs r t^fH rs ((k:Int),t))->(∀H',az H H'->(∀F,Not (nC (cG rs rs.length) (fH rs) F))->Q .cB H')/\∀(m:Int)(H':Hp),az H H'->tZ (cG rs rs.length) (fH rs) m->Q (.int m) H'))
set_option maxHeartbeats 40000000 in
def Rb:T.delay∩(7,VC):=by
 exists T.delay,EB,#[c,us,rs,rfl,hc,Tk,hok,hn,UV,q],".=1/MA *0-:ZS'B3 1wwm!Þß*ñ1",2,LW rfl;lk;show#[c,us,rs,rfl,hc,Tk,hok,hn,λFq qU=>#[λH1 s1 no=>?_,λf X4 Gb F H1 s1 ff hf Ku hF e=>?_]]
 .lk;show(q Fq qU).1 H1 s1 no
 .lk;ext v H2 n2;let ev:Gb.map (·.2.2)=(F.map (·.2)).map V.int:=by have:=congrArg (List.map (·.2)) hF;rw[gI,gI] at this;rw[gI];show this
  let alP:F.map (·.2)≠[]:=λz=>by
   let h0:F.length=0:=by rw[<- aq (f:=(·.2)),z];rfl
   let h1:=e.2;cases rs with
   | nil=>show UV rfl
   | cons r rs =>
    have:((0:Int),none)∈cG (r::rs) (r::rs).length:=jy.mpr #[0,by simp,rfl,mw.mpr trivial];rw[h0] at h1;rw[BF.mp h1.symm] at this;show nomatch this
  show aa8 n2.self (n2.keep hf) ev alP λm hm hle=>?_;lk;let#[x,hx,rfl]:=aQ.mp hm;show(q Fq qU).2 _ H2 (s1.trans n2.same) #[F,e,#[x,hx,rfl],λy hy=>hle _^uH hy]
def jb(rs:List bv)(p:O):List Int:=SN.f9^(kY rs p).map (·.2)
def qh(rs:List bv)(p:O):Nat:=if iO rs p=ag then(jb rs p).length+1 else 0
def Row.own(r:bv):Nat:=if r.gc=ag then 2 else 1
def zG(rs:List bv)(p:O):Nat:=qh rs p+(rs[p]?.map Row.own).getD 0
def firstM(rs:List bv):O->O
 | 0=>0
 | p+1=>firstM rs p+zG rs p
def vz(rs:List bv)(q:M):Int:=(firstM rs q.toNat:M)
noncomputable def Row.dbl(at_:M):bv->List bv
 | .num _ k v q=>[.num 0 k v (at_+1),.num 1 k v q]
 | .copy _ k i q=>[.copy 0 k i (at_+1),.copy 1 k i q]
 | .op _ s k i j q=>[.op 0 s k i j (at_+1),.op 1 s k i j q]
 | r=>[r]
noncomputable def dN(f:M):List M->List bv
 | []=>[]
 | b::bs=>.look b (f+1)::dN (f+1) bs
theorem jm(f:M):∀bs,(dN f bs).length=bs.length
 | []=>rfl
 | b::bs=>by rw[dN,ck,jm (f+1) bs,ck]
theorem o7(b:M):∀(f:M)(bs:List M),dN f (bs++[b])=dN f bs++[.look b (f+bs.length+1)]
 | f,[]=>by simp[dN]
 | f,c::bs=>by rw[mK,dN,o7 b (f+1) bs,dN,mK,ck];have:f+1+(bs.length:M)+1=f+((bs.length+1:O):M)+1:=∅;rw[this]
def CF(rs:List bv)(p:O):List Row:=if iO rs p=ag then dN (firstM rs p)^jb rs p++[.mark ((firstM rs p:M)+(jb rs p).length+1)] else[]
def putAt(rs:List bv)(p:O)(r:bv):List Row:=CF rs p++(r.kX^vz rs).dbl ((firstM rs p:M)+qh rs p)
def fY(rs:List bv):O->List bv
 | 0=>[]
 | p+1=>fY rs p++(rs[p]?.map^putAt rs p).getD []
def Ft(rs:List bv)(p:O):(CF rs p).length=qh rs p:=by unfold CF qh;split;rw[aT,jm];rfl;rfl
def Kv(f:M->M)(a:M)(r:bv):((r.kX f).dbl a).length=r.own:=by cases r<;>rfl
theorem gp{rs:List bv}:∀{p},p<=bp->(fY rs p).length=firstM rs p
 | 0,_=>rfl
 | p+1,h=>by let e:rs[p]?=some rs[p]:=iR h;rw[fY,firstM,aT,gp^Nat.le_of_succ_le h];unfold zG;rw[e];change _+(putAt rs p rs[p]).length=_;unfold putAt;rw[aT,Ft,Kv];rfl
theorem MB(rs:List bv)(p:O):∀b∈jb rs p,0<=b/\b<8:=λb hb=>by unfold jb SN.f9 at hb;let#[k,hk,Z]:=aQ.mp hb;have:=gJ.mp (fT.mp hk).1;lia
def zH(rs:List bv)(p:O):(jb rs p).length<=8:=mh _
theorem Kw(rs:List bv)(p:O):qh rs p<=9:=by have:=zH rs p;unfold qh;split<;>lia
theorem Rc(r:bv):r.own<=2:=by unfold Row.own;split<;>lia
theorem VD(rs:List bv)(p:O):zG rs p<=11:=by
 have:=Kw rs p;unfold zG;cases rs[p]? with
 | none=>simp;lia
 | some r=>have:=Rc r;simp;lia
theorem vA(rs:List bv):∀p,firstM rs p<=11*p
 | 0=>ay _
 | p+1=>by have:=vA rs p;have:=VD rs p;rw[firstM];lia
theorem zI{ks:O->Key}{vs:O->V}:∀{n:O},(∀i j,i<n->j<n->ks i=ks j->i=j)->∀i,i<n->c9 (e9 ks vs n)^ks i=!(vs i)
 | 0,_,i,h=>absurd h^jf _
 | n+1,hn,i,h=>by
  rw[e9,ki];by_cases e:ks i=ks n;have:i=n:=hn i n h (fZ _) e;rw[if_pos e,this]
  .rw[if_neg e];show zI (λa b ha hb=>hn a b ∅ ∅) i ?_;rcases dg i n with hl|hg;show hl;show absurd (by rw[show i=n by lia]) e
theorem nS{ks:O->Key}{vs:O->V}{k:Key}:∀{n:O},(∀i,i<n->ks i≠k)->c9 (e9 ks vs n) k=aw
 | 0,_=>rfl
 | n+1,h=>by rw[e9,ki,if_neg (λe=>h n (fZ _) e.symm)];show nS λi hi=>h i ∅
def ud(H:Hp)(rs:List bv)(kvs:List (Key×V)):=∀j:O,j<bp->(iO rs j=ag->∃a,c9 kvs^.inl (j:M)=!.ref a/\H a=!.lst^(jb rs j).map V.int)/\(Not (iO rs j=ag)->c9 kvs^.inl (j:M)=aw)
def ud.same{kvs:List (Key×V)}(e:az H H')(h:ud H rs kvs):ud H' rs kvs:=λj hj=>#[λhm=>let⟨a,h1,h2⟩:=(h j hj).1 hm;#[a,h1,e _ _ h2],(h j hj).2]
inductive VE(vs:List V)(H:Hp)(Q:VK)(z:XK):Prop|mk(p:Addr)(us:List V)(rs:List Row)(z:vs=[¬p])(z:H p=!.lst us)(z:Rows H us rs)(z:(∀r∈rs,r.ok rs.length))(z:rs.length<=2000)(z:∀(d:Addr)(kvs:List (Key×V))(H':Hp),az H H'->H d=none->H' d=!.dK kvs->ud H' rs kvs->Q (¬d) H')
theorem Rf:T.looks∩(5,VE):=by
 exists T.looks,EA,#[p,us,rs,rfl,hp,Tk,hok,hn,q],".=1/Ke *0-:u!ÇÈ*hTH/QJ *0R>+0*¹!*u!ÂÃ*¬!R^!0F",2,vY rfl,"place",["lively"],[1],["lively"],D8 (w:=w8) rfl rfl,Hf (K:=K_) (w:=w8) rfl rfl rfl,OI (K:=K_) rfl (aF (lP (K:=K_) rfl) (pv 1) (pv 0)),B6 (K:=K_) rfl;lk;show#[p,us,rs,Z,hp,Tk,hok,hn,λlv as H1 s1 flv Hl Os z z z hL=>?_];lk;show#[p,us,rs,Z,s1 _ _ hp,Tk.same s1,hok,∅,λmt H2 s2 z hmt=>?_];let Vm:=s2 _ _ Hl;let Xg:Bj H2 as rs:=λk a e=>let⟨vs,h1,h2⟩:=hL k a e;#[vs,s2 _ _ h1,h2.same s2];let T0:=s1.trans s2;clear s1 s2 Hl hL;let mem:∀x∈gB rs,∃j:O,x=(j:M)/\j<bp/\iO rs j=true:=λx hx=>by unfold gB at hx;let#[j,hj,Z]:=aQ.mp hx;let#[h1,h2]:=fT.mp hj;show#[j,Z,gJ.mp h1,h2]
 let aqN:(gB rs).length<=rs.length:=by unfold gB;rw[aq];show bP (j7 _ _) (by rw[uF];show ay _)
 lk;show iI (xs:=(gB rs).map V.int) (λi ys H'=>az H2 H'/\∃ps:List (Key×V),vc H' ys ps/\ci=i/\∀(k:O)(x:M),k<i->(gB rs)[k]?=!x->∃b,ps[k]?=!(.inl x,¬b)/\H' b=!.lst^(jb rs x.toNat).map V.int) #[az.refl _,[],.nil,Z,λk x h=>absurd h^jf _] ?_ ?_ ?_;rintro i ys H' _ ⟨s',_⟩;show bI.of^s' _ _ hmt
 .rintro i x ys H3 hx ⟨s3,ps,hP,TD,Ty⟩;rw[bJ] at hx;let#[x,hxi,Z]:=cU.mp hx;let#[j,Z,hj,hmj]:=mem x^jd hxi;let Hm:=(gq hxi).1;let Nw:=kM hP;show#[di ∅,?_];obtain⟨a,ha⟩:∃a,as[j]?=some a:=#[_,iR ∅];let#[vs,Oy,QM]:=Xg j a ha;let alQ:=s3 _ _ Oy;let alR:=QM.same s3;let Op:dA<=16:=by rw[QM.length];show oZ ..
  lk;show cj (bI.of^s3 _ _ Vm) (v:=¬a) (dM (by rw[bJ,ha];rfl)) ?_;lk;show iI (xs:=vs) (λk zs H'=>H'=H3/\zs=(((kY rs j).take k).map (·.2)).map V.int) #[Z,Z] ?_ ?_ ?_;rintro k zs H' _ ⟨rfl,_⟩;show bI.of alQ
  .rintro k y zs H' hy ⟨rfl,rfl⟩;let#[t,KF,b,Z,hb]:=bw alR hy;let hll:=oZ rs j;show#[di (by simp;lia),?_];lk;show#[Z,?_];rw[b8,KF,bq,bq];rfl
  .rintro zs H' ⟨rfl,rfl⟩ l H4 n4;rw[QM.length,b9] at n4;let SJ:∀b∈(kY rs j).map (·.2),0<=b/\b<8:=λb hb=>by
    let#[t,ht,Z]:=aQ.mp hb;let all:∀t∈eF,0<=t.2/\t.2<8:=()
    show all t (fT.mp ht).1
   let hl:=oZ rs j;lk;show aaU (bI.of n4.self) (by rw[aq];lia) ?_;intro st H5 n5;lk;show JG n5.self SJ ?_;intro so H6 n6;let hso:=n6.self;let s36:=(n4.same.trans n5.same).trans n6.same;clear n4 n5 n6;lk;ext tu H7 n7;let s37:=s36.trans n7.same;show#[s3.trans s37,ps++[(.inl (j:M),¬so)],?_,by simp[TD],λk y hk hy=>?_];show eU (dG (λz z zq=>?_) hP) #[tu,Z,n7.self];let#[t,e1,e2]:=zq;show#[t,e1,s37 _ _ e2];rcases dg k i with hlt|hge;let#[b,h1,h2]:=Ty k y hlt hy;show#[b,by rw[BD ∅];show h1,s37 _ _ h2];let ek:k=i:=∅;subst ek;rw[hxi] at hy;cases hy;show#[so,?_,n7.keep hso];rw[xZ ∅,TD,Nat.sub_self];rfl
 .rintro ys H3 ⟨s3,ps,hP,TD,Ty⟩ l H4 n4;rw[aq] at TD Ty;let hP4:vc H4 ys ps:=dG (λ_ _ ⟨t,e1,e2⟩=>#[t,e1,n4.keep e2]) hP;lk;show Xs (bI.of n4.self) hP4 ?_;intro d H5 n5;let s25:=(s3.trans n4.same).trans n5.same;lk;show q d _ H5 (T0.trans s25) (T0.free^(s3.trans n4.same).free n5.1) n5.self λj hj=>#[λhm=>?_,λhm=>?_]
  all_goals
   let up:(gB rs).Pairwise (· < ·):=by unfold gB;rw[nZ];show List.Pairwise.imp (λh=>Int.ofNat_lt.mpr h)^List.Pairwise.sublist List.filter_sublist BG
   let key:∀i,i<ci->∃x,(gB rs)[i]?=!x/\(ps.getD i (.inl 0,.cB)).1=(.inl x:Key)/\∃b,(ps.getD i (.inl 0,.cB)).2=¬b/\H3 b=!.lst^(jb rs x.toNat).map V.int:=λi hi=>by obtain⟨x,hx⟩:∃x,(gB rs)[i]?=some x:=#[_,iR ∅];let#[b,h1,h2]:=Ty i x ∅ hx;show#[x,hx,by rw[getD_at h1],b,by rw[getD_at h1],h2]
  .have Sr:(j:M)∈gB rs:=by unfold gB;show aQ.mpr #[j,fT.mpr #[gJ.mpr hj,hm],Z]
   let#[i,hi]:=iC.mp Sr;let Hm:=(gq hi).1;let#[x,hx,hk,b,hb,hHb]:=key i ∅;rw[hi] at hx;cases hx;rw[lg] at hHb;show#[b,?_,((n4.same.trans n5.same) _ _ hHb)];have:=zI (ks:=λi=>(ps.getD i (.inl 0,.cB)).1) (vs:=λi=>(ps.getD i (.inl 0,.cB)).2) (n:=ci) (λa c ha hc e=>?_) i ∅;rw[<- hk,<- hb];show this;let#[x1,h1,k1,_]:=key a ha;let#[x2,h2,k2,_]:=key c hc;let e':(Sum.inl x1:Key)=Sum.inl x2:=k1.symm.trans^e.trans k2;cases e';show lZ (up.imp λh=>∅) h1 h2
  .show nS λi hi e=>hm ?_;let#[x1,h1,k1,_]:=key i hi;let e':(Sum.inl x1:Key)=Sum.inl (j:M):=k1.symm.trans e;cases e';let#[j',e1,_,hm']:=mem _^jd h1;have:j'=j:=∅;rw[<- this];show hm'
inductive VF(vs:List V)(H:Hp)(Q:VK)(z:XK):Prop|mk(p d:Addr)(us:List V)(rs:List Row)(kvs:List (Key×V))(z:vs=[¬p,¬d])(z:H p=!.lst us)(z:Rows H us rs)(z:rs.length<=2000)(z:H d=!.dK kvs)(z:ud H rs kvs)(z:∀(f:Addr)(H':Hp),az H H'->H f=none->H' f=!.lst ((List.range rs.length).map λp=>V.int^firstM rs p)->Q (¬f) H')
theorem w6:T.jT∩(1,VF):=by
 exists T.jT,dO,#[p,d,us,rs,kvs,rfl,hp,Tk,hn,hd,hL,q],".=2P.=3F.L{*0|2[B4aB5.GO2*3¢?ÅàM41-É3VJ*eM14á-É3Zf<5©J*oÕFá-:2",6,(λz z=>rfl),(by with_unfolding_all rfl);let cD:=T.nQ.q;let cS:=T.wI.q;let zw:=Tk.length;lk;ext f H1 n1;let ff:=n1.1;let s1:=n1.same;let hf1:=n1.self;clear n1;show B5 (xs:=us) (λi Y' H'=>A3 ((E2 λx y=>Y'=[!.ref p,!.ref d,!.ref f,!.int^firstM rs i,x,y])) (az H H') (H' f=!.lst ((List.range i).map λp=>V.int^firstM rs p))) ?_ ?_ ?_ ?_;show#[#[_,_,Z],s1,hf1];rintro i Y' H' _ ⟨_,s',_⟩;show bI.of^s' _ _ hp
 .rintro i x t Y' H2 H3 hx ⟨⟨x0,y0,rfl⟩,s2,Kb⟩ n3;let hi:i<us.length:=(gq hx).1;let#[r,On,ra,Z,qg]:=bw Tk hx;let s3:=s2.trans n3.same;let Yk:=n3.keep Kb;let zy:=s3 _ _ hd;let Vf:=s3 _ _ qg;let ht3:=n3.self;let hfl:((List.range i).map λp=>V.int^firstM rs p).length=i:=by simp
  let hdf:d≠f:=aH hd ff;let alS:ra≠f:=aH qg ff;clear n3 s2 Kb;let#[hL1,Xg]:=hL i ∅;lk;ext H4 p4;let s4:=p4.same s3 ff;let Mn:H4 f=!.lst ((List.range (i+1)).map λp=>V.int^firstM rs p):=by rw[p4.self,List.range_succ,bq];rfl
  let Nm:=p4.keep hdf zy;let aqP:=p4.keep alS Vf;clear p4 zy Vf Yk s3 ht3;show yC (λY' H'=>H'=H4/\Y'=[!.ref p,!.ref d,!.ref f,!.int ((firstM rs i:M)+qh rs i),!.int (i:M),!.ref ra]) ?_ ?_
  .lk;by_cases hm:iO rs i=ag
   .let#[a,e1,e2]:=hL1 hm;let ha4:=s4 _ _ e2;rw[e1,if_pos (show(!V.ref a).isSome=ag from Z)];lk;show Xm Nm e1 ?_;lk;show#[Z,?_];unfold qh;rw[if_pos hm,aq];have:(firstM rs i:M)+((jb rs i).length+1:M)=(firstM rs i:M)+(((jb rs i).length+1:O):M):=∅;rw[this]
   .rw[Xg hm,if_neg ()];lk;show#[Z,?_];unfold qh;rw[if_neg hm];simp
  rintro _ _ ⟨rfl,rfl⟩;let hdi:=xO r;let eN:firstM rs (i+1)=firstM rs i+(qh rs i+r.own):=by rw[firstM];unfold zG;rw[On];rfl
  lk;rw[hdi];cases Cc:r.gc with
  | true =>
   rw[if_pos Z];lk;show#[#[!.int (i:M),!.ref ra,?_],s4,Mn];have:(firstM rs (i+1):M)=(firstM rs i:M)+(qh rs i:M)+2:=by rw[eN];unfold Row.own;rw[Cc,if_pos Z];lia
   rw[this]
   first|rfl|skip
  | false =>
   rw[if_neg ()];lk;show#[#[!.int (i:M),!.ref ra,?_],s4,Mn];have:(firstM rs (i+1):M)=(firstM rs i:M)+(qh rs i:M)+1:=by rw[eN];unfold Row.own;rw[Cc,if_neg ()];lia
   rw[this]
 .rintro Y' H2 ⟨⟨x0,y0,rfl⟩,s2,Kb⟩;lk;rw[zw] at Kb;show q f H2 s2 ff Kb
inductive MC(vs:List V)(H:Hp)(Q:VK)(z:XK):Prop|mk(a:Addr)(r:Row)(q:Int)(z:vs=[¬a,.int q])(z:H a=!.tup r.vals)(z:∀(l:Addr)(us:List V)(H':Hp),az H H'->H l=none->H' l=!.lst us->Rows H' us^r.dbl q->Q (¬l) H')
def Ig(r:bv)(h:r.gc=ag):∃(ky:bc)(d:M)(m:List V),r.vals=.str ky::.int d::m/\(2<=m.length/\m.length<=5)/\z9 (.str ky) [.str "num", .str "copy", .str "op"]=ag /\
  ∀q,∃r0 r1,r.dbl q=[r0,r1]/\r0.vals=(([.str ky]++[.int 0])++m.dropLast)++[.int (q+1)]/\r1.vals=([.str ky]++[.int 1])++m:=by cases r<;>first|(cases h;done)|show#[_,_,_,rfl,by simp,rfl,λq=>#[_,_,Z,Z,Z]]
theorem Yl(a b:V)(m:List V):fV (a::b::m) aw^some 1=[a]/\fV (a::b::m) (!2)^some (-1)=m.dropLast/\fV (a::b::m) (!2) aw=m:=by show#[?_,?_,?_]<;>simp[fV,HT.gu,List.dropLast_eq_take]<;>lia
theorem Ih:T.doubled∩(1,MC):=by
 exists T.doubled,HA,#[a,r,q1,rfl,ha,q],".?sÖ<0©-:D*0-:D+YYY£0Q>@Ê'g9 0Q]_>*V1*YY£0Q>@p0Q",2,(by with_unfolding_all rfl);let cD:=T.nQ.q;by_cases hd:r.gc=ag
 .let#[ky,d,m,e,#[m2,m5],Sr,hq]:=Ig r hd;let#[r0,r1,e0,e1,e2]:=hq q1;let#[c1,c2,c3]:=Yl (.str ky) (.int d) m;let d0:m.dropLast.length=m.length-1:=List.length_dropLast;let dn:m.dropLast≠[]:=λz=>by rw[z] at d0;simp at d0;lia
  let mn:m≠[]:=λz=>by rw[z] at m2;simp at m2
  rw[e] at ha;rw[e0] at q;clear e hd hq e0;lk;rw[Sr];lk;show vW (dD.of ha) (by simp[HT.gu]) λp1 H1 n1=>?_;rw[c1] at n1;lk;ext p2 H2 n2;show jG (dD.of^n2.keep n1.self) (dD.of n2.self) (by simp) (by simp) (by simp) λp3 H3 n3=>?_;let s3:=(n1.same.trans n2.same).trans n3.same;let Vn:=s3 _ _ ha;clear n1 n2;lk;show vW (dD.of Vn) (by simp[HT.gu]) λp4 H4 n4=>?_;rw[c2] at n4;show jG (dD.of^n4.keep n3.self) (dD.of n4.self) (by simp) dn (by simp;lia) λp5 H5 n5=>?_;let s5:=(s3.trans n4.same).trans n5.same;let h5:=n5.self;clear n3 n4 n5 Vn s3;lk;ext p6 H6 n6;show jG (dD.of^n6.keep h5) (dD.of n6.self) (by simp) (by simp) (by simp;lia) λp7 H7 n7=>?_;let s7:=(s5.trans n6.same).trans n7.same;let ha7:=s7 _ _ ha;let h7:=n7.self;rw[<- e1] at h7;clear n6 n7 h5 s5;lk;show vW (dD.of ha7) (by simp[HT.gu]) λp8 H8 n8=>?_;rw[c1] at n8;lk;ext p9 H9 n9;show jG (dD.of^n9.keep n8.self) (dD.of n9.self) (by simp) (by simp) (by simp) λKx Ab wM=>?_;let lG:=(n8.same.trans n9.same).trans wM.same;let EZ:=lG _ _ ha7;clear n8 n9;lk;show vW (dD.of EZ) (by simp[HT.gu]) λwN Dj o6=>?_;rw[c3] at o6;show jG (dD.of^o6.keep wM.self) (dD.of o6.self) (by simp) mn (by simp;lia) λMw HN HP=>?_;let T0:=(lG.trans o6.same).trans HP.same;let h12:=HP.self;rw[<- e2] at h12;let h7':=T0 _ _ h7;clear wM o6 HP EZ;lk;ext l H13 n13;show q l _ H13 ((s7.trans T0).trans n13.same) ((s7.trans T0).free n13.1) n13.self^.cons #[p7,Z,n13.keep h7']^.cons #[Mw,Z,n13.keep h12] .nil
 .have ha0:=ha;cases r<;>first|show absurd Z hd|(erw[Row.vals,Row.key,Row.rest] at ha;lk;ext l H1 n1;show q l _ H1 n1.same n1.1 n1.self^.cons #[a,Z,n1.keep ha0] .nil)
def vB{g:ae}(h:H g=!.lst us)(p:mT H g (.lst vs) H'):bX H H':=λb xs e=>p.keep (cJ e h (by intro z;cases z)) e
def Rg{qs:List bv}(h1:Rows H us rs)(h2:Rows H vs qs):Rows H (us++vs) (rs++qs):=kF h1 h2
inductive Rh(vs:List V)(H:Hp)(Q:VK)(z:XK):Prop|mk(p:Addr)(us:List V)(rs:List Row)(z:vs=[¬p])(z:H p=!.lst us)(z:Rows H us rs)(z:(∀r∈rs,r.ok rs.length))(z:rs.length<=2000)(z:∀(g:Addr)(vs:List V)(H':Hp),az H H'->H g=none->H' g=!.lst vs->Rows H' vs^fY rs rs.length->Q (¬g) H')
set_option maxHeartbeats 40000000 in
theorem MD:T.Cu∩(6,Rh):=by
 exists T.Cu,i7,#[p,us,rs,rfl,hp,Tk,hok,hn,q],".=1/Rf *0.=2/w6 +0*1.=3P.L{*0|2[B4aB5.LHòM14PB6-GO3*>A+6*VJ*3¢?ÅàM41-GO3*>A*VJ*3-Gt3*/Ih +/Cw +5*2*J*3-:3",7,#[rfl,rfl,rfl,rfl];let zw:=Tk.length;lk;show#[p,us,rs,rfl,hp,Tk,hok,hn,λd kvs H1 s1 fd QR hL1=>?_];lk;show#[p,d,us,rs,kvs,rfl,s1 _ _ hp,Tk.same s1,hn,QR,hL1,λf H2 s2 ff Kb=>?_];let Qb:=s2 _ _ QR;let Xg:=hL1.same s2;let s02:=s1.trans s2;let hp2:=s02 _ _ hp;let QD:=Tk.same s02;clear s1 s2 QR hL1;lk;ext g H3 n3;let fg2:H2 g=none:=n3.1;let s3:=n3.same;let hg3:=n3.self;clear n3;show B5 (xs:=us) (λi Y' H'=>A3 ((E3 λx y z=>Y'=[!.ref p,!.ref d,!.ref f,!.ref g,x,y,z])) (az H2 H') (∃vs,H' g=!.lst vs/\Rows H' vs^fY rs i)) ?_ ?_ ?_ ?_;show#[#[_,_,_,rfl],s3,[],hg3,.nil];rintro i Y' H' _ ⟨_,s',_⟩;show bI.of^s' _ _ hp2
 .rintro i x t Y' H4 H5 hx ⟨⟨x0,y0,z0,rfl⟩,s4,vs,hg4,Oy⟩ n5;let hi:i<us.length:=(gq hx).1;let#[r,On,ra,rfl,qg]:=bw QD hx;let s5:=s4.trans n5.same;let hg5:=n5.keep hg4;let agb:=Oy.same n5.same;let UQ:=s5 _ _ Qb;let agc:=s5 _ _ qg;let ht5:=n5.self;let hdg:d≠g:=aH Qb fg2;let Op:vs.length=firstM rs i:=by rw[Oy.length,gp ∅]
  let hfl:=vA rs i;let#[hm1,Ki]:=Xg i ∅;clear n5 s4 hg4 Oy;lk;ext dl H6 n6;let s6:=s5.trans n6.same;let hg6:=n6.keep hg5;let agd:=agb.same n6.same;let Vo:=n6.keep UQ;let alU:=n6.keep agc;let alV:dl≠g:=(aH hg5 n6.1).symm;let age:=n6.self;clear n6 hg5 agb UQ agc s5 ht5;obtain⟨la,Lk,ela,hla,hlk,hlg⟩:∃la Lk,(c9 kvs (.inl (i:Int))).getD (.ref dl)=.ref la/\H6 la=some (.lst (Lk.map V.int))/\Lk=(if iO rs i=true then jb rs i else[])/\la≠g:=by by_cases hm:iO rs i=true;let#[a,e1,e2]:=hm1 hm;show#[a,_,by rw[e1];rfl,s6 _ _ e2,by rw[if_pos hm],aH e2 fg2];show#[dl,[],by rw[Ki hm];rfl,age,by rw[if_neg hm],alV]
  let hLl:Lk.length<=8:=by rw[hlk];split;show zH rs i;show aV _
  rw[ela];lk;show f_list (xs:=Lk.map V.int) (λk Y' H'=>A4 ((∃z,Y'=[!.ref p,!.ref d,!.ref f,!.ref g,!.int (i:Int),!.ref ra,z])) (az H2 H') (H' la=!.lst^Lk.map V.int) (∃vs',H' g=!.lst vs'/\Rows H' vs' (fY rs i++dN (firstM rs i)^Lk.take k))) ?_ ?_ ?_ ?_;show#[#[_,rfl],s6,hla,vs,hg6,by simpa[dN] using agd];rintro k Y' H' _ ⟨_,_,h,_⟩;show bI.of h
  .rintro k y Y' H7 hy ⟨⟨z,rfl⟩,s7,QT,vs',hg7,Aq⟩;rw[bJ] at hy;let#[b,hb,rfl]:=cU.mp hy;let tU:=(gq hb).1;let agh:vs'.length=firstM rs i+k:=by rw[Aq.length,aT,gp ∅,jm,cC];lia
   lk;ext t8 H8 n8 H9 p9;let hg8:=n8.keep hg7;let tt:=vB hg8 p9;show#[#[_,rfl],p9.same (s7.trans n8.same) fg2,p9.keep hlg^n8.keep QT,_,p9.self,?_];rw[b8,hb];change Rows H9 _ (fY rs i++dN (firstM rs i) (Lk.take k++[b]));rw[o7,<- jD];show eU ((Aq.same n8.same).fQ tt) #[t8,rfl,?_];let e:(firstM rs i:Int)+((Lk.take k).length:Int)+1=(vs'.length:Int)+1:=by rw[cC];lia
   rw[e];show tt _ _ n8.self
  .rintro Y' H7 ⟨⟨z,rfl⟩,s7,QT,vs',hg7,Aq⟩;rw[aq,b9] at Aq;let SV:=s7 _ _ Qb;let alW:=s7 _ _ qg;let agh:vs'.length=firstM rs i+Lk.length:=by rw[Aq.length,aT,gp ∅,jm]
   clear hg6 agd Vo alU age hla s6;lk;show yC (λY' H'=>A3 (Y'=[!.ref p,!.ref d,!.ref f,!.ref g,!.int (i:Int),!.ref ra,z]) (az H2 H') (∃vs2,H' g=!.lst vs2/\Rows H' vs2 (fY rs i++CF rs i))) ?_ ?_
   .lk;by_cases hm:iO rs i=true
    .let#[a,e1,_]:=hm1 hm;rw[e1,if_pos (show(!V.ref a).isSome=true from rfl)];lk;ext t8 H8 n8 H9 p9;let hg8:=n8.keep hg7;let tt:=vB hg8 p9;show#[rfl,p9.same (s7.trans n8.same) fg2,_,p9.self,?_];unfold CF;rw[if_pos hm,<- jD];rw[hlk,if_pos hm] at Aq agh;show eU ((Aq.same n8.same).fQ tt) #[t8,rfl,?_];let e:(firstM rs i:Int)+((jb rs i).length:Int)+1=(vs'.length:Int)+1:=∅;rw[e];show tt _ _ n8.self
    .rw[Ki hm,if_neg ()];lk;show#[rfl,s7,vs',hg7,?_];unfold CF;rw[if_neg hm];rw[hlk,if_neg hm] at Aq;simpa[dN] using Aq
   rintro _ H8 ⟨rfl,s8,vs2,hg8,Fl⟩;let alX:vs2.length=firstM rs i+qh rs i:=by rw[Fl.length,aT,gp ∅,Ft]
   let hmn:=Kw rs i;let agj:=s8 _ _ qg;let QG:=s8 _ _ Kb;clear SV alW hg7 Aq s7 QT;lk;show#[ra,f,r,_,vz rs,rfl,agj,QG,λz hz=>?_,λt9 H9 s9 ht9=>?_];let hzb:=Row.xN (hok r^jd On) z hz;let ez:z=((z.toNat:Nat):Int):=∅;let hzl:z.toNat<rs.length:=∅;have:=dM (xs:=(List.range rs.length).map λp=>V.int^firstM rs p) (j:=z.toNat) (v:=.int^firstM rs z.toNat) (by rw[bJ,List.getElem?_range hzl];rfl);rw[<- ez] at this;show this;let hg9:=s9 _ _ hg8;let Q2:=Fl.same s9;let s29:=s8.trans s9;clear s9 s8 hg8 Fl agj QG;lk;show#[t9,r.kX^vz rs,_,rfl,ht9,λl us2 Ab lG fl aqU Ym=>?_];let alZ:=lG _ _ hg9;let agk:=Q2.same lG;let al0:=s29.trans lG;let hlg:l≠g:=(aH hg9 fl).symm;let aqV:us2.length<=2:=by rw[Ym.length,Kv];show Rc r
   clear lG hg9 Q2 s29 ht9;lk;ext Dj wN;let tt:=vB alZ wN;show#[#[_,_,_,rfl],wN.same al0 fg2,_,wN.self,?_];let e:fY rs (i+1)=fY rs i++CF rs i++(r.kX^vz rs).dbl (vs2.length:Int):=by rw[fY,On];change _++putAt rs i r=_;unfold putAt;rw[alX,<- jD,Int.natCast_add]
   rw[e];show Rg (agk.fQ tt)^Ym.fQ tt
 .rintro Y' H4 ⟨⟨x0,y0,z0,rfl⟩,s4,vs,hg4,Oy⟩;lk;rw[zw] at Oy;show q g vs H4 (s02.trans s4) (s02.free fg2) hg4 Oy
inductive S where
 | num (x:Str) (n:Int)
 | copy (x a:Str)
 | op (x o a b:Str)
 | out (a:Str)
 | ifs (a:Str) (y n:List S)
 | xP (a:Str) (b:List S)
end
mutual
def dS(H:Hp):S->V->eL
 | .num x n,v=>∃p,v=¬p/\H p=!.tup [.str "num", .str x,.int n]
 | .copy x a,v=>∃p,v=¬p/\H p=!.tup [.str "copy", .str x,.str a]
 | .op x o a b,v=>∃p,v=¬p/\H p=!.tup [.str "op", .str x,.str o,.str a,.str b]
 | .out a,v=>∃p,v=¬p/\H p=!.tup [.str "out", .str a]
 | .ifs a y n,v=>∃p py pn vy vn,v=¬p/\H p=!.tup [.str "if", .str a,¬py,¬pn]/\H py=!.tup vy/\H pn=!.tup vn/\bg H y vy/\bg H n vn
 | .xP a b,v=>∃p pb vb,v=¬p/\H p=!.tup [.str "while", .str a,¬pb]/\H pb=!.tup vb/\bg H b vb
def bg(H:Hp):List S->List V->eL
 | [],vs=>vs=[]
 | s::ss,vs=>∃v vr,vs=v::vr/\dS H s v/\bg H ss vr
end
mutual
theorem dS.mono{H H':Hp}(e:bX H H'):∀(s:S)(v:V),dS H s v->dS H' s v
 | .num ..,v,h|.copy ..,v,h|.op ..,v,h|.out ..,v,h=>by
  erw[dS] at h ⊢;let#[p,h1,h2]:=h;show#[p,h1,e _ _ h2]
 | .ifs a y n,v,h=>by
  erw[dS] at h ⊢;let#[p,py,pn,vy,vn,h1,h2,h3,h4,h5,h6]:=h;show#[p,py,pn,vy,vn,h1,e _ _ h2,e _ _ h3,e _ _ h4,bg.mono e y vy h5,bg.mono e n vn h6]
 | .xP a b,v,h=>by erw[dS] at h ⊢;let#[p,pb,vb,h1,h2,h3,h4]:=h;show#[p,pb,vb,h1,e _ _ h2,e _ _ h3,bg.mono e b vb h4]
theorem bg.mono{H H':Hp}(e:bX H H'):∀(ss:List S)(vs:List V),bg H ss vs->bg H' ss vs
 | [],vs,h=>by
  erw[bg] at h ⊢;show h
 | s::ss,vs,h=>by erw[bg] at h ⊢;let#[v,vr,h1,h2,h3]:=h;show#[v,vr,h1,dS.mono e s v h2,bg.mono e ss vr h3]
end
theorem bg.append{ts:List S}{ws:List V}(h2:bg H ts ws):∀{ss:List S}{vs:List V},bg H ss vs->bg H (ss++ts) (vs++ws)
 | [],vs,h=>by
  erw[bg] at h;subst h;show h2
 | s::ss,vs,h=>by erw[bg] at h;let#[v,vr,Z,h1,h3]:=h;change bg H (s::(ss++ts)) (v::(vr++ws));erw[bg];show#[v,_,Z,h1,bg.append h2 h3]
def bg.one{s:S}(h:dS H s v):bg H [s] [v]:=by erw[bg];show#[v,[],Z,h,Z]
theorem bg.length{H:Hp}:∀{ss:List S}{vs:List V},bg H ss vs->dA=ss.length
 | [],vs,h=>by
  erw[bg] at h;subst h;rfl
 | s::ss,vs,h=>by erw[bg] at h;let#[v,vr,Z,_,h3]:=h;simp[bg.length h3]
theorem bg.get:∀{ss:List S}{vs:List V}{i:O}{v:V},bg H ss vs->vs[i]?=!v->∃s,ss[i]?=!s/\dS H s v
 | [],vs,i,v,h,e=>by
  erw[bg] at h;subst h;simp at e
 | s::ss,vs,0,v,h,e=>by
  erw[bg] at h;let#[w8,vr,Z,h1,h3]:=h;simp at e;subst e;show#[s,Z,h1]
 | s::ss,vs,i+1,v,h,e=>by erw[bg] at h;let#[w8,vr,Z,h1,h3]:=h;let#[t,e1,e2]:=bg.get (i:=i) (v:=v) h3 (by simpa using e);show#[t,by simpa using e1,e2]
mutual
noncomputable def S.rows:S->O
 | .ifs _ y n=>3+S.bV y+S.bV n
 | .xP _ b=>3+S.bV b
 | _=>1
noncomputable def S.bV:List S->O
 | []=>0
 | s::ss=>s.rows+S.bV ss
end
theorem gC(ss ts:List S):S.bV (ss++ts)=S.bV ss+S.bV ts:=by
 induction ss with
 | nil=>simp[S.bV]
 | cons s ss ih=>simp[S.bV,ih];lia
mutual
def S.ok(N:bc->eL):S->eL
 | .num x n=>N x/\0<=n/\n<281474976710656
 | .copy x a=>N x/\N a
 | .op x o a b=>N x/\o∈(["+", "-", "*", "/", "<", "=", "&", "|", "^"]:List bc)/\N a/\N b
 | .out a=>N a
 | .ifs a y n=>N a/\S.uA N y/\S.uA N n
 | .xP a b=>N a/\S.uA N b
def S.uA(N:bc->eL):List S->eL
 | []=>True
 | s::ss=>S.ok N s/\S.uA N ss
end
def nD{ts:List S}(h1:S.uA N ss)(h2:S.uA N ts):S.uA N (ss++ts):=by
 induction ss with
 | nil=>show h2
 | cons s ss ih =>
  erw[S.uA] at h1;erw[mK,S.uA];show#[h1.1,ih h1.2]
def VG{s:S}(h:S.ok N s):S.uA N [s]:=by erw[S.uA];show#[h,trivial]
mutual
noncomputable def S.dF:S->List S
 | .ifs a y n=>.ifs a y n::(S.bE y++S.bE n)
 | .xP a b=>.xP a b::S.bE b
 | s=>[s]
noncomputable def S.bE:List S->List S
 | []=>[]
 | s::ss=>s.dF++S.bE ss
end
def nE(ss ts:List S):S.bE (ss++ts)=S.bE ss++S.bE ts:=by
 induction ss with
 | nil=>simp[S.bE]
 | cons s ss ih=>simp[S.bE,ih]
mutual
theorem ME:∀s:S,s.dF.length<=s.rows
 | .num .. | .copy .. | .op .. | .out ..=>by simp[S.dF,S.rows]
 | .ifs a y n=>by
  let h1:=gD y;let h2:=gD n;erw[S.dF,S.rows,ck,aT];lia
 | .xP a b=>by let h1:=gD b;erw[S.dF,S.rows,ck];lia
theorem gD:∀ss:List S,(S.bE ss).length<=S.bV ss
 | []=>by simp[S.bE,S.bV]
 | s::ss=>by let h1:=ME s;let h2:=gD ss;erw[S.bE,S.bV,aT];lia
end
theorem ue:∀{ss:List S}{i:O}{s:S},ss[i]?=!s->S.bV^ss.take i+s.rows<=S.bV ss
 | [],i,s,e=>by simp at e
 | t::ss,0,s,e=>by
  simp at e;subst e;erw[List.take_zero,S.bV];lia
 | t::ss,i+1,s,e=>by have:=ue (ss:=ss) (i:=i) (s:=s) (by simpa using e);erw[List.take_succ_cons,S.bV];lia
noncomputable def S.own:S->List bc
 | .num x _=>[x]
 | .copy x a=>[x,a]
 | .op x _ a b=>[x,a,b]
 | .out a=>[a]
 | .ifs a _ _=>[a]
 | .xP a _=>[a]
def VH(s:S):s.own.length<=3:=by cases s<;>simp[S.own]
def cR(ss:List S):List Str:=ss.flatMap S.own
theorem zJ(ss:List S):(cR ss).length<=3*ss.length:=by
 induction ss with
 | nil=>simp[cR]
 | cons s ss ih =>
  have:=VH s;erw[cR,nX,aT,ck] at ih ⊢;lia
noncomputable def kZ(Xt:List bc)(x:bc):List Str:=if x∈Xt then Xt else Xt++[x]
def fR(xs:List bc):List Str:=xs.foldl kZ []
def CG(xs ys:List bc):fR (xs++ys)=ys.foldl kZ^fR xs:=List.foldl_append ..
theorem MF(Xt:List bc)(x:bc):(kZ Xt x).length<=Xt.length+1:=by unfold kZ;split;lia;simp
theorem qd(xs:List bc):(fR xs).length<=xs.length:=by
 have:∀(xs Xt:List bc),(xs.foldl kZ Xt).length<=Xt.length+xs.length:=by
  intro xs;induction xs with
  | nil=>intro Xt;simp
  | cons x xs ih =>
   intro Xt;let h1:=ih^kZ Xt x;let h2:=MF Xt x;erw[List.foldl_cons,ck];lia
 have:=this xs [];simpa[fR] using this
noncomputable def gH(xs:List bc):List (Key×V):=xs.map λx=>(Sum.inr x,V.bl ag)
def vC(Xt:List bc)(x:bc):putK (gH Xt) (.inr x)^.bl ag=gH^kZ Xt x:=by
 let ea:((gH Xt).any λkv=>decide (kv.1=Sum.inr x))=decide (x∈Xt):=by
  unfold gH;rw[List.any_map];induction Xt with
  | nil=>simp
  | cons y Xt ih =>
   rw[lq,ih];by_cases e:y=x;simp[e];let e':Not (x=y):=λh=>e h.symm;simp[e,e']
 unfold putK kZ;rw[ea];by_cases h:x∈Xt;rw[if_pos^decide_eq_true h,if_pos h];unfold gH;rw[gI];show List.map_congr_left λy z=>?_;change(if(Sum.inr y:Key)=Sum.inr x then((Sum.inr y:Key),V.bl ag) else(Sum.inr y,V.bl ag))=_;split<;>rfl;rw[if_neg^by simpa using h,if_neg h];unfold gH;rw[bq];rfl
def vD(xs:List bc):(gH xs).length=xs.length:=aq _
def Ii(xs:List bc):(gH xs).map (λz=>kV z.1)=xs.map V.str:=by unfold gH;rw[gI];rfl
def bg.cons_inv{s:S}(h:bg H (s::ss) vs):∃v vr,vs=v::vr/\dS H s v/\bg H ss vr:=by simpa only[bg] using h
theorem iy(ts:List S):ts.length<=S.bV ts:=by
 induction ts with
 | nil=>simp
 | cons t ts ih =>
  have:1<=t.rows:=by cases t<;>erw[S.rows]<;>lia
  erw[S.bV,ck];lia
inductive MG(vs:List V)(H:Hp)(Q:VK)(z:XK):Prop|mk(p:Addr)(vb:List V)(ss:List S)(z:vs=[¬p])(z:H p=!.tup vb)(z:bg H ss vb)(z:S.bV ss<=100000)(z:∀(l:Addr)(vf:List V)(H':Hp),az H H'->H l=none->H' l=!.lst vf->bg H' (S.bE ss) vf->Q (¬l) H')
def abR(H:Hp)(ss:List S)(p co fo:ae)(k:O)(Y':L2.St)(H':Hp):=∃(done rest:List S)(vd vr:List V)(st kk:Option V),Y'=[!.ref p,!.ref co,!.ref fo,st,kk]/\az H H'/\H' co=!.lst vr.reverse/\H' fo=!.lst vd/\bg H' done vd/\bg H' rest vr/\S.bE ss=done++S.bE rest/\S.bV rest<=100000/\k=(S.bE rest).length
section
variable (T:Txt w8 K_ m_)
theorem jz:T.jv∩(1,MG):=by
 exists T.jv,jt,#[p,vb,ss,rfl,hp,Tm,cY,q],".=1â0.=2P.­®1.=3¯1.GO2*3-Lãóo'T.j0.wz <3¤B4-Gt1*â^ä34-:2",5,(λj=>rfl),#[rfl,rfl,rfl,rfl];let hfl:=gD ss;let cI:=T.j0.sY;let cW:=T.j0.sZ;lk;ext co H1 n1 fo H2 n2;let VI:H co=none:=n1.1;let XO:H fo=none:=n1.same.free n2.1;let nco:co≠fo:=n2.ne n1.self;let Ri:=n2.keep n1.self;let zu:=n2.self;let s2:az H H2:=n1.same.trans n2.same;clear n1 n2;show pP (abR H ss p co fo) ?_ ?_;show#[_,[],ss,[],vb,none,none,Z,s2,Ri,zu,Z,bg.mono (sT s2) _ _ Tm,Z,cY,Z]
 .rintro k Y' H3 ⟨done,rest,vd,vr,st,kk,rfl,s3,CH,tT,hd,hre,abS,hrr,rfl⟩;clear Ri zu s2;let hdl:vd.length=done.length:=hd.length;let aqW:done.length+(S.bE rest).length<=100000:=by have:=congrArg List.length abS;rw[aT] at this;lia
  cases rest with
  | nil =>
   erw[bg] at hre;subst hre;rw[List.reverse_nil] at CH;lk;show q fo vd H3 s3 XO tT ?_;rw[abS];erw[S.bE,cZ];show hd
  | cons x rs =>
   let#[v,vr',Z,hx,Tk]:=hre.cons_inv;rw[qA] at CH;lk;show B0 (by simp) ?_;lk;show s_pop CH (y:=v) (by simp) ?_;intro H4 p4;rw[List.dropLast_concat] at p4;let Rj:=p4.keep (aR nco) tT;let tt4:bX H3 H4:=λb xs e=>p4.keep (cJ e CH (by intro z;cases z)) e;let s4:=p4.same s3 VI;let agm:=p4.self;let hx4:=dS.mono tt4 _ _ hx;let QE:=bg.mono tt4 _ _ Tk;let Nm:=bg.mono tt4 _ _ hd;clear p4 CH tT tt4 hx Tk hre hd s3;let hvd:vd.length<=100000:=∅;lk;ext H5 p5;let Fv:=p5.keep nco agm;let tt5:bX H4 H5:=λb xs e=>p5.keep (cJ e Rj (by intro z;cases z)) e;let s5:=p5.same s4 XO;let Rk:=p5.self;let hx5:=dS.mono tt5 _ _ hx4;let agn:=bg.mono tt5 _ _ QE;let UQ:=bg.mono tt5 _ _ Nm;clear p5 agm Rj tt5 hx4 QE Nm s4;let hvr:=agn.length;let fin:∀(H6:Hp)(kk':Option V)(ys:List S)(vy:List V),az H H6->bX H5 H6->H6 co=!.lst ((vy++vr').reverse)->H6 fo=!.lst (vd++[v])->bg H6 ys vy->x.dF=x::S.bE ys->S.bV ys<=x.rows ->
     ∃m',m'<(S.bE (x::rs)).length/\abR H ss p co fo m' [!V.ref p,!.ref co,!.ref fo,!v,kk'] H6:=by
    intro H6 kk' ys vy a1 a2 a3 a4 a5 a6 a7;let e:S.bE (x::rs)=x::S.bE (ys++rs):=by rw[nE];erw[S.bE];rw[a6];rfl
    show#[_,?_,done++[x],ys++rs,vd++[v],vy++vr',!v,kk',Z,a1,a3,a4,bg.append (bg.one^dS.mono a2 _ _ hx5)^bg.mono a2 _ _ UQ,bg.append (bg.mono a2 _ _ agn) a5,?_,?_,Z];rw[e,ck];lia;rw[abS,e];simp;rw[gC];erw[S.bV] at hrr;lia
   let Op:vr'.length<=100000:=by have:=iy rs;erw[S.bV] at hrr;lia
   let Hk:∀(t:ae)(H6:Hp),gX H5 t (.tup []) H6->x.dF=[x]->∃m',m'<(S.bE (x::rs)).length/\abR H ss p co fo m' [!V.ref p,!.ref co,!.ref fo,!v,kk] H6:=λt H6 n6 e =>
    fin H6 kk [] [] (s5.trans n6.same) (sT n6.same) (n6.keep Fv) (n6.keep Rk) Z (by rw[e];rfl)^aV _
   cases x with
   | num|copy|op|out =>
    erw[dS] at hx5;let#[pv,Z,tX]:=hx5;lk;ext t H6 n6;change DT K_ _ (¬t) H6;show Ca (dD.of n6.self)^Uw (dD.of n6.self) ?_;walk_at "nxd";show Hk t H6 n6 Z
   | ifs a y n =>
    erw[dS] at hx5;let#[pv,py,pn,vy,vn,Z,tX,hpy,hpn,hy,hn]:=hx5;clear Hk;lk;ext t H6 n6;let Ij:=n6.keep Fv;let MH:=n6.keep Rk;let al1:=n6.keep tX;let aqX:=n6.keep hpy;let aqY:=n6.keep hpn;let s6:=s5.trans n6.same;let tt6:=sT n6.same;clear n6 Fv Rk tX hpy hpn;change DT K_ _ (¬T.j0.jQ) H6;show Ca (cI H6) ?_;show Jv (xs:=[.int 2,.int 3]) (λH=>cI H) ?_;erw[qA,List.reverse_nil,List.nil_append,mK,Nk];let hry:S.bV y<=100000/\S.bV n<=100000/\S.bV rs<=100000:=by erw[S.bV,S.rows] at hrr;lia
    let l1:vr'.reverse.length<=100000:=by simpa using Op
    let l2:vn.reverse.length<=100000:=by have:=iy n;rw[lz,hn.length];lia
    let l3:vy.reverse.length<=100000:=by have:=iy y;rw[lz,hy.length];lia
    let l4:(vr'.reverse++vn.reverse).length<=2000000:=by rw[aT];lia
    lk;ext la H7 n7 H8 p8 lb H9 n9 Ab Kx;let Ar:=n7.keep Ij;let c8:=p8.self;let MI:=n9.keep c8;let tt8:bX H7 H8:=λb xs e=>p8.keep (cJ e Ar (by intro z;cases z)) e;let Rl:bX H9 Ab:=λb xs e=>Kx.keep (cJ e MI (by intro z;cases z)) e;let tt:=(((tt6.trans^sT n7.same).trans tt8).trans^sT n9.same).trans Rl;let lG:az H Ab:=Kx.same ((p8.same (s6.trans n7.same) VI).trans n9.same) VI;show fin Ab _ (y++n) (vy++vn) lG tt ?_ (Kx.keep (aR nco)^n9.keep^p8.keep (aR nco)^n7.keep MH) (bg.append (bg.mono tt _ _ hn)^bg.mono tt _ _ hy) ?_ ?_;rw[Kx.self];simp;erw[S.dF,nE];rw[gC];erw[S.rows];lia
   | xP a b =>
    erw[dS] at hx5;let#[pv,pb',vb',Z,tX,Ky,hb]:=hx5;clear Hk;lk;ext t H6 n6;let Ij:=n6.keep Fv;let MH:=n6.keep Rk;let al1:=n6.keep tX;let aq0:=n6.keep Ky;let s6:=s5.trans n6.same;let tt6:=sT n6.same;clear n6 Fv Rk tX Ky;change DT K_ _ (¬T.j0.jR) H6;show Ca (cW H6) ?_;show Jv (xs:=[.int 2]) (λH=>cW H) ?_;erw[qA,List.reverse_nil,List.nil_append,mK,Nk];let hry:S.bV b<=100000:=by erw[S.bV,S.rows] at hrr;lia
    let l1:vr'.reverse.length<=100000:=by simpa using Op
    let l3:vb'.reverse.length<=100000:=by have:=iy b;rw[lz,hb.length];lia
    lk;ext la H7 n7 H8 p8;let Ar:=n7.keep Ij;let tt8:bX H7 H8:=λb xs e=>p8.keep (cJ e Ar (by intro z;cases z)) e;let tt:=(tt6.trans^sT n7.same).trans tt8;show fin H8 _ b vb' (p8.same (s6.trans n7.same) VI) tt ?_ (p8.keep (aR nco)^n7.keep MH) (bg.mono tt _ _ hb) ?_ ?_;rw[p8.self];simp;erw[S.dF];erw[S.rows];lia
def Fw(H:Hp)(ps:List bc)(ss:List S)(jK:bc)(v:V):=∃p pp pb vb,v=¬p/\H p=!.tup [¬pp,¬pb,.str jK]/\H pp=!.tup^ps.map V.str/\H pb=!.tup vb/\bg H ss vb
theorem Fw.mono{H H':Hp}{ps:List bc}{ss:List S}{jK:bc}{v:V}(e:az H H')(h:Fw H ps ss jK v):Fw H' ps ss jK v:=by let#[p,pp,pb,vb,h1,h2,h3,h4,h5]:=h;show#[p,pp,pb,vb,h1,e _ _ h2,e _ _ h3,e _ _ h4,bg.mono (sT e) _ _ h5]
def MJ{s:S}(h:ss[i]?=!s):cR^ss.take (i+1)=cR^ss.take i++s.own:=by unfold cR;rw[b8,h,xY];simp
def vE(xs:List bc)(x:bc):fR (xs++[x])=kZ (fR xs) x:=by rw[CG];rfl
inductive CJ(vs:List V)(H:Hp)(Q:VK)(z:XK):Prop|mk(v:V)(ps:List Str)(ss:List S)(jK:Str)(z:vs=[v])(z:Fw H ps ss jK v)(z:S.bV ss<=100000)(z:∀H',az H H'->Q (.int (S.bE ss).length) H')
def As:T.nq∩(2,CJ):=by exists T.nq,Aj,#[v,ps,ss,jK,rfl,hp,cY,q],"-:J*/jz *<0",1;let#[pa,pp,pb,vb,Z,hpa,hpp,Ky,Tm]:=hp;lk;show#[pb,vb,ss,Z,Ky,Tm,cY,λl vf H' s1 z hl hf=>?_];lk;rw[hf.length];show q H' s1
inductive MK(vs:List V)(H:Hp)(Q:VK)(z:XK):Prop|mk(v:V)(ps:List Str)(ss:List S)(jK:Str)(z:vs=[v])(z:Fw H ps ss jK v)(z:ps.length<=10000)(z:S.bV ss<=100000)(z:∀l H',az H H'->H l=none->H' l=!.lst^(fR (ps++cR^S.bE ss++[jK])).map V.str->Q (¬l) H')
def NmI(H:Hp)(ss:List S)(ps:List bc)(pa d l:ae)(nm:Option V)(vf:List V)(i:O)(Y':L2.St)(H':Hp):=∃st kk,Y'=[!.ref pa,!.ref d,nm,st,kk]/\az H H'/\H' l=!.lst vf/\bg H' (S.bE ss) vf/\H' d=!.dK^gH^fR (ps++cR^(S.bE ss).take i)
theorem Fx:T.tN∩(2,MK):=by
  show T.tN.F.ok ju (λvs H Q E h=>?_) (λcdv A outer s H vs Q E hr h=>?_)
  · let#[v,ps,ss,jK,Z,_]:=h
    rfl
  let#[v,ps,ss,jK,Z,hp,Ty,cY,q]:=h;show#[_,(ak (bF 1 ju.nd rT)^ak (c7 bM Z (yh^aF aA (pv 0) af) (d7 2 ju.nd)^ao^jh (eB hr) (pv 1) (pv 2) jo Z)^ak (c7 bM Z (b4^aG T.jv (jz T) hr^aa (aF aA (pv 0) af) ai) (d7 3 ju.nd)^ao^c7 bM Z (yh^yF T.jx.ze (jJ T.jx.zc) (aF aA (pv 3) af) (λj j=>rfl)) (d7 4 ju.nd)^ao^jh (eB hr) (pv 1) (aF aA (pv 3)^pv 4) jo Z)^ak (jh (eB hr) (pv 1) (aF aA (pv 0) af) jo Z)^ao^aD^bZ (yI Z) Z T.oY BT.qH^aa (pv 1) ai),?_];change(_:TS) (Ends.mk _ _ _ _) [_,_,_,_,_] H;let#[pa,pp,pb,vb,Z,hpa,hpp,Ky,Tm]:=hp;let hfl:=gD ss;k_in;lk;ext d H1 n1;let fd:H d=none:=n1.1;let QR:H1 d=!.dK^gH^fR^ps.take 0:=n1.self;let s1:=n1.same;clear n1;show f_tup (xs:=ps.map V.str) (λi Y' H'=>∃nm,Y'=[!.ref pa,!.ref d,nm,none,none]/\az H H'/\H' d=!.dK^gH^fR^ps.take i) #[none,Z,s1,QR] ?_ ?_ ?_
  · rintro i Y' H' _ ⟨nm,rfl,s',_⟩
    show dD.of^s' _ _ hpp
  · rintro i x Y' H2 hx ⟨nm,rfl,s2,Qb⟩
    rw[bJ] at hx;let#[z,hz,Z]:=cU.mp hx;let hi:=(gq hz).1;let tU:(gH^fR^ps.take i).length<=10000:=by have:=qd^ps.take i;rw[vD];rw[cC] at this;lia
    clear QR s1;lk;ext H3 p3;show#[_,Z,p3.same s2 fd,?_];rw[p3.self,vC,b8,hz];change _=!HO.dK^gH^fR (ps.take i++[z]);rw[vE]
  rintro Y' H2 ⟨nm,rfl,s2,Qb⟩;rw[aq,b9] at Qb;clear QR s1;let al2:=s2 _ _ hpa;let agq:=s2 _ _ Ky;let Yn:=bg.mono (sT s2) _ _ Tm;lk;show#[pb,vb,ss,Z,agq,Yn,cY,λl vf H3 s3 fl hl hf=>?_];let zy:=s3 _ _ Qb;let w5:=s2.trans s3;let Op:=hf.length;let ndl:d≠l:=aH Qb fl;clear Qb al2 agq Yn;lk;show f_list (xs:=vf) (NmI H ss ps pa d l nm vf) ?_ ?_ ?_ ?_
  · show#[none,none,Z,w5,hl,hf,by simpa[cR] using zy]
  · rintro i Y' H' _ ⟨st,kk,rfl,s',Hn,_⟩
    show bI.of Hn
  · rintro i x Y' H4 hx ⟨st,kk,rfl,s4,XY,Mn,Nm⟩
    let#[t,ht,hrt]:=Mn.get hx;let hi:=(gq hx).1;clear zy hl hf w5 s2 s3;let tU:∀ys:List bc,ce<=3->(gH^fR (ps++cR^(S.bE ss).take i++ys)).length<=900000:=λys hy=>by let h1:=qd (ps++cR^(S.bE ss).take i++ys);let h2:=zJ^(S.bE ss).take i;rw[cC] at h2;rw[aT,aT] at h1;rw[vD];lia
    let k0:=tU [] (by simp);rw[cZ] at k0;let step:∀(Ha Hb:Hp)(ys:List bc)(y:bc),Ha d=!.dK^gH^fR (ps++cR^(S.bE ss).take i++ys)->mT Ha d (.dK^putK (gH^fR (ps++cR^(S.bE ss).take i++ys)) (.inr y)^.bl ag) Hb->ce<=2->Hb d=!.dK^gH^fR (ps++cR^(S.bE ss).take i++(ys++[y]))/\(gH^fR (ps++cR^(S.bE ss).take i++(ys++[y]))).length<=900000:=λHa Hb ys y h p hy=>#[by
      rw[p.self,vC,<- jD,vE],tU _ (by simp;lia)]
    let tup:∀{Ha Hb:Hp}{o:HO}{kvs:List (Key×V)},mT Ha d o Hb->Ha d=!.dK kvs->bX Ha Hb:=λp h b xs e=>p.keep (cJ e h (by intro z;cases z)) e;let fin:∀(Hb:Hp)(Ts kk':Option V)(ys:List bc),az H Hb->bX H4 Hb->Hb l=!.lst vf->Hb d=!.dK^gH^fR (ps++cR^(S.bE ss).take i++ys)->t.own=ys->NmI H ss ps pa d l nm vf (i+1) [!V.ref pa,!.ref d,nm,Ts,kk'] Hb:=λHb Ts kk' ys a1 a2 a3 a4 a5=>#[Ts,kk',Z,a1,a3,bg.mono a2 _ _ Mn,by rw[MJ ht,a5,<- jD];show a4];let agr:H4 d=!.dK^gH^fR (ps++cR^(S.bE ss).take i++[]):=by rw[cZ];show Nm
    let nld:l≠d:=aR ndl;clear Nm;let c0:=T.jx.wB;let c1:=T.jx.wC;let c2:=T.jx.wD;let c3:=T.jx.wF;let c4:=T.jx.wG;let c5:=T.jx.wH;let k0:=tU [] (by simp);let tt:bX H4 H4:=λj j e=>e;let hd:=agr;cases t
    all_goals
      clear agr;erw[dS] at hrt
      first
        | let#[pv,_,_,_,_,Z,tX,_]:=hrt
        | let#[pv,_,_,Z,tX,_]:=hrt
        | let#[pv,Z,tX]:=hrt
      lk;show aaP (λH=>by first|show c0 H|show c1 H|show c2 H|show c3 H|show c4 H|show c5 H) ?_;erw[Nk]
      iterate 4 all_goals
        first
          | show fin _ _ _ _ s4 tt XY hd Z
          | (lk
             ext Hb pb;let t1:=tup pb hd;replace tX:=t1 _ _ tX;replace tt:=tt.trans t1;replace s4:=pb.same s4 fd;replace XY:=pb.keep nld XY;let hk:=step _ _ _ _ hd pb (by simp);clear hd k0 pb t1;let#[hd,k0]:=hk)
  · rintro Y' H4 ⟨st,kk,rfl,s4,XY,Mn,Nm⟩
    rw[Op,b9] at Nm;let aq2:=s4 _ _ hpa;let tU:(gH^fR (ps++cR^S.bE ss)).length<=900000:=by let h1:=qd (ps++cR^S.bE ss);let h2:=zJ^S.bE ss;rw[aT] at h1;rw[vD];lia
    clear zy hl hf w5 s2 s3;lk;ext H5 p5 lo H6 n6;show q lo H6 ((p5.same s4 fd).trans n6.same) ((p5.same s4 fd).free n6.1) ?_;rw[n6.self,vC,<- vE,Ii]
def S.cnt(s:S):Nat:=s.dF.length
def eK(ss:List S):Nat:=(S.bE ss).length
def j3(s:S)(ss:List S):eK (s::ss)=s.cnt+eK ss:=by unfold eK S.cnt;erw[S.bE,aT]
def wO(ss ts:List S):eK (ss++ts)=eK ss+eK ts:=by unfold eK;rw[nE,aT]
def VJ(s:S):1<=s.cnt:=by unfold S.cnt;cases s<;>simp[S.dF]
theorem VL(a:bc)(y n:List S):(S.ifs a y n).cnt=1+(eK y+eK n):=by unfold S.cnt eK;erw[S.dF,ck,aT];lia
theorem VM(a:bc)(b:List S):(S.xP a b).cnt=1+eK b:=by unfold S.cnt eK;erw[S.dF,ck];lia
noncomputable def iz:List S->M->M->List (S×M)
 | [],_,_=>[]
 | s::ss,p,e=>(s,if ss.isEmpty then e else p+s.cnt)::iz ss (p+s.cnt) e
def cntK(L:List (S×M)):Nat:=eK^L.map (·.1)
theorem gE(e:M):∀(ss:List S)(p:M),(iz ss p e).map (·.1)=ss
 | [],_=>rfl
 | s::ss,p=>by erw[iz,cN];rw[gE e ss]
def mD(ss:List S)(p e:M):(iz ss p e).length=ss.length:=by have:=congrArg List.length^gE e ss p;rwa [aq] at this
theorem Bs(e:M):∀(ss:List S)(p:M)(k:O)(s:S),ss[k]?=!s->(iz ss p e)[k]?=!(s,if k+1=ss.length then e else p+eK^ss.take (k+1))
 | [],_,_,_,h=>by simp at h
 | t::ss,p,0,s,h=>by
  simp at h;subst h;erw[iz,BE,List.take_succ_cons,List.take_zero,ck];cases ss with
  | nil=>rfl
  | cons u us =>
   rw[if_neg^by simp,if_neg^by simp];have:eK [t]=t.cnt:=by rw[j3];rfl
   rw[this]
 | t::ss,p,k+1,s,h=>by erw[iz,List.getElem?_cons_succ];rw[Bs e ss (p+t.cnt) k s^by simpa using h];erw[ck,List.take_succ_cons];rw[j3];by_cases hk:k+1=ss.length;rw[if_pos hk,if_pos ∅];rw[if_neg hk,if_neg ∅,show p+(t.cnt:M)+(eK^ss.take (k+1):M)=p+((t.cnt+eK^ss.take (k+1):O):M) by lia]
theorem uf{n:M}(e:M)(h0:0<=e)(hn:e<=n):∀(ss:List S)(p:M),0<=p->p+eK ss<=n->∀z∈iz ss p e,0<=z.2/\z.2<=n
 | [],_,_,_,z,hz=>nomatch hz
 | s::ss,p,hp,hc,z,hz=>by
  rw[j3] at hc;erw[iz,aP] at hz;rcases hz with rfl|hz
  .dsimp only;split<;>lia
  .show uf e h0 hn ss (p+s.cnt) ∅ ∅ z hz
noncomputable def qi(Tx:List bc)(x:bc):Int:=(Tx.idxOf x:O)
theorem ug{Tx:List bc}(h8:Tx.length<=8){x:bc}(hx:x∈Tx):fG^qi Tx x:=by have:=List.idxOf_lt_length_iff.mpr hx;unfold qi;constructor<;>lia
def kJ(ps:List bc)(ss:List S)(jK:bc):List Str:=fR (ps++cR^S.bE ss++[jK])
def Fy(xs:List bc):∀Xt:List bc,Xt.Nodup->(xs.foldl kZ Xt).Nodup/\∀x,x∈xs.foldl kZ Xt↔x∈Xt\/x∈xs:=by
 induction xs with
 | nil=>show λXt h=>#[h,λx=>(or_iff_left d9).symm]
 | cons y ys ih =>
  intro Xt h;let k:(kZ Xt y).Nodup/\∀x,x∈kZ Xt y↔x∈Xt\/x=y:=by unfold kZ;split;ext hy;show#[h,λx=>#[.inl,λe=>e.elim id λe=>e▸hy]];ext hy;show#[fB.mpr #[h,List.pairwise_singleton _ _,λa ha b hb e=>hy (aJ.mp hb▸e▸ha)],λx=>by rw[aM,aJ]]
  let#[a,b]:=ih _ k.1;show#[a,λx=>by rw[List.foldl_cons,b,k.2,aP,or_assoc]]
def zK(xs:List bc):(fR xs).Nodup:=(Fy xs [] lB).1
def Fz{x:bc}:x∈fR xs↔x∈xs:=by have:=(Fy xs [] lB).2 x;simpa[fR] using this
def FA{x:bc}(h:x∈xs):x∈fR xs:=Fz.mpr h
end
mutual
theorem abX{N Yf:bc->eL}:∀s:S,S.ok N s->(∀x∈cR s.dF,Yf x)->S.ok Yf s
 | .num x n,h,q=>#[q x^by simp[S.dF,cR,S.own],h.2]
 | .copy x a,h,q=>#[q x^by simp[S.dF,cR,S.own],q a^by simp[S.dF,cR,S.own]]
 | .op x o a b,h,q=>#[q x^by simp[S.dF,cR,S.own],h.2.1,q a^by simp[S.dF,cR,S.own],q b^by simp[S.dF,cR,S.own]]
 | .out a,h,q=>q a (by simp[S.dF,cR,S.own])
 | .ifs a y n,h,q=>by
  let e:cR (S.ifs a y n).dF=a::(cR^S.bE y++cR^S.bE n):=by simp[S.dF,cR,S.own]
  rw[e] at q;show#[q a^by simp,zL y h.2.1 (λx hx=>q x^by simp[hx]),zL n h.2.2 (λx hx=>q x^by simp[hx])]
 | .xP a b,h,q=>by
  let e:cR (S.xP a b).dF=a::cR^S.bE b:=by simp[S.dF,cR,S.own]
  rw[e] at q;show#[q a^by simp,zL b h.2 (λx hx=>q x^by simp[hx])]
theorem zL{N Yf:bc->eL}:∀ss:List S,S.uA N ss->(∀x∈cR^S.bE ss,Yf x)->S.uA Yf ss
 | [],_,_=>trivial
 | s::ss,h,q=>by
  let e:cR^S.bE (s::ss)=cR s.dF++cR^S.bE ss:=by simp[S.bE,cR]
  rw[e] at q;show#[abX s h.1 (λx hx=>q x^by simp[hx]),zL ss h.2 (λx hx=>q x^by simp[hx])]
end
def ML{ps:List bc}{jK:bc}(h:S.uA N ss):S.uA (· ∈ kJ ps ss jK) ss :=
 zL ss h λx hx=>FA (by simp[hx])
def Ik(ps:List bc)(ss:List S)(jK:bc):jK∈kJ ps ss jK:=FA (by simp)
def CK(H:Hp)(v:V)(z:S×M):=∃t u,v=¬t/\H t=!.tup [u,.int z.2]/\dS H z.1 u
abbrev Links(H:Hp):List V->List (S×M)->Prop:=Paired^CK H
theorem CK.mono{H H':Hp}{v:V}{z:S×M}(e:bX H H')(h:CK H v z):CK H' v z:=let⟨t,u,h1,h2,h3⟩:=h;#[t,u,h1,e _ _ h2,dS.mono e _ _ h3]
theorem Links.mono{H H':Hp}{vs:List V}{L:List (S×M)}(e:bX H H')(h:Links H vs L):Links H' vs L:=dG (λz z q=>q.mono e) h
def vF{F:α->β->eL}{xs:List α}{ys:List β}{xs':List α}{Sc:List β}(h:Paired F xs ys)(h':Paired F xs' Sc):Paired F (xs++xs') (ys++Sc):=by
 induction h with
 | nil=>show h'
 | cons a _ ih=>show .cons a ih
def j4{F:α->β->eL}{xs:List α}{ys:List β}(h:Paired F xs ys):ab=ys.length:=by
 induction h with
 | nil=>rfl
 | cons _ _ ih=>simp[ih]
def MM(ss:List S):eK ss<=S.bV ss:=gD ss
structure jn (H:Hp) (v:V) (ss:List S) (p e:Int):Prop where
 at_:∃t b vb,v=¬t/\H t=!.tup [¬b,.int p,.int e]/\H b=!.tup vb/\bg H ss vb
inductive Rm(vs:List V)(H:Hp)(Q:VK)(z:XK):Prop|mk(v:V)(ss:List S)(p e:Int)(z:vs=[v])(z:jn H v ss p e)(z:S.bV ss<=10000)(z:∀(l:Addr)(us:List V)(H':Hp),az H H'->H l=none->H' l=!.lst us.reverse->Links H' us^iz ss p e->Q (¬l) H')
section
variable (T:Txt w8 K_ m_)
theorem vG:T.vq∩(2,Rm):=by
 exists T.vq,i6,#[v,ss,p,e,rfl,#[t,b,vb,rfl,ht,hb,Tm],cY,q],".=1j<0J*/jz *<0.=2<0.=3P.Lã<0B4.GO3*>+4*2.É1J*/jz *>*4'ZA -=21-:3",5;let Op:=Tm.length;let hsl:=iy ss;lk;show#[b,vb,ss,Z,hb,Tm,∅,λl1 vf H1 s1 y NE hf1=>?_];let hfl:=hf1.length;let ht1:=s1 _ _ ht;lk;ext fo H2 n2;let XO:H fo=none:=s1.free n2.1;let s2:=s1.trans n2.same;let zu:=n2.self;let ht2:=n2.keep ht1;let hb2:=s2 _ _ hb;clear n2 NE hf1 ht1;lk;rw[hfl];change Ni (DS K_ b vb.length) _ _ _ _ [!V.ref t,!V.int (p+(eK ss:O)),!V.int e,!V.ref fo,none] H2;show OZ (xs:=vb) (λi Y' H'=>E2 λst us=>A4 (Y'=[!.ref t,!.int (p+eK^ss.take (ss.length-i)),!.int (if i=0 then e else p+eK^ss.take (ss.length-i)),!.ref fo,st]) (az H H') (H' fo=!.lst us.reverse)^Links H' us^(iz ss p e).drop (ss.length-i)) ?_ ?_ ?_ ?_;show#[none,[],?_,s2,zu,?_];rw[Nat.sub_zero,b9,if_pos Z];rw[Nat.sub_zero,List.drop_eq_nil_of_le (by rw[mD];show ay _)];show .nil;rintro i Y' H' _ ⟨st,us,rfl,s',_⟩;show dD.of^s' _ _ hb
 .rintro i x Y' H3 hx ⟨st,us,rfl,s3,tT,hli⟩;let hi:i<vb.length:=by have:=(gq hx).1;simpa using this
  rw[List.getElem?_reverse hi] at hx;let#[z,hz,hrz]:=Tm.get hx;rw[Op] at hz;let hlg:=Bs e ss p _ z hz;let e1:ss.length-1-i+1=ss.length-i:=∅;rw[e1] at hlg;let tU:ss.length-1-i<(iz ss p e).length:=by rw[mD];lia
  let Yo:(iz ss p e).drop (ss.length-(i+1))=(z,if i=0 then e else p+eK^ss.take (ss.length-i))::(iz ss p e).drop (ss.length-i):=by rw[show ss.length-(i+1)=ss.length-1-i by lia,BC tU,e1];congr 1;have:=iR tU;rw[hlg] at this;rw[<- Option.some.inj this];by_cases h0:i=0;rw[if_pos h0,if_pos ∅];rw[if_neg h0,if_neg ∅]
  let KF:eK^ss.take (ss.length-i)=eK^ss.take (ss.length-(i+1))+z.cnt:=by rw[show ss.length-i=(ss.length-(i+1))+1 by lia,b8,show ss.length-(i+1)=ss.length-1-i by lia,hz,wO];change _+eK [z]=_;rw[j3];rfl
  let zw:us.reverse.length<=100000:=by have:=j4 hli;rw[yc,mD] at this;rw[lz];lia
  let rz3:=dS.mono (sT s3) _ _ hrz;let hzr:z.rows<=10000:=by have:=ue hz;lia
  clear zu ht2 hb2 s2;generalize WJ:(if i=0 then e else p+(eK^ss.take (ss.length-i):M))=be at Yo ⊢;lk;ext t4 H4 n4 H5 p5 t6 H6 n6;let Rj:=n4.keep tT;let tt5:bX H4 H5:=λb xs e=>p5.keep (cJ e Rj (by intro z;cases z)) e;let tt6:bX H3 H6:=((sT n4.same).trans tt5).trans^sT n6.same;let s6:az H H6:=(p5.same (s3.trans n4.same) XO).trans n6.same;let MH:=n6.keep p5.self;let ags:=n6.keep^tt5 _ _ n4.self;show#[t6,[x],[z],Z,n6.self,bg.one^dS.mono tt6 _ _ rz3,by erw[S.bV];lia,λl7 vf7 H7 s7 y hl7 SM=>?_];let agt:=SM.length;let hc1:(S.bE [z]).length=z.cnt:=by change eK [z]=_;rw[j3];rfl
  let abj:=s7 _ _ MH;let MN:=(Links.mono tt6 hli).mono^sT s7;let al4:=s7 _ _ ags;let rz7:=dS.mono (tt6.trans^sT s7) _ _ rz3;clear n4 p5 n6 tT Rj MH hli ags;lk;rw[agt,hc1,KF];show#[!x,.ref t4::us,?_,s6.trans s7,?_,?_];rw[if_neg ∅];let ee:p+((eK^ss.take (ss.length-(i+1))+z.cnt:O):M)-(z.cnt:M)=p+(eK^ss.take (ss.length-(i+1)):M):=∅;rw[ee];rw[qA];show abj;rw[Yo];show .cons #[t4,x,Z,al4,rz7] MN
 .rintro Y' H3 ⟨st,us,rfl,s3,tT,hli⟩;rw[Op,Nat.sub_self,uC] at hli;lk;show q fo us H3 s3 XO tT hli
theorem jn.mono{H H':Hp}{v:V}{ss:List S}{p e:M}(sm:az H H')(h:jn H v ss p e):jn H' v ss p e:=by let#[t,b,vb,h1,h2,h3,h4]:=h.at_;show#[t,b,vb,h1,sm _ _ h2,sm _ _ h3,bg.mono (sT sm) _ _ h4]
def jn.Yp{p e:M}(sm:bX H H')(h:jn H v ss p e):jn H' v ss p e:=by let#[t,b,vb,h1,h2,h3,h4]:=h.at_;show#[t,b,vb,h1,sm _ _ h2,sm _ _ h3,bg.mono sm _ _ h4]
inductive VN(vs:List V)(H:Hp)(Q:VK)(z:XK):Prop|mk(v:V)(ss:List S)(p e:Int)(z:vs=[v])(z:jn H v ss p e)(z:Q (.int (if ss.isEmpty then e else p)) H)
def FD:T.entry∩(1,VN):=by
 exists T.entry,Qo,#[v,ss,p,e,rfl,#[t,b,vb,rfl,ht,hb,Tm],q],"-:Z®<0<0<0",1,(λz=>rfl);cases ss with
 | nil =>
  erw[bg] at Tm;subst Tm;lk;show q
 | cons x ss =>
  let#[v,vr,Z,_,_]:=Tm.cons_inv;lk;show q
noncomputable def vH:S->List S
 | .ifs _ y _=>y
 | .xP _ b=>b
 | _=>[]
noncomputable def Kz:S->List S
 | .ifs _ _ n=>n
 | _=>[]
noncomputable def zM:S->cf
 | .ifs ..=>true
 | .xP ..=>true
 | _=>false
noncomputable def Il(s:S)(p:M):Int:=match s with
 | .ifs _ y _=>p+1+eK y
 | _=>p+1
noncomputable def Im(s:S)(p e:M):Int:=match s with
 | .ifs ..=>e
 | _=>p
inductive Rn(vs:List V)(H:Hp)(Q:VK)(z:XK):Prop|mk(v:V)(s:S)(p e:Int)(z:vs=[v,.int p,.int e])(z:dS H s v)(z:zM s=true)(z:s.rows<=10000)(z:∀(l:Addr)(v1 v2:V)(H':Hp),az H H'->H l=none->H' l=!.lst [v1,v2]->jn H' v1 (vH s) (p+1)^Im s p e->jn H' v2 (Kz s) (Il s p) e->Q (¬l) H')
theorem CL:T.pW∩(2,Rn):=by
 exists T.pW,m9,#[v,x,p,e,rfl,hx,hf,cY,q],".=3V1.?K<0.=4j3J*/jz *<0-:D+>+<0+3*2*>+<0+4*2-:D+>+<0+3*1*>+¤+3*2",5;cases x with
 | num=>cases hf
 | copy=>cases hf
 | op=>cases hf
 | out=>cases hf
 | ifs a y n =>
  erw[dS] at hx;let#[pv,py,pn,vy,vn,Z,tX,hpy,hpn,hy,hn]:=hx;erw[S.rows] at cY;k_in;lk;show#[py,vy,y,Z,hpy,hy,∅,λl1 vf H1 s1 z NE hf1=>?_];let aq4:=s1 _ _ tX;let hfl:=hf1.length;lk;ext t2 H2 n2 t3 H3 n3 l4 H4 n4;let XZ:=(n2.same.trans n3.same).trans n4.same;let E6:=s1.trans XZ;show q l4 _ _ H4 E6 ((s1.trans^n2.same.trans n3.same).free n4.1) n4.self #[t2,py,vy,Z,n4.keep^n3.keep n2.self,E6 _ _ hpy,bg.mono (sT E6) _ _ hy] #[t3,pn,vn,Z,?_,E6 _ _ hpn,bg.mono (sT E6) _ _ hn];rw[n4.keep n3.self,hfl];rfl
 | xP a b =>
  erw[dS] at hx;let#[pv,pb,vb,Z,tX,Ky,hb]:=hx;k_in;lk;ext t1 H1 n1 t2 H2 n2 t3 H3 n3 l4 H4 n4;let E6:=((n1.same.trans n2.same).trans n3.same).trans n4.same;show q l4 _ _ H4 E6 (((n1.same.trans n2.same).trans n3.same).free n4.1) n4.self #[t1,pb,vb,Z,n4.keep^n3.keep^n2.keep n1.self,E6 _ _ Ky,bg.mono (sT E6) _ _ hb] #[t3,t2,[],Z,n4.keep n3.self,n4.keep^n3.keep n2.self,Z]
def agu(kvs:List (Key×V))(Tx:List bc):=∀x∈Tx,c9 kvs^.inr x=!.int^qi Tx x
inductive VO(vs:List V)(H:Hp)(Q:VK)(z:XK):Prop|mk(v:V)(s:S)(e:Int)(d:Addr)(kvs:List (Key×V))(Tx:List Str)(z:vs=[v,.int e,¬d])(z:dS H s v)(z:zM s=false)(z:S.ok (· ∈ Tx) s)(z:H d=!.dK kvs)(z:agu kvs Tx)(z:∀(t:Addr)(r:Row)(H':Hp),az H H'->H' t=!.tup r.vals->(∀n:Int,Tx.length<=8->0<=e->e<=n->r.ok (n+1))->Q (¬t) H')
theorem MO:T.Ct∩(1,VO):=by
 exists T.Ct,L3,#[v,x,e,d,kvs,Tx,rfl,hx,hf,hok,hd,Nn,q],".?K<0-:>A+¸+eM2<0+<0*1.?K<0-:>A+¸+eM2<0+eM2<0*1.?K<0-:>A+¸+<0+eM2<0+eM2<0+eM2<0*1-:>A+eM2<0*1",3,(λz z=>rfl),(λz z=>rfl),(λz z=>rfl),(λz z=>rfl),(λz z=>rfl),(λz z=>rfl),(λz z=>rfl);cases x with
 | ifs|xP=>cases hf
 | num x n =>
  erw[dS] at hx;let#[pv,Z,tX]:=hx;let b1:=Nn x hok.1;k_in;lk;show r9 hd b1 ?_;lk;ext t H1 n1;show q t (.num 2 (qi Tx x) n e) H1 n1.same n1.self λn h8 h0 h1=>#[by constructor<;>decide,ug h8 hok.1,hok.2,h0,∅]
 | copy x a =>
  erw[dS] at hx;let#[pv,Z,tX]:=hx;let b1:=Nn x hok.1;let b2:=Nn a hok.2;k_in;lk;show r9 hd b1 ?_;lk;show r9 hd b2 ?_;lk;ext t H1 n1;show q t (.copy 2 (qi Tx x) (qi Tx a) e) H1 n1.same n1.self λn h8 h0 h1=>#[by constructor<;>decide,ug h8 hok.1,ug h8 hok.2,h0,∅]
 | op x o a b =>
  erw[dS] at hx;let#[pv,Z,tX]:=hx;let b1:=Nn x hok.1;let b2:=Nn a hok.2.2.1;let b3:=Nn b hok.2.2.2;k_in;lk;show r9 hd b1 ?_;lk;show r9 hd b2 ?_;lk;show r9 hd b3 ?_;lk;ext t H1 n1;show q t (.op 2 o (qi Tx x) (qi Tx a) (qi Tx b) e) H1 n1.same n1.self λn h8 h0 h1=>#[by constructor<;>decide,hok.2.1,ug h8 hok.1,ug h8 hok.2.2.1,ug h8 hok.2.2.2,h0,∅]
 | out a =>
  erw[dS] at hx;let#[pv,Z,tX]:=hx;let b1:=Nn a hok;k_in;lk;show r9 hd b1 ?_;lk;ext t H1 n1;show q t (.out (qi Tx a) e) H1 n1.same n1.self λn h8 h0 h1=>#[ug h8 hok,h0,∅]
def abY{Tx:List bc}(hn:Tx.Nodup){z:bc}(h:Tx[i]?=!z):Tx.idxOf z=i:=by
 let hm:z∈Tx:=jd h;let hl:=List.idxOf_lt_length_iff.mpr hm;let e:Tx[Tx.idxOf z]?=!z:=by rw[iR hl,List.getElem_idxOf]
 show lZ hn e h
noncomputable def Ro:S->bc
 | .ifs a _ _=>a
 | .xP a _=>a
 | .num x _=>x
 | .copy x _=>x
 | .op x _ _ _=>x
 | .out a=>a
def mE(ss:List S)(p e:M):cntK^iz ss p e=eK ss:=by unfold cntK;rw[gE]
def um(A Y1:List (S×M)):cntK (A++Y1)=cntK A+cntK Y1:=by unfold cntK;rw[bq,wO]
theorem Rp{s:S}(h:zM s=ag):s.cnt=1+(eK^vH s+eK^Kz s)/\3+S.bV^vH s+S.bV^Kz s<=s.rows:=by
 cases s with
 | num|copy|op|out=>cases h
 | ifs a y n=>show#[VL a y n,by erw[S.rows,vH,Kz];lia]
 | xP a b=>show#[by rw[VM];rfl,by erw[S.rows,vH,Kz,S.bV];lia]
def VP{s:S}(h:zM s=ag)(hok:S.ok N s):N^Ro s/\S.uA N^vH s/\S.uA N^Kz s:=by
 cases s with
 | num|copy|op|out=>cases h
 | ifs a y n=>show hok
 | xP a b=>show#[hok.1,hok.2,trivial]
def Rq{s:S}(h:zM s=ag)(hr:dS H s v):∃pv ky rest,v=¬pv/\H pv=!.tup (.str ky::.str^Ro s::rest)/\(ky = "if" \/ ky = "while"):=by
 cases s with
 | num|copy|op|out=>cases h
 | ifs a y n =>
  erw[dS] at hr;let#[pv,py,pn,vy,vn,Z,tX,_]:=hr;show#[pv,_,_,Z,tX,.inl Z]
 | xP a b =>
  erw[dS] at hr;let#[pv,pb,vb,Z,tX,_]:=hr;show#[pv,_,_,Z,tX,.inr Z]
def MP{s:S}(h:zM s=bj)(hr:dS H s v):∃pv ky rest,v=¬pv/\H pv=!.tup (.str ky::rest)/\z9 (.str ky) [.str "if", .str "while"]=bj/\s.cnt=1:=by
 cases s with
 | ifs|xP=>cases h
 | num|copy|op|out =>
  erw[dS] at hr;let#[pv,Z,tX]:=hr;show#[pv,_,_,Z,tX,(),Z]
def qV{qs:List bv}(h1:Rows H us rs)(h2:Rows H vs qs):Rows H (us++vs) (rs++qs):=vF h1 h2
inductive MQ(vs:List V)(H:Hp)(Q:VK)(z:XK):Prop|mk(v:V)(ps:List Str)(ss:List S)(jK:Str)(z:vs=[v])(z:Fw H ps ss jK v)(z:ps.length<=10000)(z:S.bV ss<=10000)(z:∀(d:Addr)(kvs:List (Key×V))(H':Hp),az H H'->H d=none->H' d=!.dK kvs->agu kvs^kJ ps ss jK->Q (¬d) H')
theorem FE:T.tQ∩(3,MQ):=by
 exists T.tQ,oN,#[v,ps,ss,jK,rfl,hp,Ty,cY,q],".=1Ø.LH/Fx *0B2-}M12m'Le °±*1-:1",3;let hnd:=zK (ps++cR^S.bE ss++[jK]);let hnl:(kJ ps ss jK).length<=60000:=by let h1:=qd (ps++cR^S.bE ss++[jK]);let h2:=zJ^S.bE ss;let h3:=gD ss;rw[aT,aT,iB] at h1;unfold kJ;lia
 k_in;lk;ext d H1 n1;let fd:=n1.1;let QR:=n1.self;let s1:=n1.same;clear n1;show#[v,ps,ss,jK,Z,hp.mono s1,∅,∅,λl H2 s2 fl hl=>?_];let Qb:=s2 _ _ QR;let ndl:l≠d:=aR^aH QR fl;let s02:=s1.trans s2;change H2 l=!.lst^(kJ ps ss jK).map V.str at hl;change (kJ ps ss jK).Nodup at hnd;generalize kJ ps ss jK=Tx at hl hnd hnl q;clear QR s1 s2;lk;show f_list (xs:=Tx.map V.str) (λi Y' H'=>E2 λnm kvs=>A6 (Y'=[!v,!.ref d,nm]) (az H H') (H' l=!.lst^Tx.map V.str) (H' d=!.dK kvs) (bo=i) (∀x,c9 kvs^.inr x=if x∈Tx.take i then !.int^qi Tx x else none)) ?_ ?_ ?_ ?_;show#[none,[],Z,s02,hl,Qb,Z,λx=>by simp[c9]];rintro i Y' H' _ ⟨nm,kvs,rfl,s',Hn,_⟩;show bI.of Hn
 .rintro i x Y' H3 hx ⟨nm,kvs,rfl,s3,N0,zy,tU,hkv⟩;rw[bJ] at hx;let#[z,hz,Z]:=cU.mp hx;let hi:=(gq hz).1;let hzi:qi Tx z=(i:M):=by unfold qi;rw[abY hnd hz]
  let hnew:c9 kvs^.inr z=none:=by
   rw[hkv z,if_neg];intro hm;let#[j,hj]:=iC.mp hm;let hj2:j<i:=by have:=(gq hj).1;rw[cC] at this;lia
   rw[uD hj2] at hj;have:=lZ hnd hj hz;lia
  clear Qb hl;lk;show#[d,kvs,Z,zy,?_];lk;ext H4 p4;show#[_,putK kvs (.inr z)^.int bo,Z,p4.same s3 fd,p4.keep ndl N0,p4.self,?_,λx=>?_];rw[N1 _ hnew,aT,iB,tU]
  .rw[ki,hkv x,b8,hz];change _=if x∈Tx.take i++[z] then _ else _
   by_cases e:x=z;rw[if_pos^by rw[e],if_pos^by simp[e],e,hzi,tU]
   .rw[if_neg (λh=>e^Sum.inr.inj h)];by_cases hm:x∈Tx.take i;rw[if_pos hm,if_pos^j8 _ hm]
    .rw[if_neg hm,if_neg (λh=>by
      rcases aM.mp h with h|h;show hm h
      .show e^aJ.mp h)]
 .rintro Y' H3 ⟨nm,kvs,rfl,s3,N0,zy,tU,hkv⟩;rw[aq,b9] at hkv;lk;show q d kvs H3 s3 fd zy λx hx=>by rw[hkv x,if_pos hx]
inductive abZ(vs:List V)(H:Hp)(Q:VK)(z:XK):Prop|mk(v:V)(ps:List Str)(ss:List S)(jK:Str)(N:Str->Prop)(z:vs=[v])(z:Fw H ps ss jK v)(z:ps.length<=10000)(z:S.bV ss<=10000)(z:S.uA N ss)(z:(kJ ps ss jK).length<=8)(z:∀(l:Addr)(us:List V)(rs:List Row)(H':Hp),az H H'->H l=none->H' l=!.lst us->Rows H' us rs->rs.length=eK ss+1->(∀r∈rs,r.ok rs.length)->Q (¬l) H')
theorem VQ:T.flat∩(4,abZ):=by
 exists T.flat,m8,#[v,ps,ss,jK,N,rfl,hp,Ty,cY,hok,h8,q],".=1/FE *0.=2P.=3/vG *>+<0b*/As *0.­®3.=4¯3.=5<4-xf<5>Ag.=6/CL +5+J*2*<4.GO2*>A+eM1<5+/FD *E6*/FD *E6-Gt3*W/vG *E6/vG *E6-GO2*/MO +5+<4*1.GO2*>A*eM1<0-:2",7,(λt=>rfl),(by with_unfolding_all rfl),(λt t=>rfl),(λt t=>rfl);let agv:=ML (ps:=ps) (jK:=jK) hok;let ab0:=Ik ps ss jK;let hcr:=MM ss;let#[pa,pp,pb,vb,Z,hpa,hpp,Ky,Tm]:=hp;let rp:∀{H':Hp},az H H'->Fw H' ps ss jK^¬pa:=λs=>#[pa,pp,pb,vb,Z,s _ _ hpa,s _ _ hpp,s _ _ Ky,bg.mono (sT s) _ _ Tm];obtain⟨Tx,agw⟩:∃n,n=kJ ps ss jK:=#[_,rfl];rw[<- agw] at agv ab0 h8;lk;show#[¬pa,ps,ss,jK,Z,rp^az.refl _,Ty,cY,λd kvs H1 s1 fd QR Nn=>?_];rw[<- agw] at Nn;let al5:=s1 _ _ hpa;lk;ext co H2 n2;let s2:=s1.trans n2.same;let VI:H co=none:=s1.free n2.1;let Qb:=n2.keep QR;let Ri:=n2.self;let ndc:d≠co:=n2.ne QR;clear n2 QR al5;show#[¬pa,ps,ss,jK,Z,rp s2,∅,λH3 s3=>?_];let Nl:=s2.trans s3;let zy:=s3 _ _ Qb;let CH:=s3 _ _ Ri;clear Qb Ri s2 s3;lk;ext t4 H4 n4;let E6:=Nl.trans n4.same;show#[¬t4,ss,0,eK ss,Z,#[t4,pb,vb,Z,n4.self,E6 _ _ Ky,bg.mono (sT E6) _ _ Tm],cY,λcm us5 H5 s5 f5 agx agy=>?_];let UQ:=s5 _ _^n4.keep zy;let Fv:=s5 _ _^n4.keep CH;let fcm:H cm=none:=E6.free f5;let ncc:co≠cm:=aH (n4.keep CH) f5;let ndm:d≠cm:=aH (n4.keep zy) f5;let s05:=E6.trans s5;clear n4 zy CH Nl E6 s5 f5;lk;show pP (λk Y' H'=>E7 λ(done:List bv)(uc:List V)(L:List (S×M))(cs:List V)(lk st bl:Option V)=>A13 (Y'=[!.ref pa,!.ref d,!.ref co,!.ref cm,lk,st,bl]) (az H H') (H' d=!.dK kvs) (H' co=!.lst uc) (Rows H' uc done) (H' cm=!.lst cs.reverse) (Links H' cs L) (S.uA (· ∈ Tx)^L.map (·.1)) (S.bV^L.map (·.1)<=10000) ((∀r∈done,r.ok ((eK ss:M)+1))) ((∀z∈L,0<=z.2/\z.2<=(eK ss:M))) (done.length+cntK L=eK ss) (k=cntK L)) ?_ ?_;show#[_,[],[],iz ss 0^eK ss,us5,none,none,none,Z,s05,UQ,Fv,.nil,agx,agy,by rw[gE];show agv,by rw[gE];show cY,(λt h=>nomatch h),uf _ ∅ ∅ ss 0 ∅ ∅,by rw[mE];simp,Z]
 .rintro k Y' H6 ⟨done,uc,L,cs,lk,st,bl,rfl,s6,Vo,Ij,VR,Rr,ab1,VS,agA,hdo,ab2,agB,rfl⟩;clear UQ Fv agx agy s05;let aq7:=j4 VR;let aq8:=j4 ab1;let hLl:L.length<=10000:=by have:=iy^L.map (·.1);rw[aq] at this;lia
  cases L with
  | nil =>
   cases ab1;rw[List.reverse_nil] at Rr;let aq9:=s6 _ _ hpa;let hb:=Nn jK ab0;lk;show r9 Vo hb ?_;lk;ext t7 H7 n7 H8 p8;let Ar:=n7.keep Ij;let tt8:bX H7 H8:=λb xs e=>p8.keep (cJ e Ar (by intro z;cases z)) e;let hl:(done++[Row.back^qi Tx jK]).length=eK ss+1:=by rw[aT,iB];show congrArg (· + 1) agB
   show q co _ (done++[Row.back^qi Tx jK]) H8 (p8.same (s6.trans n7.same) VI) VI p8.self (qV ((VR.fQ^sT n7.same).fQ tt8)^.cons #[t7,Z,tt8 _ _ n7.self] .nil) hl λr hr=>?_;rw[hl];rcases aM.mp hr with h|h;show hdo r h
   .rw[aJ.mp h];show ug h8 ab0
  | cons z L =>
   let#[x,e]:=z;cases ab1 with
   | @cons c z Go L' hc hli =>
    let#[tl,u,Z,Ao,hu]:=hc;rw[qA] at Rr;erw[cN] at VS agA;let okx:=VS.1;let agC:=VS.2;erw[S.bV] at agA;let hcx:cntK ((x,e)::L)=x.cnt+cntK L:=by unfold cntK;rw[cN,j3]
    let aox:=VJ x;let he:=ab2 _^.head _;let aoy:Go.reverse.length<=10000:=by rw[lz,j4 hli];erw[ck] at hLl;lia
    lk;show B0 (by simp) ?_;lk;show s_pop Rr (y:=¬tl) (by simp) ?_;intro H7 p7;rw[List.dropLast_concat] at p7;let tt7:bX H6 H7:=λb xs e=>p7.keep (cJ e Rr (by intro z;cases z)) e;let s7:=p7.same s6 fcm;let SV:=p7.keep ndm Vo;let Ar:=p7.keep ncc Ij;let VT:=p7.self;let VU:=VR.fQ tt7;let MN:=Links.mono tt7 hli;let VV:=tt7 _ _ Ao;let hu7:=dS.mono tt7 _ _ hu;let aoz:done.length+(x.cnt+cntK L)=eK ss:=by rw[<- hcx];show agB
    clear p7 tt7 Rr Vo Ij VR hli Ao hu s6 VS;cases Ku:zM x
    .let#[pv,ky,rest,Z,VW,Sr,hc1]:=MP Ku hu7;let hdl:uc.length<=10000:=∅;lk;ext t8 H8 n8;show Oi Sr ?_;let SW:=n8.keep SV;let MR:=n8.keep Ar;let MS:=n8.keep VT;let Rt:=VU.same n8.same;let Ru:=Links.mono (sT n8.same) MN;let ab3:=n8.keep VV;let hu8:=dS.mono (sT n8.same) _ _ hu7;let s8:=s7.trans n8.same;clear n8 SV Ar VT VU MN VV hu7 VW s7;lk;show#[¬pv,x,e,d,kvs,Tx,Z,hu8,Ku,okx,SW,Nn,λt9 r H9 s9 ht9 hr9=>?_];let MI:=s9 _ _ MR;let hd9:=s9 _ _ SW;let VX:=s9 _ _ MS;let VY:=Rt.same s9;let VZ:=Links.mono (sT s9) Ru;clear SW MR MS Rt Ru ab3 hu8;lk;ext Ab Kx;let Rl:bX H9 Ab:=λb xs e=>Kx.keep (cJ e MI (by intro z;cases z)) e;show#[cntK L,∅,done++[r],uc++[¬t9],L,Go,_,_,_,Z,Kx.same (s8.trans s9) VI,Kx.keep ndc hd9,Kx.self,qV (VY.fQ Rl)^.cons #[t9,Z,Rl _ _ ht9] .nil,Kx.keep (aR ncc) VX,Links.mono Rl VZ,agC,∅,?_,λz hz=>ab2 z^.tail _ hz,by rw[aT,iB];lia,Z];intro z hz;rcases aM.mp hz with h|h;show hdo z h;rw[aJ.mp h];show hr9 _ h8 he.1 he.2
    .let#[pv,ky,rest,Z,VW,XR]:=Rq Ku hu7;let Sr:z9 (.str ky) [.str "if", .str "while"]=true:=by rcases XR with rfl|rfl<;>decide +kernel
     let hdl:uc.length<=10000:=∅;let#[hcf,hrf]:=Rp Ku;let#[okn,oky,al6]:=VP Ku okx;lk;ext t8 H8 n8;show B0 Sr ?_;let SW:=n8.keep SV;let MR:=n8.keep Ar;let MS:=n8.keep VT;let Rt:=VU.same n8.same;let Ru:=Links.mono (sT n8.same) MN;let ab3:=n8.keep VV;let agG:=n8.keep VW;let hu8:=dS.mono (sT n8.same) _ _ hu7;let s8:=s7.trans n8.same;clear n8 SV Ar VT VU MN VV hu7 VW s7;lk;show#[¬pv,x,(uc.length:M),e,Z,hu8,Ku,∅,λlb v1 v2 H9 s9 flb hlb b1 b2=>?_];let MI:=s9 _ _ MR;let hd9:=s9 _ _ SW;let VX:=s9 _ _ MS;let VY:=Rt.same s9;let VZ:=Links.mono (sT s9) Ru;let agH:=s9 _ _ agG;let s09:=s8.trans s9;let nbc:lb≠co:=aR^aH MR flb;let nbm:lb≠cm:=aR^aH MS flb;clear SW MR MS Rt Ru ab3 hu8 agG s8 s9;lk;show rX (dD.of agH) (dM (j:=1) Z) ?_;lk;show r9 hd9 (Nn _ okn) ?_;lk;show#[v1,vH x,_,_,Z,b1,?_];lk;show#[v2,Kz x,_,_,Z,b2,?_];lk;ext t10 Ab wM Dj wN;let Yq:=wM.keep MI;let agI:bX Ab Dj:=λb xs e=>wN.keep (cJ e Yq (by intro z;cases z)) e;let tt9:bX H9 Dj:=(sT wM.same).trans agI;let Dk:az H Dj:=wN.same (s09.trans wM.same) VI;let Yr:=wN.self;let Ys:=wN.keep (aR ncc)^wM.keep VX;let agJ:=wN.keep ndc^wM.keep hd9;let Yt:=wN.keep nbc^wM.keep hlb;let al8:=agI _ _ wM.self;let agK:=VY.fQ tt9;let agL:=Links.mono tt9 VZ;let b1':=b1.Yp tt9;let b2':=b2.Yp tt9;clear wM wN MI Yq VX hd9 hlb VY VZ b1 b2 agH;show#[v2,Kz x,_,_,Z,b2',∅,λl12 us2 HN T0 f12 agM ab4=>?_];let agN:=T0 _ _ Yt;let Yu:=T0 _ _ Yr;let Yv:=T0 _ _ Ys;let agO:=T0 _ _ agJ;let agP:=b1'.mono T0;clear Yt Yr Ys agJ;lk;show#[v1,vH x,_,_,Z,agP,∅,λl13 us1 H13 w5 f13 ard agQ=>?_];let agR:=w5 _ _ Yu;let agS:=w5 _ _ Yv;let ama:=w5 _ _ agO;let amb:=w5 _ _ agM;let agT:=Links.mono (sT w5) ab4;let lu2:us2.reverse.length<=10000:=by let h1:=iy^Kz x;rw[lz,j4 ab4,mD];lia
     let lu1:us1.reverse.length<=10000:=by let h1:=iy^vH x;rw[lz,j4 agQ,mD];lia
     let arf:(us2.reverse++us1.reverse).length<=200000:=by rw[aT];lia
     clear agN Yu Yv agO agM ab4 b1' agP b2';lk;ext l14 H14 n14 XS HQ;let agU:=n14.keep agS;let agV:bX H14 XS:=λb xs e=>HQ.keep (cJ e agU (by intro z;cases z)) e;let Rv:bX Dj XS:=(((sT T0).trans^sT w5).trans^sT n14.same).trans agV;let agW:bX H13 XS:=(sT n14.same).trans agV;let s15:az H XS:=HQ.same (((Dk.trans T0).trans w5).trans n14.same) fcm;obtain⟨fr,hfr⟩:∃r,r=Row.fork (qi Tx (Ro x)) (if(vH x).isEmpty then Im x (uc.length:Int) e else(uc.length:Int)+1) (if(Kz x).isEmpty then e else Il x (uc.length:Int)):=#[_,rfl];let agX:XS t10=!.tup fr.vals:=by rw[hfr];show Rv _ _ al8
     obtain⟨y0,y1,z0,z1⟩:0<=Im x uc.length e/\Im x uc.length e<=(eK ss:Int)/\(uc.length:Int)<=Il x uc.length/\Il x uc.length+eK (Kz x)<=(eK ss:Int):=by have:=he.1;have:=he.2;dsimp only at *;cases x<;>erw[Im,Il,vH,Kz] at * <;> lia
     show#[cntK (iz (vH x) ((uc.length:M)+1)^Im x uc.length e++iz (Kz x) (Il x uc.length) e++L),?_,done++[fr],uc++[¬t10],iz (vH x) ((uc.length:M)+1)^Im x uc.length e++iz (Kz x) (Il x uc.length) e++L,us1++us2++Go,_,_,_,Z,s15,HQ.keep ndm^n14.keep ama,HQ.keep ncc^n14.keep agR,qV (agK.fQ Rv)^.cons #[t10,Z,agX] .nil,?_,vF (vF (Links.mono agW agQ)^Links.mono agW agT)^Links.mono Rv agL,?_,?_,?_,?_,?_,Z];rw[hcx,hcf,um,um,mE,mE];lia;rw[HQ.self];simp;rw[bq,bq,gE,gE];show nD (nD oky al6) agC;rw[bq,bq,gE,gE,gC,gC];lia
     .intro z hz;rcases aM.mp hz with h|h;show hdo z h
      .rw[aJ.mp h,hfr];have:=he.1;have:=he.2;dsimp only at *;show#[ug h8 okn,by split<;>constructor<;>lia,by split<;>constructor<;>lia]
     .intro z hz;rcases aM.mp hz with h|h
      .rcases aM.mp h with h|h;show uf _ y0 y1 _ _ ∅ ∅ z h;show uf _ he.1 he.2 _ _ ∅ ∅ z h
      .show ab2 z^.tail _ h
     .rw[aT,iB,um,um,mE,mE];lia
def V0(s:bc):Nat:=if s = "+" then 0 else if s = "-" then 1 else if s = "*" then 2 else if s = "/" then 3 else if s = "<" then 4 else if s = "=" then 5 else if s = "&" then 6 else if s = "|" then 7 else 8
def KA{s:bc}(h:s∈signs):s=zm^V0 s/\V0 s<9:=by erw[signs,aP,d9,or_false] at h;rcases h with rfl|rfl|rfl|rfl|rfl|rfl|rfl|rfl|rfl<;>show#[(),()]
def amc(s:bc)(a b:M):Int:=zo (V0 s) a b
abbrev Bx:=M->M
def setB(b:Bx)(k v:M):Bx:=λj=>if j=k then v else b j
def Row.nF(b:Bx):bv->Bx
 | .num _ k v _=>setB b k v
 | .copy _ k i _=>setB b k^b i
 | .op _ s k i j _=>setB b k^amc s (b i)^b j
 | _=>b
def Row.gQ(b:Bx):bv->M
 | .num _ _ _ q=>q|.copy _ _ _ q=>q|.op _ _ _ _ _ q=>q|.out _ q=>q|.fork i q p=>if b i≠0 then q else p|.look _ q=>q|.mark q=>q|.back i=>i
def Row.sends(b:Bx):bv->List M
 | .out i _=>[b i]
 | _=>[]
structure Out where
 tag:Str
 bL:List Int
 val:Option Int
 n:Nat
def xg:Option M->V
 | some v=>.int v
 | none=>.cB
def Out.vals(o:Out)(l:ae):List V:=[.str o.tag,¬l,xg o.val,.int o.n]
def amd:Option M->PyData
 | some v=>.int v
 | none=>.none
def Out.data(o:Out):PyData:=.tuple [.str o.tag,.list^o.bL.map PyData.int,amd o.val,.int o.n]
def Rep(kvs:List (Key×V))(b:Bx):=∀k,fG k->(c9 kvs^.inl k).getD^.int 0=.int^b k
def Rep.put{kvs:List (Key×V)}{b:Bx}(h:Rep kvs b)(k v:M):Rep (putK kvs (.inl k)^.int v)^setB b k v:=λj hj=>by rw[ki];unfold setB;by_cases e:j=k;rw[if_pos^by rw[e],if_pos e];rfl;rw[if_neg (λr=>e^Sum.inl.inj r),if_neg e];show h j hj
def o8(b:Bx):=∀k,fG k->Val^b k
def o8.set{b:Bx}(h:o8 b){k v:M}(hv:Val v):o8^setB b k v:=λj hj=>by unfold setB;split;show hv;show h j hj
def Row.FF{b:Bx}(hr:r.ok n)(h:o8 b):o8^r.nF b:=by
 cases r
 case num=>show h.set hr.2.2.1
 case copy=>show h.set^h _ hr.2.2.1
 case op=>show h.set^Qx (KA hr.2.1).2 (h _ hr.2.2.2.1)^h _ hr.2.2.2.2.1
 all_goals show h
inductive uo(vs:List V)(H:Hp)(Q:VK)(z:XK):Prop|mk(a d:Addr)(r:Row)(kvs:List (Key×V))(b:Bx)(n:Int)(z:vs=[¬a,¬d])(z:H a=!.tup r.vals)(z:H d=!.dK kvs)(z:Rep kvs b)(z:r.ok n)(z:Q (.int^r.gQ b) H)
def MT:T.Cs∩(1,uo):=by
 exists T.Cs,L1,#[a,d,r,kvs,b,n,rfl,ha,hd,rep,hok,q],".?K<0-:ZS¿»M1<0F<0<0-:^ä0_",2,#[rfl,rfl,rfl,rfl];cases r
 all_goals erw[Row.vals,Row.key,Row.rest] at ha
 all_goals erw[Row.gQ] at q
 all_goals lk
 all_goals first|show q|skip
 rw[rep _ hok.1];lk;ext h0;rw[if_pos h0] at q;show q;ext h0;rw[if_neg^by simpa using h0] at q;show q
def Row.isD:bv->eL
 | .num ..=>True|.copy ..=>True|.op ..=>True|_=>False
inductive Io(K_:aC)(vs:List V)(H:Hp)(Q:VK)(z:XK):Prop|mk(a d:Addr)(r:Row)(kvs:List (Key×V))(b:Bx)(n:Int)(z:vs=[¬a,¬d])(z:H a=!.tup r.vals)(z:H d=!.dK kvs)(z:Rep kvs b)(z:o8 b)(z:r.ok n)(z:r.isD)(z:kvs.length<=100000)(z:∀H1 H' UF,az H H1->mT H1 d (.dK UF) H'->Rep UF^r.nF b->UF.length<=kvs.length+1->Q .cB H')
def Ip:T.xF∩(3,Io K_):=by
 exists T.xF,Hy,#[a,d,r,kvs,b,n,rfl,ha,hd,rep,v8,hok,DO,hl,q],"-xK<0-}M1<0<0-xK<0-}M1<0»M1<0-}M1<0/Qw +<0+»M1<0*»M1<0",2,#[rfl,rfl,rfl,rfl],#[rfl,rfl,rfl,rfl],#[rfl,rfl,rfl,rfl];cases r
 case out=>show DO.elim
 case fork=>show DO.elim
 case look=>show DO.elim
 case mark=>show DO.elim
 case back=>show DO.elim
 all_goals erw[Row.vals,Row.key,Row.rest] at ha
 all_goals erw[Row.nF] at q
 all_goals lk
 .rename_i H1 p1;show q H H1 _ (az.refl _) p1 (rep.put _ _)^fF _ _ _
 .rename_i H1 p1;rw[rep _ hok.2.2.1] at p1;show q H H1 _ (az.refl _) p1 (rep.put _ _)^fF _ _ _
 .rename_i s k i j _;rw[rep _ hok.2.2.2.1,rep _ hok.2.2.2.2.1];let#[e1,e2]:=KA hok.2.1;show#[V0 s,b i,b j,e2,by rw[<- e1],v8 _ hok.2.2.2.1,v8 _ hok.2.2.2.2.1,λH1 s1=>?_];let IO:=s1 _ _ ha;let QR:=s1 _ _ hd;lk;ext H2 p2;show q H1 H2 _ s1 p2 (rep.put _ _)^fF _ _ _
def bx0(xs:List M):Bx:=λk=>if 0<=k then xs.getD k.toNat 0 else 0
theorem rep0(xs:List M):Rep (oH^xs.map V.int)^bx0 xs:=λk hk=>by unfold bx0;rw[if_pos hk.1];by_cases h:k.toNat<ab;let e:c9 (oH^xs.map V.int)^.inl ((k.toNat:O):M)=!.int xs[k.toNat]:=ON (by simp[h]);rw[show((k.toNat:O):M)=k by have:=hk.1;lia] at e;rw[e];simp[List.getD,h];rw[GV^.inr (by have:=hk.1;rw[aq];lia)];simp[List.getD,h]
def Yw{xs:List M}(h:∀x∈xs,Val x):o8^bx0 xs:=λk hk=>by unfold bx0;rw[if_pos hk.1];by_cases hl:k.toNat<ab;rw[show xs.getD k.toNat 0=xs[k.toNat] by simp[List.getD,hl]];show h _^ly hl;rw[show xs.getD k.toNat 0=0 by simp[List.getD,hl]];show#[(),()]
structure cH where
 rs:List Row
 b0:Bx
 b1:Bx
 pl:Int
 mr:Int
 wd:Str
 bL:List Int
 an:Option Int
 n:Nat
structure Ta where
 dx:Addr
 lc:Addr
 ls:Addr
 d0:Addr
 d1:Addr
 l:Addr
def Gd(A:Ta)(m:cH):List (bc×V):=uz (¬A.lc) (¬A.ls) (.int m.pl) (.int m.mr) (.str m.wd) (¬A.l) (xg m.an)^.int m.n
structure fE (C:Addr) (H:Hp) (p:Addr) (A:Ta) (m:cH) (WF:Nat):Prop where
 ob:H p=!.ins C A.dx^Gd A m
 co:∃us,H A.lc=!.lst us/\Rows H us m.rs
 si:H A.ls=!(.lst [¬A.d0,¬A.d1])
 e0:∃kvs,H A.d0=!.dK kvs/\Rep kvs m.b0/\kvs.length<=WF
 e1:∃kvs,H A.d1=!.dK kvs/\Rep kvs m.b1/\kvs.length<=WF
 se:H A.l=!(.lst^m.bL.map V.int)
 v0:o8 m.b0
 v1:o8 m.b1
 ne:A.d0≠A.d1/\A.lc≠A.l/\A.ls≠A.l
 ok:∀r∈m.rs,r.ok m.rs.length
def Fr(p:ae)(A:Ta)(H H':Hp):=∀b o,H b=!o->b≠p->b≠A.d0->b≠A.d1->b≠A.l->H' b=!o
def Fr.refl{p:ae}{A:Ta}{H:Hp}:Fr p A H H:=λz z h z z z z=>h
def Fr.trans{A:Ta}{H2:Hp}(a:Fr p A H H1)(b:Fr p A H1 H2):Fr p A H H2:=λc o h n1 n2 n3 n4=>b c o (a c o h n1 n2 n3 n4) n1 n2 n3 n4
def az.fr{A:Ta}(e:az H H1):Fr p A H H1:=λc o h z z z z=>e c o h
section
variable {p:ae}{A:Ta}{m:cH}{WF:O}
def fE.tups(t:fE C H p A m WF)(f:Fr p A H H'):bX H H':=λb xs h=>by let#[k0,h0,_]:=t.e0;let#[k1,h1,_]:=t.e1;show f b _ h (cJ h t.ob (by intro z;cases z)) (cJ h h0 (by intro z;cases z)) (cJ h h1 (by intro z;cases z))^cJ h t.se (by intro z;cases z)
theorem fE.same(t:fE C H p A m WF)(e:az H H'):fE C H' p A m WF:=by let#[us,h1,h2]:=t.co;let#[k0,h3,h4]:=t.e0;let#[k1,h5,h6]:=t.e1;show#[e _ _ t.ob,#[us,e _ _ h1,h2.same e],e _ _ t.si,#[k0,e _ _ h3,h4],#[k1,e _ _ h5,h6],e _ _ t.se,t.v0,t.v1,t.ne,t.ok]
theorem fE.le(t:fE C H p A m WF){agY:O}(h:WF<=agY):fE C H p A m agY:=by let#[k0,h3,h4,h5]:=t.e0;let#[k1,h6,h7,h8]:=t.e1;show#[t.ob,t.co,t.si,#[k0,h3,h4,∅],#[k1,h6,h7,∅],t.se,t.v0,t.v1,t.ne,t.ok]
def fE.set(t:fE C H p A m WF){m':cH}(h:mT H p (.ins C A.dx^Gd A m') H')(e1:m'.rs=m.rs)(e2:m'.b0=m.b0)(e3:m'.b1=m.b1)(e4:m'.bL=m.bL):fE C H' p A m' WF/\Fr p A H H':=by let#[us,h1,h2]:=t.co;let#[k0,h3,h4]:=t.e0;let#[k1,h5,h6]:=t.e1;let fr:Fr p A H H':=λb o hb n1 q q q=>h.keep n1 hb;let tt:=t.tups fr;let k:∀{b:ae}{o:HO},H b=!o->(∀dx fs,o≠.ins C dx fs)->H' b=!o:=λhb ho=>h.keep (cJ hb t.ob^ho _ _) hb;show#[#[h.self,#[us,k h1 (by intro _ _ z;cases z),by rw[e1];show Rows.fQ tt h2],k t.si (by intro _ _ z;cases z),#[k0,k h3 (by intro _ _ z;cases z),by rw[e2];show h4],#[k1,k h5 (by intro _ _ z;cases z),by rw[e3];show h6],?_,by rw[e2];show t.v0,by rw[e3];show t.v1,t.ne,by rw[e1];show t.ok],fr];rw[e4];show k t.se (by intro _ _ z;cases z)
def fE.send(t:fE C H p A m WF){ys:List M}(h:mT H A.l (.lst^ys.map V.int) H'):fE C H' p A { m with bL:=ys } WF/\Fr p A H H':=by let#[us,h1,h2]:=t.co;let#[k0,h3,h4]:=t.e0;let#[k1,h5,h6]:=t.e1;let fr:Fr p A H H':=λb o hb q q q n4=>h.keep n4 hb;let tt:=t.tups fr;show#[#[h.keep (cJ t.ob t.se (by intro z;cases z)) t.ob,#[us,h.keep t.ne.2.1 h1,Rows.fQ tt h2],h.keep t.ne.2.2 t.si,#[k0,h.keep (cJ h3 t.se (by intro z;cases z)) h3,h4],#[k1,h.keep (cJ h5 t.se (by intro z;cases z)) h5,h6],h.self,t.v0,t.v1,t.ne,t.ok],fr]
theorem fE.agZ(t:fE C H p A m WF){kvs:List (Key×V)}{b:Bx}(h:mT H A.d0 (.dK kvs) H')(rep:Rep kvs b)(hv:o8 b)(hl:bo<=WF+1):fE C H' p A { m with b0:=b } (WF+1)/\Fr p A H H':=by let#[us,h1,h2]:=t.co;let#[k0,h3,h4]:=t.e0;let#[k1,h5,h6,h7]:=t.e1;let fr:Fr p A H H':=λb o hb q n2 q q=>h.keep n2 hb;let tt:=t.tups fr;show#[#[h.keep (cJ t.ob h3 (by intro z;cases z)) t.ob,#[us,h.keep (cJ h1 h3 (by intro z;cases z)) h1,Rows.fQ tt h2],h.keep (cJ t.si h3 (by intro z;cases z)) t.si,#[kvs,h.self,rep,hl],#[k1,h.keep (aR t.ne.1) h5,h6,∅],h.keep (cJ t.se h3 (by intro z;cases z)) t.se,hv,t.v1,t.ne,t.ok],fr]
theorem fE.ag0(t:fE C H p A m WF){kvs:List (Key×V)}{b:Bx}(h:mT H A.d1 (.dK kvs) H')(rep:Rep kvs b)(hv:o8 b)(hl:bo<=WF+1):fE C H' p A { m with b1:=b } (WF+1)/\Fr p A H H':=by let#[us,h1,h2]:=t.co;let#[k0,h3,h4,h7]:=t.e0;let#[k1,h5,h6]:=t.e1;let fr:Fr p A H H':=λb o hb q q n3 q=>h.keep n3 hb;let tt:=t.tups fr;show#[#[h.keep (cJ t.ob h5 (by intro z;cases z)) t.ob,#[us,h.keep (cJ h1 h5 (by intro z;cases z)) h1,Rows.fQ tt h2],h.keep (cJ t.si h5 (by intro z;cases z)) t.si,#[k0,h.keep t.ne.1 h3,h4,∅],#[kvs,h.self,rep,hl],h.keep (cJ t.se h5 (by intro z;cases z)) t.se,t.v0,hv,t.ne,t.ok],fr]
end
def cH.side(m:cH)(s:M):Bx:=if s=0 then m.b0 else m.b1
def cH.go(m:cH)(q:M):cH:={ m with mr:=Builtin.bitXor (Builtin.bitXor m.mr m.pl) q,pl:=q }
def Row.qW(m:cH):bv->cf
 | .mark _=>decide (m.mr≠m.pl)
 | .out i _=>decide (m.mr≠m.pl)||decide (m.b0 i≠m.b1 i)
 | .back i=>decide (m.mr≠m.pl)||decide (m.b0 i≠m.b1 i)
 | .fork i _ _=>decide (m.b0 i=0) != decide (m.b1 i=0)
 | .look i _=>decide (m.b0 i≠m.b1 i)
 | _=>false
def cH.nT(m:cH):Bool:=match m.rs[m.pl.toNat]? with
 | none=>true
 | some r=>r.qW m
def cH.wQ(m:cH)(r:bv):cH:={ m with b0:=if r.sd=0\/r.sd=2 then r.nF m.b0 else m.b0,b1:=if r.sd=1\/r.sd=2 then r.nF m.b1 else m.b1 }
def Row.on(m:cH):bv->cH
 | .back i=>{ m with wd := "back", an:=!(m.b0 i) }
 | .out i q=>({ m with bL:=m.bL++[m.b0 i] }).go q
 | .fork i q p=>m.go (if m.b0 i≠0 then q else p)
 | .look _ q=>m.go q
 | .mark q=>m.go q
 | .num d k v q=>(m.wQ^.num d k v q).go q
 | .copy d k i q=>(m.wQ^.copy d k i q).go q
 | .op d s k i j q=>(m.wQ^.op d s k i j q).go q
def cH.more(m:cH):cH:={ m with n:=m.n+1 }
def cH.step(m:cH):cH:=if m.wd ≠ "" then m else if m.more.nT=ag then { m.more with wd := "cry" } else match m.rs[m.pl.toNat]? with
 | none=>m.more
 | some r=>r.on m.more
inductive ag1(C:Addr)(vs:List V)(H:Hp)(Q:VK)(z:XK):Prop|mk(p:Addr)(A:Ta)(m:cH)(WF:Nat)(s k:Int)(z:vs=[¬p,.int s,.int k])(z:fE C H p A m WF)(z:(s=0\/s=1))(z:fG k)(z:Q (.int^m.side s k) H)
def Iq(T:Txt w8 K_ m_):bS P_ w8 K_ m_ b_ fW 1 T.dH.f T.dH.d ["self", "side", "k"]^ag1 T.bu:=by
 show T.dH.F.ok EC (λvs H Q E h=>?_) (λcdv A0 outer s H vs Q E hr h=>?_);let#[p,A,m,WF,s,k,Z,_]:=h;rfl;let#[p,A,m,WF,s,k,Z,tw,hs,hk,q]:=h;let cl:=T.jS.cl;let Yx:=T.ji;show#[_,(ao^aD^lM (eB hr) (aF aK (dB (pv 0) Z)^pv 1) (pv 2) af #[Z,Z,Z,Z]),?_];change(_:TS) (Ends.mk _ _ _ _) [_,_,_] H;let No:=tw.ob;unfold Gd at No;let#[k0,h0,r0,_]:=tw.e0;let#[k1,h1,r1,_]:=tw.e1;k_in;lk;rcases hs with rfl|rfl
 .show cj (bI.of tw.si) (v:=¬A.d0) Z ?_;lk;rw[r0 k hk];show q
 .show cj (bI.of tw.si) (v:=¬A.d1) Z ?_;lk;rw[r1 k hk];show q
inductive Ir(C:Addr)(vs:List V)(H:Hp)(Q:VK)(z:XK):Prop|mk(p:Addr)(A:Ta)(m:cH)(WF:Nat)(z:vs=[¬p])(z:fE C H p A m WF)(z:∀t l H',az H H'->H l=none->H' t=!.tup [.str m.wd,¬l,xg m.an,.int m.n]->H' l=!.lst^m.bL.map V.int->Q (¬t) H')
def V1(T:Txt w8 K_ m_):bS P_ w8 K_ m_ b_ fW 1 T.lW.f T.lW.d ["self"]^Ir T.bu:=by show T.lW.F.ok Cn (λvs H Q E h=>?_) (λcdv A0 outer s H vs Q E hr h=>?_);let#[p,A,m,WF,Z,_]:=h;rfl;let#[p,A,m,WF,Z,tw,q]:=h;let cl:=T.jS.cl;let Yx:=T.gA;let na2:=T.nj;let na3:=T.kC;let na4:=T.jj;show#[_,(ao^aD^aN^aa (dB (pv 0) Z)^aa (bZ mU Z T.oY BT.qH^aa (dB (pv 0) Z) ai)^aa (dB (pv 0) Z)^aa (dB (pv 0) Z) ai),?_];change(_:TS) (Ends.mk _ _ _ _) [_] H;let No:=tw.ob;let hse:=tw.se;unfold Gd at No;k_in;lk;ext l H1 n1 t H2 n2;show q t l H2 (n1.same.trans n2.same) n1.1 n2.self^n2.keep n1.self
inductive Rw(C:Addr)(vs:List V)(H:Hp)(Q:VK)(q:XK):Prop|mk(p:Addr)(A:Ta)(m:cH)(WF:Nat)(z:Int)(q:vs=[¬p,.int z])(q:fE C H p A m WF)(q:∀H',fE C H' p A (m.go z) WF->Fr p A H H'->Q .cB H')
def Rx(T:Txt w8 K_ m_):bS P_ w8 K_ m_ b_ fW 1 T.kD.f T.kD.d ["self", "to"]^Rw T.bu:=by show T.kD.F.ok Am (λvs H Q E h=>?_) (λcdv A0 outer s H vs Q E hr h=>?_);let#[p,A,m,WF,z,Z,_]:=h;rfl;let#[p,A,m,WF,z,Z,tw,q]:=h;let cl:=T.jS.cl;let Yx:=T.iL;let na2:=T.kB;show#[_,(ak (g8 (pv 0) (aB uO (aB uO (dB (pv 0) Z)^dB (pv 0) Z)^pv 1) Z)^ao^g8 (pv 0) (pv 1) Z),?_];change(_:TS) (Ends.mk _ _ _ _) [_,_] H;let No:=tw.ob;unfold Gd at No;k_in;lk;ext H1 p1 H2 p2;let#[t1,f1]:=tw.set (m':={ m with mr:=Builtin.bitXor (Builtin.bitXor m.mr m.pl) z }) p1 Z rfl rfl rfl;let#[t2,f2]:=t1.set (m':=m.go z) p2 Z rfl rfl rfl;show q H2 t2^f1.trans f2
def wR{x y:cf}(h:Q (.bl x) H)(e:x=y):Q (.bl y) H:=e▸h
def lH{Q':VK}{E:XK}(h:uo vs H Q E)(k:∀v H',Q v H'->Q' v H'):uo vs H Q' E:=by let#[a,d,r,kvs,b,n,h1,h2,h3,h4,h5,h6]:=h;show#[a,d,r,kvs,b,n,h1,h2,h3,h4,h5,k _ _ h6]
inductive ab6(C:Addr)(vs:List V)(H:Hp)(Q:VK)(z:XK):Prop|mk(p:Addr)(A:Ta)(m:cH)(WF:Nat)(z:vs=[¬p])(z:fE C H p A m WF)(z:0<=m.pl)(z:∀H',az H H'->Q (.bl m.nT) H')
theorem FG(T:Txt w8 K_ m_):bS P_ w8 K_ m_ b_ fW 2 T.gP.f T.gP.d ["self"]^ab6 T.bu:=by
 show T.gP.F.ok lV (λvs H Q E h=>?_) (λcdv A0 outer s H vs Q E hr h=>?_);let#[p,A,m,WF,Z,_]:=h;rfl;let#[p,A,m,WF,Z,tw,TD,q]:=h;let fO:=Iq T;let cl:=T.jS.cl;let Yx:=T.iL;let na2:=T.kB;let na3:=T.nh;show#[_,(ak (aY (bG WV (dB (pv 0) Z)^aS bh Z T.dY BT.dX^aa (dB (pv 0) Z) ai) (ao^aD jo) aL)^ak (bF 1 lV.nd^aF aK (dB (pv 0) Z)^dB (pv 0) Z)^gW (aY (PW.pt^jF (dJ dZ (aF aA (pv 1) af) (aN^aa aE^aa aE^aa aE ai)^by with_unfolding_all rfl)^gS^bG rO (dB (pv 0) Z)^dB (pv 0) Z) (ao^aD jo) aL)^ak (aY (bG bR (aF aA (pv 1) af) aE) (ao^aD^kQ rO (kQ bR (jg (pv 0) T.jS.cl T.dH.me fO (hr.mono^by first|decide|lia) T.dH.b .nil jr^aa af^aa (aF aA (pv 1) af) ai) af^oA _) (kQ bR (jg (pv 0) T.jS.cl T.dH.me fO (hr.mono^by first|decide|lia) T.dH.b .nil jr^aa af^aa (aF aA (pv 1) af) ai) af^oA _)^oA _) aL)^ao^aD^Gh (kQ dZ (aF aA (pv 1) af) (aN^aa aE^aa aE^aa aE ai)^by with_unfolding_all rfl)^Gg^kQ rO (jg (pv 0) T.jS.cl T.dH.me fO (hr.mono^by first|decide|lia) T.dH.b .nil jr^aa af^aa (aF aA (pv 1) af) ai) (jg (pv 0) T.jS.cl T.dH.me fO (hr.mono^by first|decide|lia) T.dH.b .nil jr^aa af^aa (aF aA (pv 1) af) ai)^oA _),?_];change(_:TS) (Ends.mk _ _ _ _) [_,_] H;let No:=tw.ob;unfold Gd at No;let#[us,hco,cY]:=tw.co;let zw:=cY.length;k_in;lk
 .rename_i hge;let e:m.nT=true:=by unfold cH.nT;rw[iA ∅]
  rw[e] at q;show q _^az.refl _
 ext hlt;let hlt:m.pl.toNat<m.rs.length:=∅;let hr1:m.rs[m.pl.toNat]?=some m.rs[m.pl.toNat]:=by simp
 generalize m.rs[m.pl.toNat]=r at hr1;let#[ra,SC,qg]:=CB cY hr1;rw[show((m.pl.toNat:O):M)=m.pl by lia] at SC;let hok:=tw.ok r^jd hr1;let ec:m.nT=r.qW m:=by unfold cH.nT;rw[hr1]
 rw[ec] at q;show cj (bI.of hco) SC ?_;cases r
 all_goals erw[Row.vals,Row.key,Row.rest] at qg
 all_goals erw[Row.qW] at q
 all_goals walk_at "goq"
 .show q _ (by walk_at "same")
 .show q _ (by walk_at "same")
 .show q _ (by walk_at "same")
 .show wR (q _^by walk_at "same") (by simp[*])
 .show#[p,A,m,WF,0,_,Z,tw.same^by walk_at "same",.inl Z,hok.1,?_];lk;show#[p,A,m,WF,1,_,Z,tw.same^by walk_at "same",.inr Z,hok.1,?_];lk;show wR (q _^by walk_at "same") (by simp[*,cH.side])
 .show#[p,A,m,WF,0,_,Z,tw.same^by walk_at "same",.inl Z,hok.1,?_];lk;show#[p,A,m,WF,1,_,Z,tw.same^by walk_at "same",.inr Z,hok.1,?_];lk;show wR (q _^by walk_at "same") Z
 .show#[p,A,m,WF,0,_,Z,tw.same^by walk_at "same",.inl Z,hok.1,?_];lk;show#[p,A,m,WF,1,_,Z,tw.same^by walk_at "same",.inr Z,hok.1,?_];lk;show wR (q _^by walk_at "same") (by simp[cH.side])
 .show wR (q _^by walk_at "same") (by simp[*])
 .show wR (q _^by walk_at "same") (by simp[*])
 .show wR (q _^by walk_at "same") (by simp[*])
 .show#[p,A,m,WF,0,_,Z,tw.same^by walk_at "same",.inl Z,hok,?_];lk;show#[p,A,m,WF,1,_,Z,tw.same^by walk_at "same",.inr Z,hok,?_];lk;show wR (q _^by walk_at "same") (by simp[*,cH.side])
def cH.KC(m:cH)(r:bv):cH:={ m with b0:=if r.sd=0\/r.sd=2 then r.nF m.b0 else m.b0 }
inductive V2(C:Addr)(vs:List V)(H:Hp)(Q:VK)(z:XK):Prop|mk(p ra:Addr)(A:Ta)(m:cH)(r:Row)(WF:Nat)(z:vs=[¬p,¬ra])(z:fE C H p A m WF)(z:H ra=!.tup r.vals)(z:r∈m.rs)(z:m.bL.length<=100000)(z:WF<=90000)(z:∀H',fE C H' p A (r.on m) (WF+2)->Fr p A H H'->Q .cB H')
theorem MU(T:Txt w8 K_ m_):bS P_ w8 K_ m_ b_ fW 4 T.jw.f T.jw.d ["self", "row"]^V2 T.bu:=by
 show T.jw.F.ok oO (λvs H Q E h=>?_) (λcdv A0 outer s H vs Q E hr h=>?_);let#[p,ra,A,m,r,WF,Z,_]:=h;rfl;let#[p,ra,A,m,r,WF,Z,tw,qg,hmem,hsl,hcap,q]:=h;let fO:=Iq T;let CM:=Rx T;let cl:=T.jS.cl;let Yx:=T.gA;let na2:=T.kC;let na3:=T.nj;let na4:=T.ji;let cD:=T.nQ.q;let cS:=T.wI.q;show#[_,(ak (aY (bG bR (aF aA (pv 1) af) aE) (ak (g8 (pv 0) aE Z)^ak (g8 (pv 0) (jg (pv 0) T.jS.cl T.dH.me fO (hr.mono^by first|decide|lia) T.dH.b .nil jr^aa af^aa (aF aA (pv 1) af) ai) Z)^ao BL) aL)^gW (aY (bG bR (aF aA (pv 1) af) aE) (ao^bA^dW bH cL cM bN (dB (pv 0) Z)^aa (jg (pv 0) T.jS.cl T.dH.me fO (hr.mono^by first|decide|lia) T.dH.b .nil jr^aa af^aa (aF aA (pv 1) af) ai) ai)^ao^aY (dJ dZ (aF aA (pv 1) af) (jJ T.nQ.c)^by with_unfolding_all rfl) (ao^c7 bM Z (yh^jJ T.wI.c) (d7 2 oO.nd)^ao^aY (dJ dZ (aF aA (pv 1) af) (aN^aa (pv 2)^aa (AY T.Qv.c) ai)^by with_unfolding_all rfl) (ao^bA^aG T.xF (Ip T) hr^aa (pv 1)^aa (aF aK (dB (pv 0) Z)^pv 2) ai) aL) aL)^ao^bA^jg (pv 0) T.jS.cl T.kD.me CM (hr.mono^by first|decide|lia) T.kD.b .nil jr^aa (aG T.Cs (MT T) hr^aa (pv 1)^aa (aF aK (dB (pv 0) Z) af) ai) ai),?_];change(_:TS) (Ends.mk _ _ _ _) [_,_,_] H;let hok:=tw.ok r hmem;let hse:=tw.se;let TD:p≠A.l:=cJ tw.ob tw.se (by intro z;cases z);let arh:(m.bL.map V.int).length=m.bL.length:=aq _;obtain⟨d,HI⟩:∃d,r.sd=d:=#[_,rfl];obtain⟨rr,hrr⟩:∃x,x=r:=#[_,rfl];obtain⟨md0,MV⟩:∃x,x=m.KC r:=#[_,rfl];obtain⟨md,hmd⟩:∃x,x=m.wQ r:=#[_,rfl];let MW:rr.ok m.rs.length:=by rw[hrr];show hok
 let Rs:∀(H1:Hp)(m1:cH)(V3:O)(R:V->Hp->eL)(q:∀H',fE T.bu H' p A (m1.go^rr.gQ m1.b0) V3->Fr p A H1 H'->R .cB H'),fE T.bu H1 p A m1 V3->H1 ra=!.tup rr.vals->uo [¬ra,¬A.d0] H1 (λx H2=>Rw T.bu [¬p,x] H2 R E0) E0:=by intro H1 m1 V3 R q1 t1 h1;let#[k0,h0,r0,_]:=t1.e0;show#[ra,A.d0,rr,k0,m1.b0,_,Z,h1,h0,r0,MW,p,A,m1,V3,_,Z,t1,q1]
 by_cases DO:r.isD
 .obtain⟨rest,v7⟩:∃rest,r.vals=.str r.key::.int d::rest:=by rw[<- HI];cases r<;>first|show#[_,Z]|show DO.elim
  let k1:Not (r.key = "back" ):= by cases r<;>first|show DO.elim|(erw[Row.key];decide)
  let k2:Not (r.key = "out" ):= by cases r<;>first|show DO.elim|(erw[Row.key];decide)
  let k3:z9 (.str r.key) [.str "num", .str "copy", .str "op"]=true:=by cases r<;>first|show DO.elim|(erw[Row.key];decide)
  let hon:r.on m=md.go^r.gQ md.b0:=by rw[hmd];cases r<;>first|show DO.elim|rfl
  let hd:d=0\/d=1\/d=2:=by
   have:ja r.sd:=by cases r<;>first|show hok.1|show DO.elim
   rw[HI] at this;unfold ja at this;lia
  let Yy:rr.isD:=by rw[hrr];show DO
  rw[v7] at qg;rw[hon] at q;rw[<- hrr] at MV hmd HI;let No:=tw.ob;unfold Gd at No;k_in;walk_at "goq";rw[if_pos k3];walk_at "goq";show f_tup (xs:=[.int 0,.int 1]) (λi Y' H'=>Fr p A H H'/\∃x:Option V,Y'=[!.ref p,!.ref ra,x]/\fE T.bu H' p A (if i=0 then m else if i=1 then md0 else md) (WF+i)) ?_ ?_ ?_ ?_;show#[Fr.refl,_,Z,tw];rintro i Y' H' _ _;show cS.sq
  .rintro i v Y' H1 hv ⟨f1,x,rfl,t1⟩;let iP:=tw.tups f1 _ _ qg;rcases i with _|_|i
   .erw[BE,Option.some.injEq] at hv;subst hv;rw[if_pos Z] at t1;rw[if_neg ∅,if_pos Z];let Ry:=t1.ob;unfold Gd at Ry;let skip:(d≠0/\d≠2)->∀H2,az H1 H2->fE T.bu H2 p A md0 (WF+(0+1)):=λh H2 s2=>by rw[MV];unfold cH.KC;rw[HI,if_neg ∅];show(t1.same s2).le ∅
    let act:(d=0\/d=2)->∀H2,az H1 H2->H2 ra=!.tup rr.vals->∀R:VK,(∀H3,Fr p A H1 H3->fE T.bu H3 p A md0 (WF+(0+1))->R .cB H3)->Io K_ [¬ra,¬A.d0] H2 R E0:=λh H2 s2 ab8 R k=>by let#[k0,h0,r0,l0]:=(t1.same s2).e0;show#[ra,A.d0,rr,k0,m.b0,_,Z,ab8,h0,r0,t1.v0,MW,Yy,∅,λH3 H4 UF s3 put ab9 len'=>?_];let#[t4,f4]:=((t1.same s2).same s3).agZ put ab9 (Row.FF MW t1.v0) ∅;show k H4 ((az.fr^s2.trans s3).trans f4) ?_;rw[MV];unfold cH.KC;rw[HI,if_pos h];show t4
    rcases hd with rfl|rfl|rfl
    .walk_at "goq";show rX (dD.of iP) (dM (j:=1) Z) ?_;walk_at "goq";ext t2 H2 n2;show cj (bI.of^n2.keep t1.si) (v:=¬A.d0) Z ?_;walk_at "goq";show act (.inl Z) H2 n2.same (by rw[hrr,v7];show n2.keep iP) _ λH3 f3 t3=>#[f1.trans f3,_,Z,t3]
    .walk_at "goq";show rX (dD.of iP) (dM (j:=1) Z) ?_;walk_at "goq";ext t2 H2 n2;show#[f1.trans^az.fr n2.same,_,Z,skip ∅ H2 n2.same]
    .walk_at "goq";show rX (dD.of iP) (dM (j:=1) Z) ?_;walk_at "goq";ext t2 H2 n2;show cj (bI.of^n2.keep t1.si) (v:=¬A.d0) Z ?_;walk_at "goq";show act (.inr Z) H2 n2.same (by rw[hrr,v7];show n2.keep iP) _ λH3 f3 t3=>#[f1.trans f3,_,Z,t3]
   .erw[Nat.zero_add,List.getElem?_cons_succ,BE,Option.some.injEq] at hv;subst hv;rw[if_neg ∅,if_pos Z] at t1;rw[if_neg ∅,if_neg ∅];let Ry:=t1.ob;unfold Gd at Ry;let ev1:md0.b1=m.b1:=by rw[MV];rfl
    let em:md={ md0 with b1:=if d=1\/d=2 then rr.nF m.b1 else m.b1 }:=by rw[hmd,MV];unfold cH.wQ cH.KC;rw[HI]
    let skip:(d≠1/\d≠2)->∀H2,az H1 H2->fE T.bu H2 p A md (WF+(0+1+1)):=λh H2 s2=>by rw[em,if_neg ∅,<- ev1];show(t1.same s2).le ∅
    let ari:rr.ok md0.rs.length:=by rw[MV];show MW
    let act:(d=1\/d=2)->∀H2,az H1 H2->H2 ra=!.tup rr.vals->∀R:VK,(∀H3,Fr p A H1 H3->fE T.bu H3 p A md (WF+(0+1+1))->R .cB H3)->Io K_ [¬ra,¬A.d1] H2 R E0:=λh H2 s2 ab8 R k=>by let#[k0,h0,r0,l0]:=(t1.same s2).e1;show#[ra,A.d1,rr,k0,md0.b1,_,Z,ab8,h0,r0,t1.v1,MW,Yy,∅,λH3 H4 UF s3 put ab9 len'=>?_];let#[t4,f4]:=((t1.same s2).same s3).ag0 put ab9 (Row.FF MW t1.v1) ∅;show k H4 ((az.fr^s2.trans s3).trans f4) ?_;rw[em,if_pos h,<- ev1];show t4
    rcases hd with rfl|rfl|rfl
    .walk_at "goq";show rX (dD.of iP) (dM (j:=1) Z) ?_;walk_at "goq";ext t2 H2 n2;show#[f1.trans^az.fr n2.same,_,Z,skip ∅ H2 n2.same]
    .walk_at "goq";show rX (dD.of iP) (dM (j:=1) Z) ?_;walk_at "goq";ext t2 H2 n2;show cj (bI.of^n2.keep t1.si) (v:=¬A.d1) Z ?_;walk_at "goq";show act (.inl Z) H2 n2.same (by rw[hrr,v7];show n2.keep iP) _ λH3 f3 t3=>#[f1.trans f3,_,Z,t3]
    .walk_at "goq";show rX (dD.of iP) (dM (j:=1) Z) ?_;walk_at "goq";ext t2 H2 n2;show cj (bI.of^n2.keep t1.si) (v:=¬A.d1) Z ?_;walk_at "goq";show act (.inr Z) H2 n2.same (by rw[hrr,v7];show n2.keep iP) _ λH3 f3 t3=>#[f1.trans f3,_,Z,t3]
   .simp at hv
  .rintro Y' H1 ⟨f1,x,rfl,t1⟩;erw[ck,List.length_nil] at t1;rw[if_neg ∅,if_neg ∅] at t1;let iP:=tw.tups f1 _ _ qg;let Ry:=t1.ob;unfold Gd at Ry;walk_at "goq";show cj (bI.of t1.si) (v:=¬A.d0) Z ?_;walk_at "goq";show lH (Rs H1 md _ (λy H1=>Q .cB H1) (λH' t' f'=>?_) t1 (by rw[hrr,v7];show iP)) (λx H2 h=>?_);rw[hrr] at t';show q H' t'^f1.trans f'
   .walk_at "goq";show h
 cases r
 case num|copy|op=>show absurd trivial DO
 all_goals erw[Row.vals,Row.key,Row.rest] at qg
 all_goals erw[Row.on] at q
 all_goals let No:=tw.ob
 all_goals unfold Gd at No
 all_goals k_in
 all_goals walk_at "goq"
 .rename_i i q0;let hsi:=tw.si;let hls:=tw.ne.2.2;show#[p,A,m,WF,0,_,Z,tw,.inl Z,hok.1,?_];walk_at "goq";ext H1 p1;let p1':mT H A.l (.lst^(m.bL++[m.b0 i]).map V.int) H1:=by rw[bq];show p1
  let#[t1,f1]:=tw.send p1';show lH (Rs H1 _ WF (λy H1=>Q .cB H1) (λH' t' f'=>?_) t1 (by rw[hrr];show tw.tups f1 _ _ qg)) (λx H2 h=>?_);rw[hrr] at t';show q H' (t'.le ∅)^f1.trans f'
  .walk_at "goq";show h
 iterate 3
  focus
   show cj (bI.of tw.si) (v:=¬A.d0) Z ?_;walk_at "goq";show lH (Rs H m WF (λy H1=>Q .cB H1) (λH' t' f'=>?_) tw (by rw[hrr];show qg)) (λx H2 h=>?_);rw[hrr] at t';show q H' (t'.le ∅) f'
   .walk_at "goq";show h
 .rename_i i H1 p1;let#[t1,f1]:=tw.set (m':={ m with wd := "back" }) p1 Z rfl rfl rfl;show#[p,A,_,WF,0,_,Z,t1,.inl Z,hok,?_];walk_at "goq";ext H2 p2;let#[t2,f2]:=t1.set (m':={ m with wd := "back", an:=!(m.b0 i) }) p2 Z rfl rfl rfl;show q H2 (t2.le ∅)^f1.trans f2
def jA{b:ae}(n:mT H p o H')(h:H' b=aw):H b=none:=by
 cases e:H b with
 | none=>rfl
 | some v =>
  by_cases z:b=p;rw[z,n.self] at h;cases h;rw[n.keep z e] at h;cases h
inductive Rz(C:Addr)(vs:List V)(H:Hp)(Q:VK)(z:XK):Prop|mk(p:Addr)(A:Ta)(m:cH)(WF:Nat)(z:vs=[¬p])(z:fE C H p A m WF)(z:0<=m.pl)(z:m.bL.length<=100000)(z:WF<=90000)(z:∀H',fE C H' p A m.step (WF+2)->Fr p A H H'->Q .cB H')
theorem V4(T:Txt w8 K_ m_):bS P_ w8 K_ m_ b_ fW 5 T.lY.f T.lY.d ["self"]^Rz T.bu:=by
 show T.lY.F.ok Co (λvs H Q E h=>?_) (λcdv A0 outer s H vs Q E hr h=>?_);let#[p,A,m,WF,Z,_]:=h;rfl;let#[p,A,m,WF,Z,tw,TD,hsl,hcap,q]:=h;let xh:=FG T;let Au:=MU T;let cl:=T.jS.cl;let Yx:=T.gA;let na2:=T.jj;let na3:=T.nh;let na4:=T.kB;show#[_,(ak (aY (bG rO (dB (pv 0) Z) aE) (ao BL) aL)^ak (K2 (pv 0) af ZI)^ao^aY (oq^yp (pv 0) T.jS.cl T.gP.me xh (hr.mono^by first|decide|lia) T.gP.b .nil jr) (ao^g8 (pv 0) aE Z)^ao^bA^jg (pv 0) T.jS.cl T.jw.me Au (hr.mono^by first|decide|lia) T.jw.b .nil jr^aa (aF aK (dB (pv 0) Z)^dB (pv 0) Z) ai),?_];change(_:TS) (Ends.mk _ _ _ _) [_] H;let No:=tw.ob;unfold Gd at No;k_in;lk
 .rename_i hw;let e:m.step=m:=by unfold cH.step;rw[if_pos^by simpa using hw]
  rw[e] at q;show q H (tw.le ∅) Fr.refl
 ext hw H1 p1;let#[t1,f1]:=tw.set (m':=m.more) p1 Z rfl rfl rfl;clear No p1;let hw':Not (m.wd ≠ ""):=by simpa using hw
 show#[p,A,m.more,WF,Z,t1,TD,λH2 s2=>?_];let t2:=t1.same s2;let ame:=t2.ob;unfold Gd at ame;cases hc:m.more.nT
 .have hr:∃r,m.rs[m.pl.toNat]?=!r:=by
   cases h:m.rs[m.pl.toNat]? with
   | none =>
    have:m.more.nT=true:=by change(match m.rs[m.pl.toNat]? with|none=>true|some r=>r.qW m.more)=true;rw[h]
    rw[this] at hc;cases hc
   | some r=>show#[r,Z]
  let#[r,hr]:=hr;let#[us,hco,cY]:=t2.co;let#[ra,SC,qg]:=CB cY (show m.more.rs[m.pl.toNat]?=!r from hr);rw[show((m.pl.toNat:O):M)=m.pl by lia] at SC;let e:m.step=r.on m.more:=by unfold cH.step;rw[if_neg hw',if_neg (by rw[hc];decide),hr]
  rw[e] at q;lk;show cj (bI.of hco) SC ?_;lk;show#[p,ra,A,m.more,r,WF,Z,t2,qg,jd hr,hsl,hcap,λH3 t3 f3=>?_];lk;show q H3 t3^(f1.trans^az.fr s2).trans f3
 .have e:m.step={ m.more with wd := "cry" }:=by unfold cH.step;rw[if_neg hw',if_pos hc]
  rw[e] at q;lk;ext H3 p3;let#[t3,f3]:=t2.set (m':={ m.more with wd := "cry" }) p3 Z rfl rfl rfl;show q H3 (t3.le ∅)^(f1.trans^az.fr s2).trans f3
def vI(rs:List bv)(xs:List M):cH:=#[rs,bx0 xs,bx0 xs,0,0, "", [],none,0]
inductive RC(C:Addr)(vs:List V)(H:Hp)(Q:VK)(z:XK):Prop|mk(p dx c a:Addr)(us:List V)(rs:List Row)(xs:List Int)(z:vs=[¬p,¬c,¬a])(z:H p=!.ins C dx [])(z:H c=!.lst us)(z:Rows H us rs)(z:(∀r∈rs,r.ok rs.length))(z:H a=!.lst^xs.map V.int)(z:xs.length<=1000)(z:(∀x∈xs,Val x))(z:∀H' A,fE C H' p A (vI rs xs) 1000->H A.lc=none->H A.ls=none->H A.d0=none->H A.d1=none->H A.l=none->(∀b o,H b=!o->b≠p->H' b=!o)->Q .cB H')
theorem V5(T:Txt w8 K_ m_):bS P_ w8 K_ m_ b_ fW 2 T.gO.f T.gO.d ["self", "code", "args"]^RC T.bu:=by
 show T.gO.F.ok vp (λvs H Q E h=>?_) (λcdv A0 outer s H vs Q E hr h=>?_);let#[p,dx,c,a,us,rs,xs,Z,_]:=h;rfl;let#[p,dx,c,a,us,rs,xs,Z,hp,hc,cY,hok,ha,P7,hxv,q]:=h;let cl:=T.jS.cl;let Yx:=T.gA;let na2:=T.jj;let na3:=T.nh;let na4:=T.kB;let na5:=T.ji;let na6:=T.iL;let na7:=T.nj;let na8:=T.kC;let cS:=T.wI.q;show#[_,(ak (g8 (pv 0) (bZ mU Z T.oY BT.qH^aa (pv 1) ai) Z)^ak (g8 (pv 0) (fM (bQ.cz "side" ["args"] [2] ["args"] Z) (yh^jJ T.wI.c) (λj j j j=>fL) (λj j j j=>(B7 (K:=K_) Z rfl T.zf Z T.gn^aa (pv 1) ai))) Z)^ak (g8 (pv 0) af Z)^ak (g8 (pv 0) af Z)^ak (g8 (pv 0) aE Z)^ak (g8 (pv 0) (aX ai) Z)^ak (g8 (pv 0) kg Z)^ao^g8 (pv 0) af Z),?_];change(_:TS) (Ends.mk _ _ _ _) [_,_,_] H;let hpa:a≠p:=cJ ha hp (by intro z;cases z);let hpc:c≠p:=cJ hc hp (by intro z;cases z);k_in;lk;ext l1 H1 n1 H2 p2;let hlp:l1≠p:=aR^n1.ne hp;let IR:=p2.keep hpa^n1.keep ha;show aeN (xs:=[.int 0,.int 1]) (λi ys H'=>az H2 H'/\∃ds:List ae,A4 (ys=ds.map V.ref) (ds.length=i) ((∀d∈ds,H2 d=aw/\H' d=!.dK^oH^xs.map V.int)) ds.Nodup) ?_ ?_ ?_ ?_;show#[az.refl _,[],Z,Z,(λd h=>nomatch h),lB];rintro i ys H' _ _;show cS.sq
 .rintro i v ys H3 hv ⟨s3,ds,rfl,hdl,KB,hnd⟩;let hi:i<2:=(gq hv).1;show#[di (by rw[aq];lia),?_];let Vn:=s3 _ _ IR;show Oz^Tu ?_;dsimp only[cut];lk;ext d H4 n4;show#[s3.trans n4.same,ds++[d],by rw[bq];rfl,by simp[hdl],λd' h=>?_,?_];rcases aM.mp h with h|h;show#[(KB d' h).1,n4.keep (KB d' h).2];rw[aJ.mp h];show#[s3.free n4.1,n4.self];rw[fB];show#[hnd,by simp,λx hx y hy e=>?_];rw[aJ.mp hy] at e;have:=(KB x hx).2;rw[e,n4.1] at this;cases this
 rintro ys H3 ⟨s3,ds,rfl,hdl,KB,hnd⟩ ls H4 n4;obtain⟨d0,d1,rfl⟩:∃d0 d1,ds=[d0,d1]:=by
  match ds,hdl with
  | [a,b],_=>show#[a,b,Z]
 let hp4:H4 p=!.ins T.bu dx^tw1^V.ref l1:=n4.keep^s3 _ _ p2.self;lk;ext H5 p5 H6 p6 H7 p7 H8 p8 se H9 n9 Ab Kx Dj wN HN Mw;let kp8:∀b o,b≠p->H4 b=!o->H8 b=!o:=λb o ne h=>p8.keep ne^p7.keep ne^p6.keep ne^p5.keep ne h;let kp:∀b o,b≠p->H4 b=!o->HN b=!o:=λb o ne h=>Mw.keep ne^wN.keep ne^Kx.keep ne^n9.keep^kp8 b o ne h;let k4:∀b o,b≠p->H b=!o->H4 b=!o:=λb o ne h=>n4.keep^s3 _ _^p2.keep ne^n1.keep h;let fr4:∀b,H4 b=aw->H b=none:=λb h=>n1.same.free^jA p2^s3.free^n4.same.free h;let hdp:∀d∈[d0,d1],d≠p:=λd h e=>by have:=(KB d h).1;rw[e,p2.self] at this;cases this
 let ag3:ls≠p:=λe=>by have:=n4.1;rw[e,s3 _ _ p2.self] at this;cases this
 let XY:H4 l1=!.lst us:=n4.keep^s3 _ _^p2.keep hlp n1.self;let hsep:se≠p:=λe=>by have:=n9.1;rw[e,p8.self] at this;cases this
 let el:(oH^xs.map V.int).length<=1000:=by have:=iZ (λi=>.inl (i:M)) (λi=>(xs.map V.int).getD i .cB) (xs.map V.int).length;unfold oH;rw[aq] at this ⊢;lia
 let acd:H8 se=none:=n9.1;let tt:bX H HN:=λb ys e=>kp b _ (cJ e hp (by intro z;cases z))^k4 b _ (cJ e hp (by intro z;cases z)) e;show q HN #[dx,l1,ls,d0,d1,se] #[Mw.self,#[us,kp _ _ hlp XY,Rows.fQ tt cY],kp _ _ ag3 n4.self,#[_,kp _ _ (hdp d0^by simp)^n4.keep (KB d0^by simp).2,rep0 xs,el],#[_,kp _ _ (hdp d1^by simp)^n4.keep (KB d1^by simp).2,rep0 xs,el],?_,Yw hxv,Yw hxv,#[?_,?_,?_],hok] n1.1 (n1.same.free^jA p2^s3.free n4.1) (n1.same.free^jA p2 (KB d0^by simp).1) (n1.same.free^jA p2 (KB d1^by simp).1) (fr4 se^jA p5^jA p6^jA p7^jA p8 acd) (λb o hb ne=>kp b o ne^k4 b o ne hb);show Mw.keep hsep^wN.keep hsep^Kx.keep hsep n9.self;intro e;simp at hnd;show hnd e;show aH (kp8 _ _ hlp XY) acd;show aH (kp8 _ _ ag3 n4.self) acd
inductive Wt where
 | box (s k b:Int)
 | mark (b:Int)
 | place (b:Int)
def Wt.vals:Wt->List V
 | .box s k b=>[.str "box", .int s,.int k,.int b]
 | .mark b=>[.str "mark", .int b]
 | .place b=>[.str "place", .int b]
def Wt.ok:Wt->eL
 | .box s k b=>(s=0\/s=1)/\fG k/\0<=b/\b<48
 | .mark b=>0<=b/\b<48
 | .place b=>0<=b/\b<48
def o9(b:M):Int:=1*2 ^ b.toNat
theorem CN(h0:0<=b)(h1:b<48):Val^o9 b:=by unfold o9;rw[Int.one_mul];show#[Int.le_trans ()^zk _,EM ∅]
def xor_val(ha:Val a)(hb:Val b):Val^Builtin.bitXor a b:=Qx (k:=8) () ha hb
def cH.turn(m:cH)(t:Wt):cH:=if m.wd ≠ "" then m else match t with
 | .box s k b=>if s=0 then { m with b0:=setB m.b0 k (Builtin.bitXor (m.b0 k) (o9 b)) } else { m with b1:=setB m.b1 k (Builtin.bitXor (m.b1 k) (o9 b)) }
 | .mark b=>{ m with mr:=Builtin.bitXor m.mr (o9 b) }
 | .place b=>{ m with pl:=Builtin.bitXor m.pl (o9 b) }
inductive RE(C:Addr)(vs:List V)(H:Hp)(Q:VK)(z:XK):Prop|mk(p a:Addr)(A:Ta)(m:cH)(WF:Nat)(t:Wt)(z:vs=[¬p,¬a])(z:fE C H p A m WF)(z:H a=!.tup t.vals)(z:t.ok)(z:WF<=90000)(z:∀H',fE C H' p A (m.turn t) (WF+1)->Fr p A H H'->Q .cB H')
theorem V6(T:Txt w8 K_ m_):bS P_ w8 K_ m_ b_ fW 2 T.lX.f T.lX.d ["self", "what"]^RE T.bu:=by
 show T.lX.F.ok sX (λvs H Q E h=>?_) (λcdv A0 outer s H vs Q E hr h=>?_);let#[p,a,A,m,WF,t,Z,_]:=h;rfl;let#[p,a,A,m,WF,t,Z,tw,ha,hok,hcap,q]:=h;let fO:=Iq T;let cl:=T.jS.cl;let Yx:=T.gA;let na2:=T.ji;let na3:=T.iL;let na4:=T.kB;show#[_,(ak (aY (bG rO (dB (pv 0) Z) aE) (ao BL) aL)^ak (bF 2 sX.nd^aB Gs af^aF aA (pv 1)^kP iE af)^ao^aY (bG bR (aF aA (pv 1) af) aE) (ao^jh (eB hr) (aF aK (dB (pv 0) Z)^aF aA (pv 1) af) (aF aA (pv 1) af) (aB uO (jg (pv 0) T.jS.cl T.dH.me fO (hr.mono^by first|decide|lia) T.dH.b .nil jr^aa (aF aA (pv 1) af)^aa (aF aA (pv 1) af) ai)^pv 2) Z)^ao^aY (bG bR (aF aA (pv 1) af) aE) (ao^g8 (pv 0) (aB uO (dB (pv 0) Z)^pv 2) Z)^ao^g8 (pv 0) (aB uO (dB (pv 0) Z)^pv 2) Z),?_];change(_:TS) (Ends.mk _ _ _ _) [_,_,_] H;let No:=tw.ob;unfold Gd at No;by_cases hw:m.wd = ""
 .have nw:Not (m.wd ≠ ""):=λh=>h hw;k_in;cases t
  case mark b =>
   erw[Wt.vals] at ha;let e:m.turn^.mark b={ m with mr:=Builtin.bitXor m.mr (o9 b) }:=by unfold cH.turn;rw[if_neg nw]
   rw[e] at q;let#[b0,b1]:=hok;lk;ext H1 p1;let#[t1,f1]:=tw.set (m':={ m with mr:=Builtin.bitXor m.mr (o9 b) }) p1 Z rfl rfl rfl;show q H1 (t1.le ∅) f1
  case place b =>
   erw[Wt.vals] at ha;let e:m.turn^.place b={ m with pl:=Builtin.bitXor m.pl (o9 b) }:=by unfold cH.turn;rw[if_neg nw]
   rw[e] at q;let#[b0,b1]:=hok;lk;ext H1 p1;let#[t1,f1]:=tw.set (m':={ m with pl:=Builtin.bitXor m.pl (o9 b) }) p1 Z rfl rfl rfl;show q H1 (t1.le ∅) f1
  case box s k b =>
   erw[Wt.vals] at ha;let#[hs,hk,b0,b1]:=hok;let#[k0,h0,r0,l0]:=tw.e0;let#[k1,h1,r1,l1]:=tw.e1;lk;show#[p,A,m,WF,s,k,Z,tw,hs,hk,?_];lk;rcases hs with rfl|rfl
   .have e:m.turn^.box 0 k b={ m with b0:=setB m.b0 k (Builtin.bitXor (m.b0 k) (o9 b)) }:=by unfold cH.turn;rw[if_neg nw];simp
    rw[e] at q;show cj (bI.of tw.si) (v:=¬A.d0) Z ?_;lk;ext H1 p1;let#[t1,f1]:=tw.agZ p1 (r0.put _ _) (tw.v0.set^xor_val (tw.v0 k hk)^CN b0 b1) (bP (fF _ _ _) ∅);show q H1 t1 f1
   .have e:m.turn^.box 1 k b={ m with b1:=setB m.b1 k (Builtin.bitXor (m.b1 k) (o9 b)) }:=by unfold cH.turn;rw[if_neg nw];simp
    rw[e] at q;show cj (bI.of tw.si) (v:=¬A.d1) Z ?_;lk;ext H1 p1;let#[t1,f1]:=tw.ag0 p1 (r1.put _ _) (tw.v1.set^xor_val (tw.v1 k hk)^CN b0 b1) (bP (fF _ _ _) ∅);show q H1 t1 f1
 .have e:m.turn t=m:=by unfold cH.turn;rw[if_pos hw]
  rw[e] at q;k_in;lk;show q H (tw.le ∅) Fr.refl
theorem zN(ha:0<=a)(hb:0<=b):0<=Builtin.bitXor a b:=by change 0<=Builtin.bitOr a b-Builtin.bitAnd a b;rw[xq,xo ha hb];let h1:a.toNat &&& b.toNat<=a.toNat:=Nat.and_le_left;let h2:a.toNat &&& b.toNat<=b.toNat:=Nat.and_le_right;lia
abbrev Due:=M->Option Wt
def cH.uq(due:Due)(m:cH):cH:=match due m.n with
 | some t=>m.turn t
 | none=>m
def cH.round(due:Due)(m:cH):cH:=(m.uq due).step
def cH.run(due:Due):O->cH->cH
 | 0,m=>m
 | k+1,m=>if m.wd = "" then cH.run due k^m.round due else m
def cH.out(m:cH):Out:=#[if m.wd = "" then "tired" else m.wd,m.bL,m.an,m.n]
def qx(rs:List bv)(xs:List M)(due:Due)(most:O):Out:=((vI rs xs).run due most).out
def iQ(tl:List (M×Wt)):Due:=λn=>tl.foldl (λXt p=>if p.1=n then !p.2 else Xt) aw
def zO(m:cH)(t:Wt):(m.turn t).n=m.n/\(m.turn t).wd=m.wd/\(m.turn t).rs=m.rs/\(m.turn t).bL=m.bL/\(m.turn t).an=m.an:=by unfold cH.turn;split;show#[Z,Z,Z,Z,Z];cases t;simp only;split<;>show#[Z,Z,Z,Z,Z];show#[Z,Z,Z,Z,Z];show#[Z,Z,Z,Z,Z]
def KD{t:Wt}(h:0<=m.pl)(ht:t.ok):0<=(m.turn t).pl:=by unfold cH.turn;split;show h;cases t;simp only;split<;>show h;show h;show zN h (CN ht.1 ht.2).1
def qX(due:Due)(m:cH):(m.uq due).n=m.n/\(m.uq due).wd=m.wd/\(m.uq due).rs=m.rs/\(m.uq due).bL=m.bL/\(m.uq due).an=m.an:=by unfold cH.uq;split;show zO _ _;show#[Z,Z,Z,Z,Z]
def V7(h:0<=m.pl)(hd:∀k t,due k=!t->t.ok):0<=(m.uq due).pl:=by unfold cH.uq;split;show KD h (hd _ _^by assumption);show h
def RG(r:bv)(m:cH):(r.on m).n=m.n/\(r.on m).rs=m.rs/\(r.on m).bL.length<=m.bL.length+1:=by
 cases r
 case out=>show#[Z,Z,by simp[Row.on,cH.go]]
 all_goals show#[Z,Z,gf _]
def ag4(h:0<=m.pl)(hr:r.ok n):0<=(r.on m).pl:=by
 cases r
 case back=>show h
 case fork =>
  erw[Row.on,cH.go];split;show hr.2.1.1;show hr.2.2.1
 case num=>show hr.2.2.2.1
 case copy=>show hr.2.2.2.1
 case op=>show hr.2.2.2.2.2.1
 case out=>show hr.2.1
 case look=>show hr.2.1
 case mark=>show hr.1
def step_keeps(hw:m.wd = ""):m.step.n=m.n+1/\m.step.rs=m.rs/\m.step.bL.length<=m.bL.length+1:=by unfold cH.step;rw[if_neg^by simpa using hw];split;show#[Z,Z,gf _];split;show#[Z,Z,gf _];show RG _ _
def V8(h:0<=m.pl)(hr:∀r∈m.rs,r.ok n):0<=m.step.pl:=by unfold cH.step;split;show h;split;show h;split;show h;ext r e;show ag4 (m:=m.more) h^hr r^jd e
def wU(hw:m.wd = ""):(m.round due).n=m.n+1/\(m.round due).rs=m.rs/\(m.round due).bL.length<=m.bL.length+1:=by let#[h1,h2,h3,h4,_]:=qX due m;let#[k1,k2,k3]:=step_keeps (m:=m.uq due)^h2.trans hw;show#[k1.trans^by rw[h1],k2.trans h3,by rw[h4] at k3;show k3]
def RH(h:0<=m.pl)(hr:∀r∈m.rs,r.ok n)(hd:∀k t,due k=!t->t.ok):0<=(m.round due).pl :=
 V8 (V7 h hd) (by rw[(qX due m).2.2.1];show hr)
theorem MY(hw:m.wd ≠ ""):∀k,m.run due k=m
 | 0=>rfl
 | k+1=>by change(if m.wd = "" then _ else m)=m;rw[if_neg hw]
def jc(H:Hp):List V->List (M×Wt)->Prop:=Paired λu p=>∃t a,u=¬t/\H t=!.tup [.int p.1,¬a]/\H a=!.tup p.2.vals
def ace(H:Hp)(v:V)(tl:List (M×Wt)):=(v=.cB/\tl=[])\/∃t us,v=¬t/\H t=!.lst us/\jc H us tl
def jc.same(e:az H H')(h:jc H us tl):jc H' us tl:=by
 induction h with
 | nil=>show .nil
 | cons h _ ih =>
  let#[t,a,h1,h2,h3]:=h;show .cons #[t,a,h1,e _ _ h2,e _ _ h3] ih
theorem jc.length{H:Hp}{us:List V}{tl:List (M×Wt)}(h:jc H us tl):dv=tl.length:=by
 induction h with
 | nil=>rfl
 | cons _ _ ih=>simp[ih]
structure zP (H:Hp) (kvs:List (Key×V)) (tl:List (Int×Wt)):Prop where
 no:∀n,iQ tl n=none->c9 kvs^.inl n=none
 yes:∀n t,iQ tl n=!t->∃a,c9 kvs^.inl n=!.ref a/\H a=!.tup t.vals
def jc.pairs(h:jc H us tl):∃ps:List (Key×V),vc H us ps/\ci=tl.length/\∀(i:O)(hi:i<tl.length),∃a,ps.getD i (.inl 0,.cB)=(.inl tl[i].1,¬a)/\H a=!.tup tl[i].2.vals:=by
 induction h with
 | nil=>show#[[],.nil,Z,λi hi=>absurd hi^jf _]
 | @cons u p us tl h _ ih =>
  let#[t,a,h1,h2,h3]:=h;let#[ps,k1,k2,k3]:=ih;show#[(.inl p.1,¬a)::ps,.cons #[t,h1,h2] k1,by simp[k2],λi hi=>?_];cases i with
  | zero=>show#[a,Z,h3]
  | succ i =>
   let#[b,e1,e2]:=k3 i (by simpa using hi);show#[b,by simpa[List.getD] using e1,e2]
def Bt(hi:i<tl.length)(n:M):iQ (tl.take (i+1)) n=if tl[i].1=n then some tl[i].2 else iQ (tl.take i) n:=by unfold iQ;rw[List.take_succ_eq_append_getElem hi,List.foldl_append];rfl
theorem RI{ps:List (Key×V)}(e:ci=tl.length)(h:∀(i:O)(hi:i<tl.length),∃a,ps.getD i (.inl 0,.cB)=(.inl tl[i].1,¬a)/\H a=!.tup tl[i].2.vals):zP H (mW ps) tl:=by
 let main:∀i,i<=tl.length->zP H (e9 (λi=>(ps.getD i (.inl 0,.cB)).1) (λi=>(ps.getD i (.inl 0,.cB)).2) i)^tl.take i:=by
  intro i;induction i with
  | zero =>
   intro _;show#[λn q=>rfl,λn t z=>?_];simp[iQ] at z
  | succ i ih =>
   intro hi;let#[i1,i2]:=ih ∅;let#[a,ha,SC]:=h i ∅;let ev:∀n:M,c9 (e9 (λi=>(ps.getD i (.inl 0,.cB)).1) (λi=>(ps.getD i (.inl 0,.cB)).2) (i+1))^.inl n=if tl[i].1=n then !.ref a else c9 (e9 (λi=>(ps.getD i (.inl 0,.cB)).1) (λi=>(ps.getD i (.inl 0,.cB)).2) i)^.inl n:=λn=>by change c9 (putK _ (ps.getD i (.inl 0,.cB)).1 (ps.getD i (.inl 0,.cB)).2) _=_;rw[ki,ha];by_cases z:tl[i].1=n;rw[if_pos z,if_pos^by rw[z]];rw[if_neg z,if_neg (λy=>z (Sum.inl.inj y).symm)]
   show#[λn hn=>?_,λn t hn=>?_];rw[Bt ∅] at hn;rw[ev];by_cases z:tl[i].1=n;rw[if_pos z] at hn;cases hn;rw[if_neg z] at hn ⊢;show i1 n hn;rw[Bt ∅] at hn;rw[ev];by_cases z:tl[i].1=n;rw[if_pos z] at hn ⊢;cases hn;show#[a,Z,SC];rw[if_neg z] at hn ⊢;show i2 n t hn
 have:=main tl.length^ay _;rw[b9] at this;unfold mW;rw[e];show this
def zP.same(e:az H H'){kvs:List (Key×V)}(h:zP H kvs tl):zP H' kvs tl:=#[h.no,λn t z=>let⟨a,h1,h2⟩:=h.yes n t z;#[a,h1,e _ _ h2]]
def RJ(h:∀p∈tl,p.2.ok){k:M}{t:Wt}(e:iQ tl k=!t):t.ok:=by
 have:∀(l:List (M×Wt))(Xt:Option Wt),(∀p∈l,p.2.ok)->(∀t,Xt=!t->t.ok)->∀t,l.foldl (λXt p=>if p.1=k then !p.2 else Xt) Xt=!t->t.ok:=by
  intro l;induction l with
  | nil=>intro Xt _ ha t ht;show ha t ht
  | cons p l ih =>
   intro Xt hl ha t ht;show ih _ (λq hq=>hl q^d8 _ hq) ?_ t ht;intro t' ht';dsimp only at ht';split at ht';cases ht';show hl p (g7 ..);show ha t' ht'
 show this tl aw h (λj z=>nomatch z) t e
inductive acf(vs:List V)(H:Hp)(Q:VK)(z:XK):Prop|mk(c a:Addr)(v:V)(us:List V)(rs:List Row)(xs:List Int)(tl:List (Int×Wt))(most:Nat)(z:vs=[¬c,¬a,v,.int most])(z:H c=!.lst us)(z:Rows H us rs)(z:(∀r∈rs,r.ok rs.length))(z:H a=!.lst^xs.map V.int)(z:xs.length<=1000)(z:(∀x∈xs,Val x))(z:ace H v tl)(z:(∀p∈tl,p.2.ok))(z:most<=1000)(z:∀t l H',az H H'->H l=none->H' t=!.tup^(qx rs xs (iQ tl) most).vals l->H' l=!.lst^(qx rs xs (iQ tl) most).bL.map V.int->Q (¬t) H')
def TwI(C:ae)(H1:Hp)(c a d x:ae)(v:V)(A:Ta)(tl:List (M×Wt))(most:O)(fin:cH)(k:O)(Y':L2.St)(H':Hp):=∃(m:cH),Y'=[!.ref c,!.ref a,!v,!.int most,!.ref d,!.ref x,none]/\k=most-m.n/\m.n<=most/\az H1 H'/\fE C H' x A m (1000+3*m.n)/\0<=m.pl/\m.bL.length<=m.n/\m.run (iQ tl) (most-m.n)=fin
theorem V9(T:Txt w8 K_ m_):bS P_ w8 K_ m_ b_ fW 6 T.twin.f T.twin.d ["code", "args", "turns", "most"] acf:=by
 show T.twin.F.ok xD (λvs H Q E h=>?_) (λcdv A0 outer s H vs Q E hr h=>?_);let#[c,a,v,us,rs,xs,tl,most,Z,_]:=h;rfl;let#[c,a,v,us,rs,xs,tl,most,Z,hc,cY,hok,ha,P7,hxv,htv,amh,aoH,q]:=h;let xj:=V5 T;let FH:=V6 T;let FI:=V4 T;let FJ:=V1 T;let cl:=T.jS.cl;let Yx:=T.gA;let na2:=T.jj;show#[_,(ak (bF 4 xD.nd^dR (bG B3 (pv 2) kg) rT^bZ (vY Z) Z T.zf BT.yv^aa (pv 2) ai)^ak (bF 5 xD.nd^To (T.jS.mk2 T.gO) xj (hr.mono^by first|decide|lia) rfl T.jS.m T.gO.b .nil jr^aa (pv 0)^aa (pv 1) ai)^ak (lJ bM (PW.pt^jF (bG bR (dB (pv 5) rfl) aE)^gS^bG lK (dB (pv 5) rfl)^pv 3)^gW (aY (BK^GJ (eB hr) (dB (pv 5) rfl)^pv 4) (ao^bA^jg (pv 5) T.jS.cl T.lX.me FH (hr.mono^by first|decide|lia) T.lX.b .nil jr^aa (iG (eB hr) (pv 4) (dB (pv 5) rfl) (λy y=>rfl)) ai) aL)^ao^bA^yp (pv 5) T.jS.cl T.lY.me FI (hr.mono^by first|decide|lia) T.lY.b .nil jr)^ak (bF 6 xD.nd^yp (pv 5) T.jS.cl T.lW.me FJ (hr.mono^by first|decide|lia) T.lW.b .nil jr)^ao^aD^dR (bG rO (aF aA (pv 6) af) aE) (pv 6)^aB fk (aN^aa aE ai)^bC g9 (pv 6) (bK af) cu),?_];change(_:TS) (Ends.mk _ _ _ _) [_,_,_,_,_,_,_] H;obtain⟨fin,ag5⟩:∃f,f=(vI rs xs).run (iQ tl) most:=#[_,rfl];let ami:qx rs xs (iQ tl) most=fin.out:=by rw[ag5];rfl
 rw[ami] at q;let acg:∀k t,iQ tl k=!t->t.ok:=λk t e=>RJ amh e;let tail:∀(v:V)(d:ae)(H1:Hp)(kvs:List (Key×V))(nn:L2.St->Hp->eL),gX H d (.dK kvs) H1->zP H kvs tl ->
   (∀Y H,(KR (Gm (Zu (yj^vP rEq (K1 K_ (eZ 5) "word")^tC^V.str "")^yj^vP (Dr λi j=>V.bl (decide (i<j))) (K1 K_ (eZ 5) "steps")^eZ 3)
      (Lf (S8 (tB^ZW (K1 K_ (eZ 5) "steps")^eZ 4) (IP^Ax T.bu "turn" (RE T.bu) [] E0 (eZ 5)^ql (N3 (eZ 4)^K1 K_ (eZ 5) "steps") qF) NB)
       (IP^Ax T.bu "step" (Rz T.bu) [] E0 (eZ 5) qF)))
     (KR (NF (Ax T.bu "told" (Ir T.bu) [] E0 (eZ 5) qF)^gM 6)
      (NC (tIf (yj^vP rNe (vP (NW K_) (eZ 6)^tC^V.int 0)^tC^V.str "") (eZ 6)
        (vP (vS K_) (K4^ql (tC^V.str "tired") qF)^Nh (Du K_) (eZ 6) (nJ^tC^V.int 1) gU))))
     { nx:=λx H'=>Q V.cB H',rt:=Q }) Y H->nn Y H)->OP T.bu (RC T.bu) E0 (λx H1=>gM 5 x [!V.ref c,!V.ref a,!v,!(V.int ↑most),!V.ref d,none,none] H1 nn) [V.ref c,V.ref a] H1:=by
  intro v d H1 kvs nn n1 RK hnn;let hc1:=n1.keep hc;let IO:=n1.keep ha;let QR:=n1.self;let Yz:=cY.same n1.same;let amj:=RK.same n1.same;show aaH ?_;intro x dx H2 hx hdx UV eH;let T0:az H1 H2:=λb o h=>by rw[eH,cg^aH h hx,cg^aH h hdx];show h
  let hp2:H2 x=!.ins T.bu dx []:=by rw[eH];show j9
  show#[x,dx,c,a,us,rs,xs,Z,hp2,T0 _ _ hc1,Yz.same T0,hok,T0 _ _ IO,P7,hxv,λH3 A tw f1 f2 f3 f4 f5 keep=>#[Z,?_]];let w5:az H1 H3:=λb o h=>keep b o (T0 _ _ h)^aH h hx;let own:∀z o,H1 z=!o->z≠x/\z≠A.d0/\z≠A.d1/\z≠A.l:=λz o h =>
   #[aH h hx,aH (T0 _ _ h) f3,aH (T0 _ _ h) f4,aH (T0 _ _ h) f5]
  let fs:∀{H4 H5:Hp},az H1 H4->Fr x A H4 H5->az H1 H5:=λs4 f b o h=>let⟨o1,o2,o3,o4⟩:=own b o h;f b o (s4 _ _ h) o1 o2 o3 o4;clear eH T0 hp2 keep UV hdx;lk;show hnn _ _ ?_;clear hnn;lk;show pP (TwI T.bu H1 c a d x v A tl most fin) ?_ ?_;show#[most,vI rs xs,Z,by change most=most-0;lia,aV _,w5,tw,Int.le_refl _,ay _,ag5.symm]
  .rintro k Y' H' ⟨m,rfl,rfl,hn,s1,tw,TD,hsl,Iu⟩;clear w5 f1 f2 f3 f4 f5 hc ha cY RK QR hc1 IO Yz;let No:=tw.ob;unfold Gd at No;let hd:=s1 _ _ n1.self;let due:=amj.same s1;let next:∀H4,Fr x A H' H4->fE T.bu H4 x A (m.round^iQ tl) (1000+3*(m.n+1))->m.wd = "" -> m.n<most->TwI T.bu H1 c a d x v A tl most fin (most-(m.n+1)) [!V.ref c,!.ref a,!v,!.int most,!.ref d,!.ref x,none] H4:=by intro H4 f4 t4 hw hlt;let#[k1,k2,k3]:=wU (due:=iQ tl) hw;show#[m.round^iQ tl,Z,by rw[k1],∅,fs s1 f4,by rw[k1];show t4,RH TD tw.ok acg,∅,?_];rw[show most-m.n=(most-(m.n+1))+1 by lia] at Iu;erw[cH.run] at Iu;rw[if_pos hw] at Iu;rw[k1];show Iu
   let stop:(m.wd ≠ "" \/ Not (m.n<most))->m=fin:=λh=>by rcases h with h|h;rw[<- Iu];show(MY h _).symm;rw[show most-m.n=0 by lia] at Iu;show Iu
   let told:∀nm:L2.St->Hp->eL,(∀Y H,(NC (tIf (yj^vP rNe (vP (NW K_) (eZ 6)^tC^V.int 0)^tC^V.str "") (eZ 6)
      (vP (vS K_) (K4^ql (tC^V.str "tired") qF)^Nh (Du K_) (eZ 6) (nJ^tC^V.int 1) gU))
      { nx:=λx H'=>Q V.cB H',rt:=Q }) Y H->nm Y H)->m=fin->Ir T.bu [V.ref x] H' (λx_1 H1=>gM 6 x_1 [!V.ref c,!V.ref a,!v,!(V.int ↑most),!V.ref d,!V.ref x,none] H1 nm) E0:=by
    intro nm hnm e;subst e;show#[x,A,m,_,Z,tw,λt l H2 s2 hl ht hls=>?_];let sH:az H H2:=(n1.same.trans s1).trans s2;let SY:H l=none:=n1.same.free^s1.free hl;clear No hd due;lk;show hnm _ _ ?_;clear hnm;lk;ext hw;show q t l H2 sH SY ?_ hls;rw[ht];unfold cH.out Out.vals;simp only;rw[if_neg hw]
    .rename_i hw t5 H5 n5 t6 H6 n6;show jG (dD.of^n6.keep n5.self) (dD.of n6.self) (by simp) (by simp[fV,HT.gu]) (by simp[fV,HT.gu]) ?_;intro t7 H7 n7;let hw:m.wd = "" := by simpa using hw
     show q t7 l H7 (((sH.trans n5.same).trans n6.same).trans n7.same) SY ?_^n7.keep^n6.keep^n5.keep hls;rw[n7.self];unfold cH.out Out.vals;simp only;rw[if_pos hw];rfl
   walk_at "goq"
   rotate_left
   .rename_i hlt;show told _ (by assumption)^stop (.inr ∅)
   .rename_i hw;show told _ (by assumption)^stop^.inl hw
   ext hw hlt;let hlt:m.n<most:=∅;cases hdu:iQ tl m.n with
   | none =>
    let e1:=due.no _ hdu;let e2:m.round^iQ tl=m.step:=by unfold cH.round cH.uq;rw[hdu]
    rw[e1];rw[e2] at next;walk_at "goq";show#[x,A,m,_,Z,tw,TD,∅,∅,λH4 t4 f4=>?_];walk_at "goq";show#[_,∅,next H4 f4 (t4.le ∅) hw hlt]
   | some t =>
    let#[ta,e1,hta]:=due.yes _ _ hdu;let e2:m.round^iQ tl=(m.turn t).step:=by unfold cH.round cH.uq;rw[hdu]
    rw[e2] at next;rw[if_pos (by rw[e1];rfl)];walk_at "goq";show Xm hd e1 ?_;walk_at "goq";show#[x,ta,A,m,_,t,Z,tw,hta,acg _ _ hdu,∅,λH4 t4 f4=>?_];let amk:=t4.ob;unfold Gd at amk;clear No hd due;walk_at "goq";show#[x,A,m.turn t,_,Z,t4,KD TD^acg _ _ hdu,by rw[(zO m t).2.2.2.1];lia,∅,λH5 t5 f5=>?_];walk_at "goq";show#[_,∅,next H5 (f4.trans f5) (t5.le ∅) hw hlt]
 rcases htv with⟨rfl,rfl⟩|⟨t,ts,rfl,ht,ach⟩
 all_goals k_in
 all_goals lk
 rotate_left
 .let#[ps,hP,TD,hpi]:=ach.pairs;show Xs (bI.of ht) hP ?_;intro d H1 n1;let RK:zP H (mW ps) tl:=RI TD hpi;generalize mW ps=kvs at n1 RK;lk;show tail _ d H1 kvs _ n1 RK (by assumption)
 .rename_i d H1 n1;show tail _ d H1 _ _ n1 #[λy y=>rfl,λy y z=>nomatch z] (by assumption)
inductive RL(K_:aC)(vs:List V)(H:Hp)(Q:VK)(z:XK):Prop|mk(a:Addr)(ns:List Int)(k:Int)(z:vs=[¬a,.int k])(z:bI K_ H a^ns.map V.int)(z:0<=k)(z:∀c:Int,Q (.int c) H)
theorem qY:T.pX∩(1,RL K_):=by exists T.pX,HB,#[a,ns,k,rfl,hS,h0,q],".?SÀ1J*0-:I01-:F",2;let hl:(ns.map V.int).length=ns.length:=aq _;lk;let#[v,hv]:=U1 (ns:=ns) (i:=k) h0 ∅;show cj hS hv ?_;show q _;show q _
theorem RM(x:M):0<=Builtin.bitAnd x 2147483647/\Builtin.bitAnd x 2147483647<2147483648:=by by_cases h:0<=x;rw[xo h ()];let q:=Nat.and_le_right (n:=x.toNat) (m:=(2147483647:M).toNat);lia;rw[PyProof.Rows.bitAnd_np h ()];let q:=Nat.and_le_left (n:=(2147483647:M).toNat) (m:=(Builtin.bitNot x).toNat);lia
inductive Iv(vs:List V)(H:Hp)(Q:VK)(z:XK):Prop|mk(c k:Int)(z:vs=[.int c,.int k])(z:0<=k)(z:k<=2000)(z:∀r:Int,0<=r->r<2147483648->Q (.int r) H)
def b6:T.draw∩(1,Iv):=by exists T.draw,UZ,#[c,k,rfl,h0,h1,q],".?S'yi 0NåFF-:NÐN'ZF 0¼1F-:CjjN§N§C0V¼1FN§¼11¼1",2;lk;show q _ (RM _).1 (RM _).2;show q _ (dI ()).1 (Int.lt_trans (dI ()).2 ())
inductive aci(vs:List V)(H:Hp)(Q:VK)(z:XK):Prop|mk(c k:Int)(z:vs=[.int c,.int k])(z:0<=k)(z:k<=150)(z:∀v H',az H H'->Val v->Q (.int v) H')
theorem CO:T.word∩(2,aci):=by
 exists T.word,Ck,#[c,k,rfl,h0,h1,q],".=2jN§/b6 +0*1F/b6 +0*V1.=3D+`2NæFF+C2+NyNyNæFFFC2*NåFC2-:I3C/b6 +0*V1",4;lk;show#[c,k,Z,h0,∅,λr1 RN RO=>?_];lk;show#[c,_,Z,∅,∅,λr2 Iw Iz=>?_];lk;ext l H1 n1;show#[c,_,Z,∅,∅,λr3 r30 r31=>?_];lk;obtain⟨v,hv,hval⟩:∃v,qG [V.int ((r1*2147483647+r2) % 2 ^ (48:Int).toNat),V.int ((r1*2147483647+r2) % 7),V.int (2 ^ (48:Int).toNat-1-(r1*2147483647+r2) % 5),V.int (1*2 ^ ((r1*2147483647+r2) % 48).toNat)] (r3 % 4)=some (.int v)/\Val v:=by
  let h4:r3 % 4=0\/r3 % 4=1\/r3 % 4=2\/r3 % 4=3:=∅;let U5:(2:M) ^ (48:M).toNat=281474976710656:=()
  rcases h4 with e|e|e|e<;>rw[e];show#[_,Z,by rw[U5];show dI ()];show#[_,Z,by constructor<;>lia];show#[_,Z,by rw[U5];constructor<;>lia];show#[_,Z,?_];rw[Int.one_mul];let b:=dI (a:=r1*2147483647+r2) (b:=48) ();show#[Int.le_trans ()^zk _,EM ∅]
 show cj (bI.of n1.self) hv ?_;show q _ _ n1.same hval
def Row.head:bv->List V
 | .num d k v _=>[.str "num", .int d,.int k,.int v]|.copy d k i _=>[.str "copy", .int d,.int k,.int i]|.op d s k i j _=>[.str "op", .int d,.str s,.int k,.int i,.int j]
 | .out i _=>[.str "out", .int i]|.fork i _ _=>[.str "fork", .int i]|.look i _=>[.str "look", .int i]|.mark _=>[.str "mark"]|.back i=>[.str "back", .int i]
def Row.hok:bv->eL
 | .num d k v _=>ja d/\fG k/\isVal v
 | .copy d k i _=>ja d/\fG k/\fG i
 | .op d s k i j _=>ja d/\s∈signs/\fG k/\fG i/\fG j
 | .out i _=>fG i
 | .fork i _ _=>fG i
 | .look i _=>fG i
 | .mark _=>True
 | .back i=>fG i
def acj(H:Hp)(v:V)(r:bv):=∃a,v=¬a/\H a=!.tup r.head
abbrev ag6(H:Hp):List V->List bv->Prop:=Paired^acj H
def KH{i:M}(h0:0<=i)(h1:i<9):∃ch,qG ("+-*/<=&|^" : bc).cps.toList i=!ch/\(#[#v[ch]]:bc)∈signs:=by
 let#[ch,PP,mch]:=zg (xs:=("+-*/<=&|^" : bc).cps.toList) (i:=i) h0 h1;let all:∀ch∈("+-*/<=&|^" : bc).cps.toList,(#[#v[ch]]:bc)∈signs:=()
 show#[ch,PP,all ch mch]
def YA(ky:bc)(x:V)(as:List V):=as.length<=10/\∀d,ja d->∃r:bv,r.isD/\r.hok/\r.head=.str ky::.int d::x::as
def ag8(x y:V)(as:List V):fV (x::y::as) aw^some 1=[x]:=by unfold fV;rw[HT.jq,show(!(1:M))=!((1:O):M) from Z,HT.iF];simp
def ag9(x y:V)(as:List V):fV (x::y::as) (!1) aw=y::as:=by unfold fV;rw[HT.jq,show(!(1:M))=!((1:O):M) from Z,HT.iF];simp
theorem ack(x y:V)(as:List V):Not (HT.gu (x::y::as).length 0 aw=0/\HT.gu (x::y::as).length (x::y::as).length^some 1=(x::y::as).length):=λh=>by let h1:=h.2;rw[show(!(1:M))=!((1:O):M) from Z,HT.iF] at h1;erw[ck] at h1;lia
theorem acm(x y:V)(as:List V):Not (HT.gu (x::y::as).length 0^some 1=0/\HT.gu (x::y::as).length (x::y::as).length aw=(x::y::as).length):=λh=>by let h1:=h.1;rw[show(!(1:M))=!((1:O):M) from Z,HT.iF] at h1;erw[ck] at h1;lia
theorem CP{X:TE}{e:ae}{x:V}{as:List V}{d:M}{o0 o1 o2 o3:Option V}(he:H e=!.tup (x::y::as))(hl:as.length<=10)(hX:∀H Q,Q (.int d) H->X [o0,o1,o2,o3,!.ref e] H Q)
  (k:∀t H2,az H H2->H2 t=!.tup (x::.int d::y::as)->Q (¬t) H2):
  vP (vS K_) (vP (vS K_) (Nh (Du K_) (eZ 4) gU^nJ^tC^V.int 1)^K4^ql X qF) (Nh (Du K_) (eZ 4) (nJ^tC^V.int 1) gU) [o0,o1,o2,o3,!.ref e] H Q:=by show TJ^TJ^aey^Om^DI^Ov^s_c^Jl^vW (dD.of he) (ack _ _ _) ?_;intro t1 H1 n1;rw[ag8] at n1;show aem^uZ^hX _ _^Jg^aak (dz Z) ?_;intro t2 H2 n2;show jG (dD.of^n2.keep n1.self) (dD.of n2.self) (by simp) (by simp) (by simp) ?_;intro t3 H3 n3;let he3:=n3.keep^n2.keep^n1.keep he;show aey^Om^Ov^s_c^Jl^DI^vW (dD.of he3) (acm _ _ _) ?_;intro t4 H4 n4;rw[ag9] at n4;show jG (dD.of^n4.keep n3.self) (dD.of n4.self) (by simp) (by simp) (by simp;lia) ?_;intro t5 H5 n5;show k t5 H5 ((((n1.same.trans n2.same).trans n3.same).trans n4.same).trans n5.same) n5.self
inductive Wa(vs:List V)(H:Hp)(Q:VK)(z:XK):Prop|mk(c:Int)(z:vs=[.int c])(z:∀(p:Addr)(us:List V)(hs:List Row)(a:Addr)(r:Row)(H':Hp),az H H'->H' p=!.lst (us++[¬a])->ag6 H' us hs->hs.length<=1->H' a=!.tup r.head->(∀r∈hs,r.hok/\r.isD)->r.hok->Q (¬p) H')
theorem RP:T.heads∩(3,Wa):=by
 exists T.heads,kr,#[c,rfl,q],".=1IDbbb@C/b6 +0@.v2T¥@R`/b6 +1*¡0^!Db@N'Tf C/b6 +1@F.=3C/b6 +0@.?i3.=4>A+^Ë~C/b6 +0@+E2+E2*E2¢?U3-=4>A+E2*/CO +0@¢?U3-=4>A+E2*E2.?UC/b6 +0@-:D+YY£4Q>@p4Q*YY£4Q>@p4Q-:D*YY£4Q>*1p4Q.?i3-:D*>A*E2.?i3-:D*>A*E2½?XcU3dUC/b6 +0@-:D*>A*E2.?i3-:D*>A*E2-:D*>g",5,"_law_k",["_law_cell"],[0],["_law_cell"],lP (K:=K_) rfl;lk;ext l1 H1 n1;show#[c,0,Z,(),(),λr1 RN RO=>?_];lk;let#[sd,U9,msd]:=kE (ns:=[2,2,0,1]) (i:=r1 % 4) ∅ (by change r1 % 4<4;lia);show cj (bI.of n1.self) U9 ?_;let sd3:ja sd:=by simp at msd;rcases msd with rfl|rfl|rfl<;>show#[(),()]
 lk;show xA (λi ys H'=>az H H'/\∃ks:List M,ys=ks.map V.int/\eI=i/\∀k∈ks,fG k) #[n1.same,[],Z,Z,λz h=>nomatch h] ?_ ?_
 .rintro i ys H2 hi ⟨s2,ks,rfl,tU,hkb⟩;show#[di (by rw[aq];lia),?_];lk;show#[c,_,Z,∅,∅,λr2 Iw Iz=>?_];lk;ext l2 H3 n3;show#[c,4,Z,(),(),λr3 r30 r31=>?_];lk;let#[m,hm,mm]:=kE (ns:=[3,8]) (i:=r3 % 4 / 3) ∅ (by change r3 % 4 / 3<2;lia);show cj (bI.of n3.self) hm ?_;let hm8:0<m/\m<=8:=by simp at mm;lia
  lk;let b:=dI (a:=r2) (b:=m) ∅;show#[s2.trans n3.same,ks++[r2 % m],by rw[bq];rfl,by simp[tU],λk hk=>?_];rcases aM.mp hk with hk|hk;show hkb k hk
  .rw[aJ.mp hk];show#[b.1,∅]
 .rintro ys H2 ⟨s2,ks,rfl,tU,hkb⟩ p H3 n3;obtain⟨k0,k1,k2,rfl⟩:∃a b c,ks=[a,b,c]:=by
   match ks,tU with
   | [a,b,c],_=>show#[a,b,c,Z]
  let b0:=hkb k0 (by simp);let b1:=hkb k1 (by simp);let b2:=hkb k2 (by simp);let s3:az H H3:=s2.trans n3.same;let hp3:H3 p=!.lst [.int k0,.int k1,.int k2]:=n3.self;clear n3 n1;lk;show#[c,5,Z,(),(),λr4 r40 r41=>?_];lk
  .rename_i h6;show#[c,6,Z,(),(),λr5 r50 r51=>?_];lk;let#[ch,PP,mch]:=KH (i:=r5 % 9) ∅ ∅;show Oh () PP ?_;lk;ext e1 H4 n4;let hp4:=n4.keep hp3;show yC (λY' H'=>az H4 H'/\E4 λe ky x as=>Y'=[!.int c,!.int sd,!.ref p,!.int (r4 % 16),!.ref e]/\H' e=!.tup (.str ky::x::as)/\YA ky x as) ?_ ?_
   .lk
    .show#[c,7,Z,(),(),λv H5 s5 hv=>?_];lk;ext e2 H6 n6;show#[s5.trans n6.same,e2,_,_,_,Z,n6.self,by simp,λd hd=>#[.num d k0 v 0,trivial,#[hd,b0,hv],Z]]
    .show#[az.refl _,e1,_,_,_,Z,n4.self,by simp,λd hd=>#[.op d #[#v[ch]] k0 k1 k2 0,trivial,#[hd,mch,b0,b1,b2],Z]]
   rintro _ H5 ⟨s5,e2,ky,x,as,rfl,he2,hD⟩;let hp5:=s5 _ _ hp4;show yC (λY' H'=>az H5 H'/\E4 λe ky x as=>Y'=[!.int c,!.int sd,!.ref p,!.int (r4 % 16),!.ref e]/\H' e=!.tup (.str ky::x::as)/\YA ky x as) ?_ ?_
   .lk;ext e3 H6 n6;show#[n6.same,e3,_,_,_,Z,n6.self,by simp,λd hd=>#[.copy d k0 k1 0,trivial,#[hd,b0,b1],Z]];show#[az.refl _,e2,_,_,_,Z,he2,hD]
   clear he2 hD;rintro _ H6 ⟨s6,e,ky,x,as,rfl,he,hDl,hD⟩;let sH6:az H H6:=((s3.trans n4.same).trans s5).trans s6;clear hp3 hp4 hp5 n4 s5 s6;show aej^ajB^aah^TJ^TJ^s_call^uZ^aao^uZ^s_c^Jg ?_;show#[c,8,Z,(),(),λr6 r60 r61=>?_];show s_c^s_i ()^s_c^ael ?_;show aek^BZ (λh=>?_) (λh=>?_);show W8^W9^uZ (CP he hDl (d:=0) (λH Q h=>s_c h) λt1 H7 s7 ht1=>uZ (CP (s7 _ _ he) hDl (d:=1) (λH Q h=>s_c h) λt2 H8 s8 ht2=>Jg^Og (dz Z) ?_));intro l H9 n9;let#[ra,a1,a2,a3]:=hD 0 #[(),()];let#[rb,c1,c2,c3]:=hD 1 #[(),()];show q l [¬t1] [ra] t2 rb H9 (((sH6.trans s7).trans s8).trans n9.same) n9.self (.cons #[t1,Z,by rw[a3];show n9.keep^s8 _ _ ht1] .nil) (by simp) (by rw[c3];show n9.keep ht2) (λr hr=>?_) c2;rw[aJ.mp hr];show#[a2,a1];show L2.aaf^W8^W9^uZ (CP he hDl (d:=sd) (λH Q h=>aap h) λt1 H7 s7 ht1=>Jg^Og (dz Z) ?_);intro l H9 n9;let#[ra,a1,a2,a3]:=hD sd sd3;show q l [] [] t1 ra H9 ((sH6.trans s7).trans n9.same) n9.self .nil (by simp) (by rw[a3];show n9.keep ht1) (λr hr=>nomatch hr) a2
  .rename_i t1 H4 n4 l1 H5 n5;show q l1 [] [] t1 (.fork k0 0 0) H5 ((s3.trans n4.same).trans n5.same) n5.self .nil (by simp) (n5.keep n4.self) (λr hr=>nomatch hr) b0
  .rename_i t1 H4 n4 l1 H5 n5;show q l1 [] [] t1 (.out k0 0) H5 ((s3.trans n4.same).trans n5.same) n5.self .nil (by simp) (n5.keep n4.self) (λr hr=>nomatch hr) b0
  .show#[c,9,Z,(),(),λr6 r60 r61=>?_];lk;ext t1 H4 n4 l1 H5 n5;show q l1 [] [] t1 (.back k0) H5 ((s3.trans n4.same).trans n5.same) n5.self .nil (by simp) (n5.keep n4.self) (λr hr=>nomatch hr) b0
  .rename_i s4 _ t1 H4 n4 l1 H5 n5;show q l1 [] [] t1 (.look k0 0) H5 (((s3.trans s4).trans n4.same).trans n5.same) n5.self .nil (by simp) (n5.keep n4.self) (λr hr=>nomatch hr) b0
  .rename_i s4 _ t1 H4 n4 l1 H5 n5;show q l1 [] [] t1 (.mark 0) H5 (((s3.trans s4).trans n4.same).trans n5.same) n5.self .nil (by simp) (n5.keep n4.self) (λr hr=>nomatch hr) trivial
def HC(H:Hp)(u:V)(x:bv×Option M):=∃t a,u=¬t/\H t=!.tup [¬a,xg x.2]/\H a=!.tup x.1.head
abbrev HCs(H:Hp):List V->List (bv×Option M)->Prop:=Paired^HC H
def HC.same{x:bv×Option M}(e:az H H')(h:HC H v x):HC H' v x:=let⟨t,a,e1,e2,e3⟩:=h;#[t,a,e1,e _ _ e2,e _ _ e3]
theorem HCs.same{xs:List (bv×Option M)}(e:az H H')(h:HCs H vs xs):HCs H' vs xs:=dG (λz z q=>q.same e) h
theorem fh{α β:Type}{F:α->β->eL}:∀{xs:List α}{ys:List β}{xs':List α}{Sc:List β},Paired F xs ys->Paired F xs' Sc->Paired F (xs++xs') (ys++Sc)
 | _,_,_,_,.nil,h=>h
 | _,_,_,_,.cons a t,h=>.cons a^fh t h
theorem RQ(us:List V)(v:V):fV (us++[v]) aw^some (-1)=us:=by
 let e:HT.gu (us++[v]).length (us++[v]).length^some (-1)=us.length:=by change(if(-1:M)<0 then((-1:M)+(((us++[v]).length:O):M)).toNat else min ((-1:M)).toNat (us++[v]).length)=dv;rw[if_pos (),aT,iB];lia
 unfold fV;rw[e,HT.jq,uC,Nat.sub_zero,List.take_left'];rfl
theorem Wb(us:List V)(v:V):qG (us++[v]) (-1)=!v:=by unfold qG NV;rw[if_neg (),if_pos (by simp;lia)];change(us++[v])[((-1:M)+((us++[v]).length:M)).toNat]?=!v;rw[show((-1:M)+((us++[v]).length:M)).toNat=dv by simp;lia];simp
def Row.to(q p:M):bv->bv
 | .num d k v _=>.num d k v q|.copy d k i _=>.copy d k i q|.op d s k i j _=>.op d s k i j q|.out i _=>.out i q|.fork i _ _=>.fork i q p|.look i _=>.look i q|.mark _=>.mark q|.back i=>.back i
def Row.ahb{p:M}(h:r.hok)(hq:qf n q)(hp:qf n p):(r.to q p).ok n:=by
 cases r
 case num=>show#[h.1,h.2.1,h.2.2,hq]
 case copy=>show#[h.1,h.2.1,h.2.2,hq]
 case op=>show#[h.1,h.2.1,h.2.2.1,h.2.2.2.1,h.2.2.2.2,hq]
 case out=>show#[h,hq]
 case fork=>show#[h,hq,hp]
 case look=>show#[h,hq]
 case mark=>show hq
 case back=>show h
inductive RS(vs:List V)(H:Hp)(Q:VK)(z:XK):Prop|mk(c p n:Int)(z:vs=[.int c,.int 10,.int p,.int n])(z:0<=p)(z:p<n)(z:∀r:Int,0<=r->r<=n->Q (.int r) H)
theorem MZ:T.target∩(2,RS):=by
 exists T.target,L5,#[c,p,n,rfl,h0,h1,q],".?³C/b6 +0*1-:V2-:`/b6 +0*V13",4;lk;show#[c,10,Z,(),(),λr1 RN RO=>?_];lk;show q _ ∅ ∅
 .show#[c,_,Z,(),(),λr2 Iw Iz=>?_];lk;let b:=dI (a:=r2) (b:=n) ∅;show q _ b.1 ∅
inductive acn(K_:aC)(vs:List V)(H:Hp)(Q:VK)(z:XK):Prop|mk(a:Addr)(ns:List Int)(z:vs=[¬a])(z:H a=!.lst^ns.map V.int)(z:ns.length<=100)(z:∀p us rs H',az H H'->H' p=!.lst us->Rows H' us rs->(∀r∈rs,r.ok rs.length)->1<=rs.length->rs.length<=201->Q (¬p) H')
def CdI(H1:Hp)(us:List V)(a hh ch:ae)(i:O)(Y':L2.St)(H':Hp):=az H1 H'/\∃(cs:List V)(rs:List bv)(x y z u v:Option V),Y'=[!.ref a,!.ref hh,x,y,!.ref ch,z,u,v]/\H' ch=!.lst cs/\Rows H' cs rs/\bp=i/\∀r∈rs,r.ok (dv+1:M)
theorem Wc:T.code∩(4,acn K_):=by
 exists T.code,iK,#[a,ns,rfl,ha,hn,q],".=1P.LH0B2.=3/RP *2-=1WW1¬Hl3]_R>+0*wD*>+I3_*2.=4P.L¥*J*1B5.ÌI15ô[B6aB2.=7V5¢?SÍ2w-=7/MZ +2b+5*J*1-xK<6-GO4*Y6>+7*`/b6 +2@VJ*1-xK<6-GO4*6-GO4*Y6>*7-:W4D*>A*C/b6 +J*0@",8;lk;ext h0 H0 n0;let Os:(ns.map V.int).length=ns.length:=aq _;show f_list (xs:=ns.map V.int) (λi Y' H'=>az H H'/\E5 λ(hh:ae)(us:List V)(hs:List (bv×Option M))(x y:Option V)=>A5 (Y'=[!.ref a,!.ref hh,x,y,none,none,none,none]) (H' hh=!.lst us) (HCs H' us hs) (hs.length<=2*i) (∀z∈hs,z.1.hok/\(z.2=aw->z.1.isD))) ?_ ?_ ?_ ?_;show#[n0.same,h0,[],[],_,_,Z,n0.self,.nil,ay _,λv h=>nomatch h];rintro i Y' H' hi ⟨sm,_⟩;show bI.of^sm _ _ ha
 .rintro i x Y' H1 hx ⟨s1,hh,us,hs,x1,y1,rfl,hhh,hhc,hhl,aco⟩;rw[bJ] at hx;let#[z,hz,Z]:=cU.mp hx;let hi:i<ns.length:=(gq hz).1;let zw:=hhc.length;clear n0;lk;show#[z,Z,λp us2 Jn a0 r0 H2 s2 hp KB Pm ha0 ahc hr0=>?_];let ahd:=s2 _ _ hhh;clear hhh;lk;ext c3 H3 n3;rw[RQ] at n3;let N0:=KB.length;show iI (xs:=us2) (λi ys H'=>az H3 H'/\HCs H' ys ((Jn.take i).map λr=>(r,none))) #[az.refl _,.nil] ?_ ?_ ?_;rintro i ys H' hi ⟨sm,_⟩;show bI.of^sm _ _ n3.self
  .rintro i x ys H4 hx ⟨s4,hys⟩;let#[r,hr,ra,Z,qg]:=bw KB hx;let Nw:=hys.length;rw[aq,cC] at Nw;show#[di ∅,?_];show Oz^Tu ?_;lk;ext t5 H5 n5;show#[s4.trans n5.same,?_];rw[b8,hr,bq];show fh (hys.same n5.same)^.cons #[t5,ra,Z,n5.self,n5.keep^s4 _ _^n3.keep qg] .nil
  .rintro ys H4 ⟨s4,hys⟩ l5 H5 n5;rw[N0,b9] at hys;let Nw:=hys.length;rw[aq] at Nw;let aru:=n5.keep^s4 _ _^n3.keep ahd;let hp5:=n5.keep^s4 _ _^n3.keep hp;let ha5:=n5.keep^s4 _ _^n3.keep ha0;let amm:=((((hhc.same s2).same n3.same).same s4).same n5.same);let s15:az H1 H5:=((s2.trans n3.same).trans s4).trans n5.same;clear ahd hp ha0 hhc KB n3 s4 s2;lk;ext l6 H6 n6;show cj (bI.of^n6.keep hp5) (Wb _ _) ?_;lk;ext t7 H7 n7 l8 H8 n8 l9 H9 n9;let s59:az H5 H9:=((n6.same.trans n7.same).trans n8.same).trans n9.same;show#[(s1.trans s15).trans s59,l9,_,(hs++Jn.map λr=>(r,none))++[(r0,!z)],_,_,Z,n9.self,?_,by simp;lia,λy hy=>?_];show fh (fh (amm.same s59)^(hys.same n5.same).same s59)^.cons #[t7,a0,Z,n9.keep^n8.keep n7.self,s59 _ _ ha5] .nil;rcases aM.mp hy with hy|hy;rcases aM.mp hy with hy|hy;show aco y hy;let#[r,hr,Z]:=aQ.mp hy;show#[(ahc r hr).1,λv=>(ahc r hr).2];rw[aJ.mp hy];show#[hr0,λe=>nomatch e]
 .rintro Y' H1 ⟨s1,hh,us,hs,x1,y1,rfl,hhh,hhc,hhl,aco⟩;rw[Os] at hhl;let zw:=hhc.length;clear n0;lk;ext ch H2 n2;show Jj (CdI H1 us a hh ch) ?_ ?_ ?_;show#[n2.same,[],[],_,_,_,_,_,Z,n2.self,.nil,Z,λv h=>nomatch h]
  .rintro i Y' H3 hi ⟨s3,cs,rs,x3,y3,z3,u3,v3,rfl,hcs,cY,hrl,Fc⟩;let hi:i<us.length:=∅;let hcl:=cY.length;let#[hd,hhd,#[t,PQ,hu,ht,SC]]:=bw hhc (show us[i]?=some us[i] by simp);let#[r,oc]:=hd;let acp:=aco _^jd hhd;simp only at acp ht SC;let amn:=s3 _ _ hhh;let ht3:=s3 _ _ ht;let M0:=s3 _ _ SC;let hix:qG us (0+(i:M))=!.ref t:=by rw[<- hu,Int.zero_add];show(dM (j:=i)^by simp)
   let amo:H1 ch=none:=n2.1;clear n2 ht SC;lk;show cj (bI.of amn) hix ?_;lk;show yC (λY' H'=>H'=H3/\∃q:M,0<=q/\q<=dv/\Y'=[!.ref a,!.ref hh,!xg oc,y3,!.ref ch,!.int (0+(i:M)),!.ref PQ,!.int q]) ?_ ?_
   .cases oc with
    | none =>
     erw[xg];lk;show#[Z,_,∅,∅,Z]
    | some z =>
     erw[xg];lk;show#[z,_,_,Z,∅,∅,λr h0 h1=>?_];show#[Z,_,h0,h1,Z]
   rintro _ H4 ⟨rfl,qq,hq0,hq1,rfl⟩;let fin:∀(H':Hp)(ra:ae)(p:M),az H4 H'->0<=p->p<=dv->H' ra=!.tup (r.to qq p).vals->∀H'',mT H' ch (.lst (cs++[¬ra])) H''->CdI H1 us a hh ch (i+1) [!.ref a,!.ref hh,!xg oc,y3,!.ref ch,!.int (0+(i:M)),!.ref PQ,!.int qq] H'':=by
    intro H' ra p s4 hp0 hp1 qg H'' put;let GE:=s4 _ _ hcs;let tt:bX H' H'':=λb xs e=>put.keep (cJ e GE (by intro z;cases z)) e;show#[put.same (s3.trans s4) amo,_,rs++[r.to qq p],_,_,_,_,_,Z,put.self,fh (Rows.fQ tt^cY.same s4)^.cons #[ra,Z,tt _ _ qg] .nil,by simp[hrl],λx hx=>?_];rcases aM.mp hx with hx|hx;show Fc x hx
    .rw[aJ.mp hx];show Row.ahb acp.1 #[hq0,∅] #[hp0,∅]
   by_cases Ku:∃i q p,r=.fork i q p
   .let#[i',q',p',Z]:=Ku;erw[Row.head] at M0;lk;cases oc with
    | none=>show(acp.2 Z).elim
    | some z =>
     erw[xg];show#[z,12,Z,(),(),λr1 RN RO=>?_];lk;ext t5 H5 n5;let b:=dI (a:=r1) (b:=(dv:M)+1) ∅;show jG (dD.of^n5.keep M0) (dD.of n5.self) (by simp) (by simp) (by simp) ?_;intro t6 H6 n6;lk;ext H7 p7;show fin H6 t6 (r1 % ((dv:M)+1)) (n5.same.trans n6.same) b.1 ∅ n6.self H7 p7
   by_cases hbk:∃i,r=.back i
   .let#[i',Z]:=hbk;erw[Row.head] at M0;lk;ext H5 p5;show fin H4 PQ 0 (az.refl _) ∅ ∅ M0 H5 p5
   obtain⟨ky,rest,hh,k1,k2,hv,arw⟩:∃ky rest,r.head=.str ky::rest/\Not (ky = "fork" )/\ Not (ky = "back" )/\ (r.to qq 0).vals=r.head++[.int qq]/\rest.length<=10:=by
    cases r
    case fork i q p=>show absurd #[_,_,_,Z] Ku
    case back i=>show absurd #[_,Z] hbk
    all_goals show#[_,_,Z,(),(),Z,by simp]
   rw[hh] at M0;lk;ext t5 H5 n5;show jG (dD.of^n5.keep M0) (dD.of n5.self) (by simp) (by simp) (by simp;lia) ?_;intro t6 H6 n6;lk;ext H7 p7;show fin H6 t6 0 (n5.same.trans n6.same) ∅ ∅ (by rw[hv,hh];show n6.self) H7 p7
  .rintro Y' H3 ⟨s3,cs,rs,x3,y3,z3,u3,v3,rfl,hcs,cY,hrl,Fc⟩;let hcl:=cY.length;let hrl:bp=us.length:=∅;let Vn:=s3 _ _^s1 _ _ ha;clear n2;lk;show#[_,13,Z,(),(),λr1 RN RO=>?_];lk;ext t4 H4 n4 l5 H5 n5 l6 H6 n6;show q l6 _ (rs++[.back (r1 % 3)]) H6 ((((s1.trans s3).trans n4.same).trans n5.same).trans n6.same) n6.self ?_ ?_ (by simp) (by simp;lia);show fh (((cY.same n4.same).same n5.same).same n6.same)^.cons #[t4,Z,n6.keep^n5.keep n4.self] .nil
   .intro r hr;rw[aT,iB,hrl];rcases aM.mp hr with hr|hr;show Fc r hr
    .rw[aJ.mp hr];show#[∅,∅]
theorem bits_le(h0:1<=n)(h1:n<=1000):0<((Builtin.Int.intBits n:O):M)/\((Builtin.Int.intBits n:O):M)<=48:=by unfold Builtin.Int.intBits;rw[if_neg (by simp;lia)];have:n.natAbs.log2<10:=(Nat.log2_lt ∅).mpr ∅;lia
inductive acq(vs:List V)(H:Hp)(Q:VK)(z:XK):Prop|mk(c n:Int)(z:vs=[.int c,.int n])(z:1<=n)(z:n<=1000)(z:∀(t:Addr)(wt:Wt)(H':Hp),az H H'->H' t=!.tup wt.vals->wt.ok->Q (¬t) H')
theorem Wd:T.what∩(2,acq):=by
 exists T.what,xE,#[c,n,rfl,h0,h1,q],".=2C/b6 +0@.=3`/b6 +0@IDb@C/b6 +0@.?i2-:>A+C/b6 +0@+`/b6 +0@IDb@2*3.?U2-:>A*3¢?³C/b6 +0@-=3`/b6 +0@õ'PySem.F.plainAttrs_int 'PyProof.Rows.slot_int_bit_length 'PyProof.Rows.type_int_bit_length 'Uv 1-:>A*3",4;lk;show#[c,20,Z,(),(),λr1 RN RO=>?_];lk;show#[c,21,Z,(),(),λr2 Iw Iz=>?_];lk;ext l1 H1 n1;show#[c,22,Z,(),(),λr3 r30 r31=>?_];lk;let#[m,hm,mm]:=kE (ns:=[48,3]) (i:=r3 % 2) ∅ (by change r3 % 2<2;lia);show cj (bI.of n1.self) hm ?_;let arx:0<m/\m<=48:=by simp at mm;lia
 let b2:=dI (a:=r2) (b:=m) ∅;lk
 .rename_i h2;show#[c,23,Z,(),(),λr4 r40 r41=>?_];lk;show#[c,24,Z,(),(),λr5 r50 r51=>?_];lk;ext l3 H3 n3;let#[m2,Ki,mm2]:=kE (ns:=[8,3]) (i:=r1 % 4) ∅ (by change r1 % 4<2;lia);show cj (bI.of n3.self) Ki ?_;let hm8:0<m2/\m2<=8:=by simp at mm2;lia
  lk;ext t4 H4 n4;let b5:=dI (a:=r5) (b:=m2) ∅;show q t4 (.box (r4 % 2) (r5 % m2) (r2 % m)) H4 ((n1.same.trans n3.same).trans n4.same) n4.self #[∅,#[b5.1,∅],b2.1,∅]
 .rename_i t4 H4 n4;show q t4 (.mark (r2 % m)) H4 (n1.same.trans n4.same) n4.self #[b2.1,∅]
 .show yC (λY' H'=>H'=H1/\∃b:M,0<=b/\b<48/\Y'=[!.int c,!.int n,!.int (r1 % 4),!.int b]) ?_ ?_
  .lk;show#[c,25,Z,(),(),λr4 r40 r41=>?_];lk
   .show#[c,26,Z,(),(),λr5 r50 r51=>?_];let bl:=bits_le h0 h1;lk;let b5:=dI (a:=r5) (b:=((Builtin.Int.intBits n:O):M)) bl.1;show#[Z,_,b5.1,∅,Z]
   .show#[Z,_,b2.1,∅,Z]
  rintro _ H3 ⟨rfl,b,hb0,hb1,rfl⟩;lk;ext t4 H4 n4;show q t4 (.place b) H4 (n1.same.trans n4.same) n4.self #[hb0,hb1]
inductive acr(vs:List V)(H:Hp)(Q:VK)(z:XK):Prop|mk(c:Int)(z:vs=[.int c])(z:∀(p:Addr)(xs:List Int)(H':Hp),az H H'->H' p=!.lst^xs.map V.int->xs.length<=8->(∀x∈xs,Val x)->Q (¬p) H')
theorem We:T.args∩(3,acr):=by
 exists T.args,U0,#[c,rfl,q],"-:hT¥*C/b6 +0@R/CO +1*¡0",1,"_law_k",["_law_cell"],[0],["_law_cell"];lk;show#[c,59,Z,(),(),λr1 RN RO=>?_];lk;show xA (λi ys H'=>az H H'/\∃ks:List M,ys=ks.map V.int/\eI=i/\∀k∈ks,Val k) #[az.refl _,[],Z,Z,λz h=>nomatch h] ?_ ?_
 .rintro i ys H2 hi ⟨s2,ks,rfl,tU,hkb⟩;show#[di (by rw[aq];lia),?_];lk;show#[c,_,Z,∅,∅,λv H3 s3 hv=>?_];show#[s2.trans s3,ks++[v],by rw[bq];rfl,by simp[tU],λk hk=>?_];rcases aM.mp hk with hk|hk;show hkb k hk;rw[aJ.mp hk];show hv
 .rintro ys H2 ⟨s2,ks,rfl,tU,hkb⟩ p H3 n3;show q p ks H3 (s2.trans n3.same) n3.self ∅ hkb
def Out.FL(o:Out):=(o.tag = "" \/ o.tag = "back" \/ o.tag = "cry" \/ o.tag = "tired")/\o.bL.length<=10000
def Out.shM{o:Out}(h:o.FL):Sh 2 o.data:=by
 let t0:PyData.strOk "" = true:=()
 let t1:PyData.strOk "back" = true:=()
 let t2:PyData.strOk "cry" = true:=()
 let t3:PyData.strOk "tired" = true:=()
 show Sh.tup λd hd=>?_;erw[aP,d9,or_false] at hd;rcases hd with e|e|e|e<;>rw[e]
 .rcases h.1 with e|e|e|e<;>rw[e];show Sh.str t0;show Sh.str t1;show Sh.str t2;show Sh.str t3
 .show Sh.ints
 .cases o.val;show Sh.cB;show .int _
 .show .int _
def Out.rdM{a:ae}{o:Out}(ha:H a=!.tup^o.vals l)(hl:H l=!.lst^o.bL.map V.int):RD K_ H (¬a) o.data:=by show .tup (dD.of ha)^.cons (.str _)^.cons (.lst (bI.of hl)^DN.ints _)^.cons ?_^.cons (.int _) .nil;cases o.val;show .cB;show .int _
inductive Wf(vs:List V)(H:Hp)(Q:VK)(z:XK):Prop|mk(i:Int)(z:vs=[.int i])(z:Q (.bl true) H)
def zQ:T.whole∩(1,Wf):=by exists T.whole,Qp,#[n,rfl,q],"-:ç´+0*!èé´+0*!",1,rL (v:=.ty "int") rfl T.XM BT.W5 rfl,rL (v:=.ty "bool") rfl T.abd BT.Z2 rfl;lk;show q
inductive Wg(K_:aC)(vs:List V)(H:Hp)(Q:VK)(z:XK):Prop|mk(a b l m:Addr)(o:Out)(z:vs=[¬a,¬b])(z:H a=!.tup^o.vals l)(z:H l=!.lst^o.bL.map V.int)(z:H b=!.tup^o.vals m)(z:H m=!.lst^o.bL.map V.int)(z:o.FL)(z:∀H',az H H'->Q (.bl true) H')
theorem RT:T.right∩(2,Wg K_):=by
 exists T.right,Qq,#[a,b,l,m,o,rfl,ha,hl,hb,hm,hok,q],"ö?Xzµ¦´+0*!zS¿J*0Fªµ¦´+<0*!-n½?Xzµ¦´+<0*!ªµ¦/zQ *<0-n.?¦m!'T.afi 'BT.aeC *¬H<0Ré/zQ *0-n½?XcSÍ<0wdµ¦/zQ *<0-n-:ÎÆ01Ï",2,rL (v:=.ty "tuple") rfl T.kW BT.kR rfl,rL (v:=.ty "list") rfl T.oY BT.qH rfl,rL (v:=.ty "str") rfl T.afj BT.aec rfl,Lu rfl;let sh:=Out.shM hok;let hol:=hok.2;let rda:∀H',az H H'->RD K_ H' (¬a) o.data:=λH' s=>Out.rdM (s _ _ ha)^s _ _ hl;let rdb:∀H',az H H'->RD K_ H' (¬b) o.data:=λH' s=>Out.rdM (s _ _ hb)^s _ _ hm;let#[tag,bL,val,n]:=o;erw[Out.vals] at ha hb;lk;show absurd Z (by assumption)
 .show#[n,Z,?_];lk
 ext H1 s1;let IO:=s1 _ _ ha;let NE:=s1 _ _ hl;show abe (λz=>.bl bj) (bI.of NE) ∅ (λx z Q h=>?_) ?_
 .lk;show#[x,Z,?_];lk;show h
 intro p H2 n2;lk;show aeF (bs:=bL.map λz=>false) (bI.of (by rw[n2.self,gI];rfl)) ?_;rw[show(bL.map λz=>false).any id=bj by simp];let IR:=n2.keep IO;let s2:az H H2:=s1.trans n2.same;cases val
 .erw[xg] at IR;lk;ext H3 s3;show OE _ 2 () (rda _^s2.trans s3) (rdb _^s2.trans s3) sh^q _^s2.trans s3
 .rename_i v;erw[xg] at IR;lk
  .show#[v,Z,?_];lk
  ext H3 s3;show OE _ 2 () (rda _^s2.trans s3) (rdb _^s2.trans s3) sh^q _^s2.trans s3
def FN(s:bc):=s = "" \/ s = "back" \/ s = "cry"
def ahe(h:FN m.wd):FN (r.on m).wd:=by
 cases r
 case back=>show .inr^.inl Z
 all_goals show h
def Wh(h:FN m.wd):FN m.step.wd:=by unfold cH.step;split;show h;split;show .inr^.inr Z;split;show h;show ahe (m:=m.more) h
def RU(h:FN m.wd):FN (m.round due).wd:=Wh (by rw[(qX due m).2.1];show h)
theorem zR(due:Due):∀(k:O)(m:cH),FN m.wd->m.bL.length<=m.n->FN (m.run due k).wd/\(m.run due k).bL.length<=(m.run due k).n/\m.n<=(m.run due k).n/\(m.run due k).n<=m.n+k
 | 0,m,h1,h2=>#[h1,h2,ay _,ay _]
 | k+1,m,h1,h2=>by erw[cH.run];split;ext hw;let#[k1,k2,k3]:=wU (due:=due) hw;let#[r1,r2,r3,r4]:=zR due k (m.round due) (RU h1) ∅;show#[r1,r2,∅,∅];show#[h1,h2,ay _,∅]
theorem Bu(rs:List bv)(xs:List M)(due:Due)(h:most<=1000):(qx rs xs due most).FL:=by
 let#[h1,h2,h3,h4]:=zR due most (vI rs xs) (.inl Z)^ay _;let h5:(vI rs xs).n=0:=rfl;show#[?_,?_]
 .unfold qx cH.out;simp only;rcases h1 with e|e|e;rw[if_pos e];show .inr^.inr^.inr Z;rw[if_neg (by rw[e];decide)];show .inr^.inl e;rw[if_neg (by rw[e];decide)];show .inr^.inr^.inl e
 .change((vI rs xs).run due most).bL.length<=10000;lia
def M1(h:∀z∈tl,z.1≠n):iQ tl n=none:=by
 have:∀(l:List (M×Wt)),(∀z∈l,z.1≠n)->l.foldl (λXt p=>if p.1=n then !p.2 else Xt) (none:Option Wt)=none:=by
  intro l;induction l with
  | nil=>intro _;rfl
  | cons p l ih =>
   intro hl;change l.foldl _ (if p.1=n then !p.2 else none)=aw;rw[if_neg^hl p (g7 ..)];show ih λz hz=>hl z^d8 _ hz
 show this tl h
def eqO(o r:Out):Bool:=PyData.eqv o.data r.data
def RW{o:Out}(h:o.FL):eqO o o=true:=SeqAt.eqv_refl _ (Out.shM h).1
theorem FO:∀(a b:O),(a ^^^ b)+2*(a &&& b)=a+b:=by
 intro a;induction a using Nat.strongRecOn with
 | _ a ih =>
  intro b;by_cases ha:a=0;subst ha;simp;let h:=ih (a / 2) ∅ (b / 2);let h1:(a ^^^ b) / 2=a / 2 ^^^ b / 2:=Nat.xor_div_two;let h2:(a &&& b) / 2=a / 2 &&& b / 2:=Nat.and_div_two;let h3:(a ^^^ b) % 2=1↔Not ((a % 2=1)↔(b % 2=1)):=Nat.xor_mod_two_eq_one;let h4:(a &&& b) % 2=1↔a % 2=1/\b % 2=1:=Nat.and_mod_two_eq_one;lia
theorem M3(ha:0<=a)(hb:0<=b):Builtin.bitXor a b=((a.toNat ^^^ b.toNat:O):M):=by change Builtin.bitOr a b-Builtin.bitAnd a b=_;rw[xq,xo ha hb];have:=FO a.toNat b.toNat;lia
def Wi(h:0<=a):Builtin.bitXor a a=0:=by rw[M3 h h,Nat.xor_self];rfl
theorem Wj(h:0<=a):Builtin.bitXor 0 a=a:=by rw[M3 () h];change((0 ^^^ a.toNat:O):M)=a;rw[Nat.zero_xor];lia
theorem KI(ha:0<=a)(hb:0<=b)(h:Builtin.bitXor a b=b):a=0:=by
 rw[M3 ha hb] at h;let e:a.toNat ^^^ b.toNat=b.toNat:=∅;let e2:a.toNat ^^^ b.toNat ^^^ b.toNat=0:=by rw[e,Nat.xor_self]
 rw[Nat.xor_assoc,Nat.xor_self,Nat.xor_zero] at e2;lia
theorem FP(ha:0<=a)(hb:0<=b)(h:Builtin.bitXor a b=0):a=b:=by
 rw[M3 ha hb] at h;let e:a.toNat ^^^ b.toNat=0:=∅;let e2:a.toNat ^^^ b.toNat ^^^ b.toNat=b.toNat:=by rw[e,Nat.zero_xor]
 rw[Nat.xor_assoc,Nat.xor_self,Nat.xor_zero] at e2;lia
def M4(ha:0<=a)(hb:0<=b):Builtin.bitXor a b=Builtin.bitXor b a:=by rw[M3 ha hb,M3 hb ha,Nat.xor_comm]
def acs(h0:0<=m.pl)(h1:0<=m.mr)(hq:0<=q)(h:m.mr≠m.pl):(m.go q).mr≠(m.go q).pl/\0<=(m.go q).mr:=by let hx:=zN h1 h0;show#[λe=>h ?_,zN hx hq];show FP h1 h0^KI hx hq e
def YB(h0:0<=m.pl)(hq:0<=q)(h:m.mr=m.pl):(m.go q).mr=q:=by change Builtin.bitXor (Builtin.bitXor m.mr m.pl) q=q;rw[h,Wi h0,Wj hq]
def CQ(b:M):0<o9 b:=by unfold o9;rw[Int.one_mul];show Int.lt_of_lt_of_le ()^zk _
theorem FQ(ha:0<=a):Builtin.bitXor a^o9 b≠a:=λe=>by let h:=CQ b;rw[M4 ha^Int.le_of_lt h] at e;have:=KI (Int.le_of_lt h) ha e;lia
def zS(ns:List M)(lo hi:Option M):∃ms:List M,fV (ns.map V.int) lo hi=ms.map V.int/\ms.length<=ns.length:=by let h:=oB (ns.map V.int) lo hi;rw[aq] at h;obtain⟨ms,hm⟩:∃ms:List Int,fV (ns.map V.int) lo hi=ms.map V.int:=#[_,by unfold fV;rw[<- List.map_drop,<- List.map_take]];rw[hm,aq] at h;show#[ms,hm,h]
def k7:Due:=λz=>none
def FT(m:cH):m.round k7=m.step:=rfl
def mF(hw:m.wd = ""):m.step=if m.more.nT=ag then { m.more with wd := "cry" } else match m.rs[m.pl.toNat]? with|none=>m.more|some r=>r.on m.more:=by
 change(if m.wd ≠ "" then m else _)=_
 (rw[if_neg^by simpa using hw])<;>rfl
def Wk(r:bv)(m:cH):∃l,(r.on m).bL=m.bL++l:=by
 cases r
 case out i q=>show#[[m.b0 i],Z]
 all_goals show#[[],(cZ _).symm]
def vJ(m:cH):∃l,m.step.bL=m.bL++l:=by unfold cH.step;split;show#[[],(cZ _).symm];split;show#[[],(cZ _).symm];split;show#[[],(cZ _).symm];show Wk _ m.more
structure Rnk (rs:List Row) (Yf:Nat) (D:Nat->HM.fX->Nat):Prop where
 pos:∀k t,k<rs.length->fX.lv rs k t->1<=D k t/\D k t<=Yf
 dec:∀k r t z,rs[k]?=!r->fX.lv rs k t->Kg rs r t z->D z.1.toNat z.2<D k t
def nG(hok:∀r∈rs,r.ok bp){p:M×M}:fX.lv rs k^!p↔eE rs p k:=by change p∈kY rs k↔_;unfold kY;rw[fT,nA];show#[And.right,λh=>#[?_,h]];let#[r,hr,hp]:=h.read;show reads_in (hok r hr) hp
def RX(hok:∀r∈rs,r.ok bp)(h:eE rs (s,b) k):0<=b:=by let#[r,hr,hp]:=h.read;show(by decide:∀p∈eF,(0:M)<=p.2) _^reads_in (hok r hr) hp
def RY{f:Bx}(h:Not (r.gc=ag/\r.kK.headD 0=b)):r.nF f b=f b:=by
 cases r
 case num=>show if_neg λe=>h #[Z,e.symm]
 case copy=>show if_neg λe=>h #[Z,e.symm]
 case op=>show if_neg λe=>h #[Z,e.symm]
 all_goals rfl
def M5{f g:Bx}(hd:r.gc=ag)(h:∀i∈r.wK,f i=g i):r.nF f^r.kK.headD 0=r.nF g^r.kK.headD 0:=by
 cases r
 case num=>simp[Row.nF,setB,Row.kK]
 case copy d k i q=>simp[Row.nF,setB,Row.kK];show h i (by simp[Row.wK,Row.gc,Row.kK])
 case op d s k i j q=>simp[Row.nF,setB,Row.kK];rw[h i^by simp[Row.wK,Row.gc,Row.kK],h j^by simp[Row.wK,Row.gc,Row.kK]]
 all_goals cases hd
def CS(h:∀i,r≠.back i)(m:cH):r.on m=({ m.wQ r with bL:=m.bL++r.sends m.b0 }:cH).go^r.gQ m.b0:=by
 cases r
 case back i=>show absurd Z^h i
 all_goals simp[Row.on,cH.wQ,Row.sends,Row.gQ,Row.nF,Row.sd,cH.go]
def CU(h:∀i,r≠.back i)(m:cH)(hs:s=0\/s=1)(b:M):(r.on m).side s b=if r.sd=s\/r.sd=2 then r.nF (m.side s) b else m.side s b:=by
 rw[CS h];rcases hs with rfl|rfl
 .change(if r.sd=0\/r.sd=2 then r.nF m.b0 else m.b0) b=if r.sd=0\/r.sd=2 then r.nF m.b0 b else m.b0 b
  split<;>rfl
 .change(if r.sd=1\/r.sd=2 then r.nF m.b1 else m.b1) b=if r.sd=1\/r.sd=2 then r.nF m.b1 b else m.b1 b
  split<;>rfl
def FU(h:∀i,r≠.back i)(m:cH)(hs:s=0\/s=1)(hb:r.gv s≠b):(r.on m).side s b=m.side s b:=by rw[CU h m hs];split;ext U9;show RY λz=>hb ?_;unfold Row.gv;rw[if_pos (by rw[z.1];simpa using U9)];show z.2;rfl
theorem M6(h:∀i,r≠.back i)(m m':cH)(hs:s=0\/s=1)(h0:0<=r.gv s)(hr:∀i∈r.rd s,m.side s i=m'.side s i):(r.on m).side s^r.gv s=(r.on m').side s^r.gv s:=by rw[CU h m hs,CU h m' hs];unfold Row.gv at h0 ⊢;split at h0;ext hd;rw[if_pos hd];rw[qk] at hd;rw[if_pos^by simpa using hd.2,if_pos^by simpa using hd.2];show M5 hd.1 λi hi=>hr i ?_;unfold Row.rd;rw[hd.1,hd.2];show hi;lia
structure RA (rs:List Row) (D:Nat->HM.fX->Nat) (o:Int) (c:Nat) (m r:cH):Prop where
 RZ:m.rs=rs
 rrs:r.rs=rs
 pl:m.pl=r.pl
 mr:m.mr=r.mr
 n:m.n=r.n
 bL:m.bL=r.bL
 an:m.an=r.an
 wd:m.wd = ""
 wr:r.wd = ""
 at_:r.mr=r.pl
 nn:0<=r.pl
 oo:o=0\/o=1
 dif:∀s b,(s=0\/s=1)->eE rs (s,b) r.pl.toNat->m.side s b≠r.side s b->s=o/\D r.pl.toNat^some (s,b)<=c
section
variable {rs:List bv}{D:O->HM.fX->O}{o:M}{c Yf:O}{m r:cH}{row:bv}
def j5(hok:∀r∈rs,r.ok bp)(ie:rs[k]?=!row)(hs:s=0\/s=1)(hb:b∈row.rd s):eE rs (s,b) k :=
 .here ie^(Bl (hok _^jd ie) hs).mpr hb
def R1(h:∀s b,(s=0\/s=1)->b∈row.rd s->m.side s b=r.side s b)(e1:m.mr=r.mr)(e2:m.pl=r.pl):row.qW m=row.qW r:=by
 let e:∀i,i∈row.rd 0->i∈row.rd 1->m.b0 i=r.b0 i/\m.b1 i=r.b1 i:=λi h0 h1=>#[h 0 i (.inl Z) h0,h 1 i (.inr Z) h1];cases row
 case num=>rfl
 case copy=>rfl
 case op=>rfl
 case mark=>erw[Row.qW,e1,e2]
 case out i q=>let#[a,b]:=e i (by simp[Row.rd,Row.gc,Row.wK,Row.kK]) (by simp[Row.rd,Row.gc,Row.wK,Row.kK]);erw[Row.qW,e1,e2,a,b]
 case fork i q p=>let#[a,b]:=e i (by simp[Row.rd,Row.gc,Row.wK,Row.kK]) (by simp[Row.rd,Row.gc,Row.wK,Row.kK]);erw[Row.qW,a,b]
 case look i q=>let#[a,b]:=e i (by simp[Row.rd,Row.gc,Row.wK,Row.kK]) (by simp[Row.rd,Row.gc,Row.wK,Row.kK]);erw[Row.qW,a,b]
 case back i=>let#[a,b]:=e i (by simp[Row.rd,Row.gc,Row.wK,Row.kK]) (by simp[Row.rd,Row.gc,Row.wK,Row.kK]);erw[Row.qW,e1,e2,a,b]
theorem RA.one(h:RA rs D o c m r){i:M}(l0:eE rs (0,i) r.pl.toNat)(l1:eE rs (1,i) r.pl.toNat):m.b0 i=r.b0 i\/m.b1 i=r.b1 i:=by show iS λz=>?_;rw[not_or] at z;let a:=(h.dif 0 i (.inl Z) l0 z.1).1;let b:=(h.dif 1 i (.inr Z) l1 z.2).1;lia
def qe(hok:∀r∈rs,r.ok bp)(h:RA rs D o c m r)(ie:rs[r.pl.toNat]?=!row)(cm:row.qW m=bj)(cr:row.qW r=bj)(hs:s=0\/s=1)(he:row.ends^some (s,b)=ag):m.side s b=r.side s b:=by
 let fin:∀i,i∈row.rd 0->i∈row.rd 1->m.b0 i=m.b1 i->r.b0 i=r.b1 i->i=b->m.side s b=r.side s b:=λi h0 h1 e1 e2 e=>by
  subst e;let q:m.b0 i=r.b0 i/\m.b1 i=r.b1 i:=by rcases h.one (j5 hok ie (.inl rfl) h0)^j5 hok ie (.inr rfl) h1 with a|a;show#[a,by rw[<- e1,a,e2]];show#[by rw[e1,a,e2],a]
  rcases hs with rfl|rfl;show q.1;show q.2
 erw[Row.ends,qk,decide_eq_true_eq] at he;let rd:∀i:M,row.kK=[i]->row.gc=bj->i∈row.rd 0/\i∈row.rd 1:=λi e1 e2=>by simp[Row.rd,e2,Row.wK,e1]
 cases row
 case look i q =>
  erw[Row.qW,decide_eq_false_iff_not,uB] at cm cr;show fin i (rd i Z rfl).1 (rd i Z rfl).2 cm cr he.2
 case out i q =>
  erw[Row.qW,Bool.or_eq_false_iff,decide_eq_false_iff_not,uB] at cm cr;show fin i (rd i Z rfl).1 (rd i Z rfl).2 cm.2 cr.2 he.2
 case back i =>
  erw[Row.qW,Bool.or_eq_false_iff,decide_eq_false_iff_not,uB] at cm cr;show fin i (rd i Z rfl).1 (rd i Z rfl).2 cm.2 cr.2 he.2
 all_goals show absurd he.1 (by erw[Row.key];decide)
def M7(hok:∀r∈rs,r.ok bp)(h:RA rs D o c m r)(ie:rs[r.pl.toNat]?=!row)(cm:row.qW m=bj)(cr:row.qW r=bj)(hb:∀i,row≠.back i):row.gQ m.b0=row.gQ r.b0:=by
 cases row
 case fork i q p =>
  erw[Row.qW,bne_eq_false_iff_eq,decide_eq_decide] at cm cr;let e:m.b0 i=0↔r.b0 i=0:=by rcases h.one (i:=i) (j5 hok ie (.inl rfl)^by simp[Row.rd,Row.gc,Row.wK,Row.kK]) (j5 hok ie (.inr rfl)^by simp[Row.rd,Row.gc,Row.wK,Row.kK]) with a|a;rw[a];rw[cm,a,cr]
  erw[Row.gQ,ne_eq,e]
 case back i=>show absurd Z^hb i
 all_goals rfl
def Bv(h:row.ok n)(hb:∀i,row≠.back i)(f:Bx):row.gQ f∈row.ways/\0<=row.gQ f/\row.gQ f<n:=by
 cases row
 case back i=>show absurd Z^hb i
 case num=>show#[by simp[Row.gQ,Row.ways],h.2.2.2]
 case copy=>show#[by simp[Row.gQ,Row.ways],h.2.2.2]
 case op=>show#[by simp[Row.gQ,Row.ways],h.2.2.2.2.2]
 case out=>show#[by simp[Row.gQ,Row.ways],h.2]
 case look=>show#[by simp[Row.gQ,Row.ways],h.2]
 case mark=>show#[by simp[Row.gQ,Row.ways],h]
 case fork=>erw[Row.gQ,Row.ways];split<;>first|show#[by simp,h.2.1]|show#[by simp,h.2.2]
def zT(hw:m.wd = "")(e:m.rs[m.pl.toNat]?=!row):m.step=if row.qW m.more=ag then { m.more with wd := "cry" } else row.on m.more:=by rw[mF hw,e];change(if(match m.rs[m.pl.toNat]? with|none=>true|some r=>r.qW m.more)=true then _ else _)=_;rw[e]
theorem RA.step(R:Rnk rs Yf D)(hok:∀r∈rs,r.ok bp)(h:RA rs D o c m r)(hr:r.step.wd ≠ "cry"):
  (1<=c/\m.step={ m.more with wd := "cry" })\/RA rs D o (c-1) m.step r.step\/(m.step.wd = "back" /\ r.step.wd = "back" /\ m.step.out=r.step.out):=by
 cases ie:rs[r.pl.toNat]? with
 | none =>
  exfalso;show hr ?_;rw[mF h.wr];have:r.more.nT=true:=by change(match r.rs[r.pl.toNat]? with|none=>true|some x=>x.qW r.more)=true;rw[h.rrs,ie]
  rw[if_pos this]
 | some row =>
  let xQ:=hok _^jd ie;let hk:r.pl.toNat<rs.length:=(gq ie).1;let em:=zT h.wd (by rw[h.RZ,h.pl];show ie);let er:=zT h.wr (by rw[h.rrs];show ie);let cr:row.qW r.more=false:=by
   cases z:row.qW r.more with
   | false=>rfl
   | true=>rw[er,if_pos z] at hr;show absurd Z hr
  let h':RA rs D o c m.more r.more:=#[h.RZ,h.rrs,h.pl,h.mr,congrArg (· + 1) h.n,h.bL,h.an,h.wd,h.wr,h.at_,h.nn,h.oo,h.dif];rw[cr,if_neg lI] at er;cases cm:row.qW m.more with
  | true =>
   rw[cm,if_pos Z] at em;show .inl #[Nat.pos_of_ne_zero λc0=>?_,em];show absurd (R1 (row:=row) (m:=m.more) (r:=r.more) (λs b hs hb=>iS λne=>?_) h.mr h.pl) (by rw[cm,cr];decide);let l:=j5 hok ie hs hb;have:=(h.dif s b hs l ne).2;have:=(R.pos _ (!(s,b)) hk^(nG hok).mpr l).1;lia
  | false =>
   rw[cm,if_neg lI] at em;show .inr ?_;by_cases hb:∃i,row=.back i
   .let#[i,Z]:=hb;right;let e:m.b0 i=r.b0 i:=by let e:=qe hok h' ie cm cr (s:=0) (b:=i) (.inl Z) (by simp[Row.ends,Row.key,Row.kK];decide);show e
    rw[em,er];show#[Z,Z,?_];change Out.mk "back" m.bL (!m.b0 i) (m.n+1)=Out.mk "back" r.bL (!r.b0 i) (r.n+1);rw[h.bL,e,h.n]
   .left;let P2:∀i,row≠.back i:=λi e=>hb #[i,e];let eo:row.gQ m.more.b0=row.gQ r.more.b0:=M7 hok h' ie cm cr P2;let#[w1,w2,w3]:=Bv xQ P2 r.more.b0;let es:row.sends m.more.b0=row.sends r.more.b0:=by
     cases row
     case out i q=>show congrArg (λx=>[x])^qe hok h' ie cm cr (s:=0) (b:=i) (.inl Z) (by simp[Row.ends,Row.key,Row.kK];decide)
     all_goals rfl
    let sm:=CS P2 m.more;let sr:=CS P2 r.more;rw[em,er];let pm:(row.on m.more).pl=row.gQ r.more.b0:=by rw[sm];show eo
    let pr:(row.on r.more).pl=row.gQ r.more.b0:=by rw[sr];rfl
    let mrr:(row.on r.more).mr=row.gQ r.more.b0:=by rw[sr];show YB h.nn w2 h.at_
    show#[by rw[sm];show h.RZ,by rw[sr];show h.rrs,by rw[pm,pr],?_,by rw[sm,sr];show congrArg (· + 1) h.n,?_,by rw[sm,sr];show h.an,by rw[sm];show h.wd,by rw[sr];show h.wr,by rw[mrr,pr],by rw[pr];show w2,h.oo,λs b hs l ne=>?_];rw[mrr,sm];change(cH.go _^row.gQ m.more.b0).mr=_;rw[eo];show YB (by change 0<=m.pl;rw[h.pl];show h.nn) w2 (by change m.mr=m.pl;rw[h.mr,h.pl];show h.at_);rw[sm,sr];change m.bL++row.sends m.more.b0=r.bL++row.sends r.more.b0;rw[h.bL,es]
    .rw[pr] at l ⊢;let b0:=RX hok l;let wq:(((row.gQ r.more.b0).toNat:O):M)∈row.ways:=by rw[Int.toNat_of_nonneg w2];show w1
     by_cases hg:row.gv s=b
     .have:∃i∈row.rd s,m.side s i≠r.side s i:=iS λz=>ne (by
       subst hg;show M6 P2 m.more r.more hs b0 λi hi=>iS λy=>z #[i,hi,y])
      let#[i,hi,ni]:=this;let li:=j5 hok ie hs hi;let#[e1,e2]:=h.dif s i hs li ni;show#[e1,?_];have:=R.dec _ _ _ (row.gQ r.more.b0,!(s,b)) ie ((nG hok).mpr li) #[w1,#[?_,.inr #[by rw[hg],by rw[hg];show b0,hi]],(nG hok).mpr l];dsimp only at this;lia
      .cases ee:row.ends^some (s,i) with
       | false=>rfl
       | true=>show absurd (qe hok h' ie cm cr hs ee) ni
     .rw[FU P2 m.more hs hg,FU P2 r.more hs hg] at ne;let li:eE rs (s,b) r.pl.toNat:=.on ie (λz=>hg^(qc xQ hs b0).mp z) wq l;let#[e1,e2]:=h.dif s b hs li ne;show#[e1,?_];have:=R.dec _ _ _ (row.gQ r.more.b0,!(s,b)) ie ((nG hok).mpr li) #[w1,#[?_,.inl #[Z,hg]],(nG hok).mpr l];dsimp only at this;lia
      .cases ee:row.ends^some (s,b) with
       | false=>rfl
       | true=>show absurd (qe hok h' ie cm cr hs ee) ne
structure RB (rs:List Row) (D:Nat->HM.fX->Nat) (c:Nat) (m:cH):Prop where
 RZ:m.rs=rs
 wd:m.wd = ""
 nn:0<=m.pl
 nm:0<=m.mr
 ne:m.mr≠m.pl
 c1:1<=c
 le:m.pl.toNat<rs.length->D m.pl.toNat none<=c
theorem RB.step(R:Rnk rs Yf D)(hok:∀r∈rs,r.ok bp)(h:RB rs D c m):m.step={ m.more with wd := "cry" }\/(RB rs D (c-1) m.step/\2<=c/\m.step.bL=m.bL/\m.step.an=m.an/\m.step.n=m.n+1):=by
 cases ie:rs[m.pl.toNat]? with
 | none =>
  left;rw[mF h.wd];have:m.more.nT=true:=by change(match m.rs[m.pl.toNat]? with|none=>true|some x=>x.qW m.more)=true;rw[h.RZ,ie]
  rw[if_pos this]
 | some row =>
  let xQ:=hok _^jd ie;let hk:m.pl.toNat<rs.length:=(gq ie).1;let em:=zT h.wd (by rw[h.RZ];show ie);cases cm:row.qW m.more with
  | true=>rw[cm,if_pos Z] at em;show .inl em
  | false =>
   right;rw[cm,if_neg lI] at em;let en:row.ends aw=false:=by
    cases row
    case mark=>erw[Row.qW,decide_eq_false_iff_not,uB] at cm;show absurd cm h.ne
    case out=>erw[Row.qW,Bool.or_eq_false_iff,decide_eq_false_iff_not,uB] at cm;show absurd cm.1 h.ne
    case back=>erw[Row.qW,Bool.or_eq_false_iff,decide_eq_false_iff_not,uB] at cm;show absurd cm.1 h.ne
    all_goals erw[Row.ends,Row.key];decide
   let hb:∀i,row≠.back i:=λi e=>by rw[e] at en;show absurd en (by erw[Row.ends,Row.key];decide)
   let#[w1,w2,w3]:=Bv xQ hb m.more.b0;let lt:=R.dec _ _ none (row.gQ m.more.b0,none) ie trivial #[w1,#[en,Z],trivial];let p1:=(R.pos (row.gQ m.more.b0).toNat aw ∅ trivial).1;let le:=h.le hk;dsimp only at lt;let sm:=CS hb m.more;let so:row.sends m.more.b0=[]:=by
    cases row
    case out=>show absurd en (by erw[Row.ends,Row.key];decide)
    all_goals rfl
   let#[g1,g2]:=acs (m:={ m.more.wQ row with bL:=m.more.bL++row.sends m.more.b0 }) (q:=row.gQ m.more.b0) h.nn h.nm w2 h.ne;rw[em,sm];show#[#[h.RZ,h.wd,w2,g2,g1,∅,λz=>?_],∅,?_,Z,Z];change D (row.gQ m.more.b0).toNat aw<=c-1;lia;change m.bL++row.sends m.more.b0=m.bL;rw[so,cZ]
theorem mG(hw:m.wd ≠ ""):∀k,m.run due k=m
 | 0=>rfl
 | k+1=>by change(if m.wd = "" then _ else m)=m;rw[if_neg hw]
theorem RB.run(R:Rnk rs Yf D)(hok:∀r∈rs,r.ok bp):∀(k c:O)(m:cH),RB rs D c m->(∀j:O,m.n<=j->j<m.n+c->due j=aw) ->
  (m.run due k).bL=m.bL/\(m.run due k).an=m.an/\(((m.run due k).wd = "cry" /\ m.n<(m.run due k).n/\(m.run due k).n<=m.n+c)\/((m.run due k).wd = "" /\ (m.run due k).n=m.n+k/\k+1<=c))
 | 0,c,m,h,_=>#[Z,Z,.inr #[h.wd,Z,by have:=h.c1;lia]]
 | k+1,c,m,h,hd=>by
  let e:m.run due (k+1)=m.step.run due k:=by change(if m.wd = "" then(m.round due).run due k else m)=_;rw[if_pos h.wd];change((match due m.n with|some t=>m.turn t|none=>m).step).run due k=_;rw[hd m.n (ay _) (by have:=h.c1;lia)]
  rw[e];rcases h.step R hok with z|⟨z,c2,e1,e2,e3⟩
  .rw[z,mG (by change("cry" : bc) ≠ "";decide)];show#[Z,Z,.inl #[Z,fZ _,by change m.n+1<=_;have:=h.c1;lia]]
  .let#[q1,q2,q3]:=RB.run R hok k (c-1) m.step z (λj h1 h2=>hd j ∅ ∅);rw[q1,q2];show#[e1,e2,?_];rcases q3 with⟨a,b,d⟩|⟨a,b,d⟩;show .inl #[a,∅,∅];show .inr #[a,∅,∅]
theorem qZ:∀(k:O)(m:cH),∃l,(m.run k7 k).bL=m.bL++l
 | 0,m=>#[[],(cZ _).symm]
 | k+1,m=>by erw[cH.run];split;let#[l1,h1]:=vJ m;let#[l2,h2]:=qZ k m.step;rw[FT,h2,h1,jD];show#[_,Z];show#[[],(cZ _).symm]
def rf(due:Due)(Yf:O)(f g:cH):=f.out=g.out\/((∃l,g.bL=f.bL++l)/\f.an=aw/\∃a:O,due a≠none/\a<f.n/\((f.wd = "cry" /\ f.n<=a+Yf)\/(f.wd = "" /\ f.n+1<=a+Yf)))
theorem RA.run(R:Rnk rs Yf D)(hok:∀r∈rs,r.ok bp)(hM:1<=Yf)(hdo:∀j t,due j=!t->t.ok)(gap:∀i j:O,i<j->due i≠none->due j≠none->i+Yf<=j):
  ∀(k c:O)(o:M)(m r:cH),RA rs D o c m r->m.an=aw->(∀j:O,m.n<=j->due j≠none->m.n+c<=j)->(c=0\/∃a:O,due a≠none/\a<m.n/\m.n+c<=a+Yf)->(r.run k7 k).wd ≠ "cry" -> rf due Yf (m.run due k)^r.run k7 k
 | 0,c,o,m,r,h,_,_,_,_=>.inl (by change Out.mk (if m.wd = "" then "tired" else m.wd) m.bL m.an m.n=Out.mk (if r.wd = "" then "tired" else r.wd) r.bL r.an r.n;rw[h.wd,h.wr,h.bL,h.an,h.n])
 | k+1,c,o,m,r,h,ha,hn,hc,hr=>by
  let er:r.run k7 (k+1)=r.step.run k7 k:=by change(if r.wd = "" then _ else r)=_;rw[if_pos h.wr,FT]
  let em:m.run due (k+1)=(m.uq due).step.run due k:=by change(if m.wd = "" then _ else m)=_;rw[if_pos h.wd];rfl
  rw[er] at hr ⊢;rw[em];let Tk:r.step.wd ≠ "cry" := λz=>hr (by rw[mG (by rw[z];decide)];show z);let go:∀(c:O)(o:M)(m':cH),RA rs D o c m' r->m'.an=aw->m'.n=m.n->(∀j:O,m.n<j->due j≠none->m.n+c<=j)->(c=0\/∃a:O,due a≠none/\a<=m.n/\m.n+c<=a+Yf)->rf due Yf (m'.step.run due k)^r.step.run k7 k:=λc o m' h' PQ en hn' GE=>by
   rcases h'.step R hok Tk with⟨c1,e⟩|z|⟨w1,w2,eo⟩
   .rw[e,mG (by change("cry" : bc) ≠ "";decide)];obtain⟨a,a1,a2,a3⟩:∃a:Nat,due a≠none/\a<=m.n/\m.n+c<=a+Yf:=by rcases GE with z|z;lia;show z
    let#[l1,h1]:=vJ r;let#[l2,h2]:=qZ k r.step;show .inr #[#[l1++l2,?_],PQ,a,a1,by change a<m'.n+1;lia,.inl #[Z,by change m'.n+1<=_;lia]];change _=m'.bL++_;rw[h2,h1,h'.bL,jD]
   .have e1:m'.step.n=m.n+1:=by let hw:=z.wd;rw[mF h'.wd] at hw ⊢;rw[<- en];split at hw;show absurd hw (by change("cry" : bc) ≠ "";decide);ext q;rw[if_neg q];split;rfl;rename_i x _;cases x<;>rfl
    let e2:m'.step.an=none:=by
     let hw:=z.wd;rw[mF h'.wd] at hw ⊢;split at hw;show absurd hw (by change("cry" : bc) ≠ "";decide)
     .rename_i q;rw[if_neg q];split;show PQ
      .rename_i x hx;rw[hx] at hw;cases x<;>first|show PQ|show absurd hw (by change("back" : bc) ≠ "";decide)
    show RA.run R hok hM hdo gap k (c-1) o _ _ z e2 (λj hj hd=>by have:=hn' j ∅ hd;lia) ?_ hr;rcases GE with z0|⟨a,a1,a2,a3⟩;show .inl ∅
    .by_cases c0:c=0;show .inl ∅;show .inr #[a,a1,∅,∅]
   .show .inl ?_;rw[mG (by rw[w1];decide),mG (by rw[w2];decide)];show eo
  unfold cH.uq;cases hd:due m.n with
  | none =>
   show go c o m h ha Z (λj hj=>hn j ∅) ?_;rcases hc with z|⟨a,a1,a2,a3⟩;show .inl z;show .inr #[a,a1,∅,a3]
  | some t =>
   let tok:=hdo _ _ hd;let dn:due m.n≠none:=by rw[hd];intro z;cases z
   let c0:c=0:=by have:=hn m.n (ay _) dn;lia
   let hk:r.pl.toNat<rs.length:=by
    rcases dg r.pl.toNat rs.length with a|a;show a
    .exfalso;show Tk ?_;rw[mF h.wr];have:r.more.nT=true:=by change(match r.rs[r.pl.toNat]? with|none=>true|some x=>x.qW r.more)=true;rw[h.rrs,iA a]
     rw[if_pos this]
   let clean:∀s b,(s=0\/s=1)->eE rs (s,b) r.pl.toNat->m.side s b=r.side s b:=λs b hs l=>iS λne=>by have:=(h.dif s b hs l ne).2;have:=(R.pos _ (!(s,b)) hk^(nG hok).mpr l).1;lia
   let next:∀j:O,m.n<j->due j≠none->m.n+Yf<=j:=λj hj hd=>gap _ _ hj dn hd;let off:∀m':cH,RB rs D Yf m'->m'.n=m.n->m'.bL=m.bL->m'.an=aw->rf due Yf (m'.step.run due k)^r.step.run k7 k:=λm' b en es ea=>by
    let#[l1,h1]:=vJ r;let#[l2,h2]:=qZ k r.step;let Mo:∃l,(r.step.run k7 k).bL=m.bL++l:=#[l1++l2,by rw[h2,h1,h.bL,jD]];rcases b.step R hok with z|⟨z,c2,e1,e2,e3⟩;rw[z,mG (by change("cry" : bc) ≠ "";decide)];show .inr #[by change ∃l,_=m'.bL++l;rw[es];show Mo,ea,m.n,dn,by change m.n<m'.n+1;lia,.inl #[Z,by change m'.n+1<=_;lia]]
    .let#[q1,q2,q3]:=RB.run R hok k (Yf-1) m'.step z (due:=due) (λj h1 h2=>iS λy=>by have:=next j ∅ y;lia);show .inr #[by rw[q1,e1,es];show Mo,by rw[q2,e2,ea],m.n,dn,?_];rcases q3 with⟨a,b,d⟩|⟨a,b,d⟩;show#[∅,.inl #[a,∅]];show#[∅,.inr #[a,∅]]
   change rf due Yf ((m.turn t).step.run due k) _;unfold cH.turn;rw[if_neg^by simpa using h.wd];let fin:∀(s:M)(m':cH),(s=0\/s=1)->m'.rs=rs->m'.pl=m.pl->m'.mr=m.mr->m'.n=m.n->m'.bL=m.bL->m'.an=m.an->m'.wd=m.wd->(∀s',(s'=0\/s'=1)->s'≠s->m'.side s'=m.side s')->rf due Yf (m'.step.run due k)^r.step.run k7 k:=λs m' hs e1 e2 e3 e4 e5 e6 e7 e8=>by show go Yf s m' #[e1,h.rrs,e2.trans h.pl,e3.trans h.mr,e4.trans h.n,e5.trans h.bL,e6.trans h.an,e7.trans h.wd,h.wr,h.at_,h.nn,hs,λs' b Md l ne=>?_] (e6.trans ha) e4 next (.inr #[m.n,dn,ay _,ay _]);show#[iS λy=>ne (by rw[e8 s' Md y];show clean s' b Md l),(R.pos _ _ hk^(nG hok).mpr l).2]
   cases t with
   | box s b v =>
    let hs:=tok.1;dsimp only;split
    .rename_i s0;show fin 0 _ (.inl Z) h.RZ Z rfl rfl rfl rfl rfl λs' Md ne=>?_;rcases Md with rfl|rfl;show absurd Z ne;rfl
    .show fin 1 _ (.inr Z) h.RZ Z rfl rfl rfl rfl rfl λs' Md ne=>?_;rcases Md with rfl|rfl;rfl;show absurd Z ne
   | mark v =>
    let nn:0<=m.mr:=by rw[h.mr,h.at_];show h.nn
    show off _ #[h.RZ,h.wd,by change 0<=m.pl;rw[h.pl];show h.nn,zN nn^Int.le_of_lt^CQ v,?_,hM,λhl=>(R.pos _ none hl trivial).2] Z rfl ha;change Builtin.bitXor m.mr^o9 v≠m.pl;rw[h.pl,<- h.at_,<- h.mr];show FQ nn
   | place v =>
    let nn:0<=m.pl:=by rw[h.pl];show h.nn
    show off _ #[h.RZ,h.wd,zN nn^Int.le_of_lt^CQ v,by change 0<=m.mr;rw[h.mr,h.at_];show h.nn,?_,hM,λhl=>(R.pos _ none hl trivial).2] Z rfl ha;change m.mr≠Builtin.bitXor m.pl^o9 v;rw[h.mr,h.at_,<- h.pl];show(FQ nn).symm
end
open Classical in
theorem IA{m:M}(h:tZ (cG rs bp) (fH rs) m)(Fq:jV (cG rs bp)^fH rs)(qU:∀k r t,rs[k]?=!r->t∈dj rs k->kH rs r t^fH rs ((k:M),t)):
  1<=m/\∃D,Rnk rs m.toNat D:=by
 let#[F,hF,#[x0,hx0,Z],hle]:=h;let val:∀z∈cG rs bp,∃n,(z,n)∈F/\1<=n/\n<=x0.2:=λz hz=>by let#[n,hn]:=hF.mem Fq.1 hz;show#[n,hn,(hF.1.fin _ hn).1,hle _ hn]
 show#[(hF.1.fin _ hx0).1,λk t=>if e:∃n,((((k:O):M),t),n)∈F then e.choose.toNat else 0,?_,?_];intro k t hk hl;let#[n,hn,_,_]:=val ((k:M),t)^jy.mpr #[k,hk,Z,mw.mpr hl];let e:∃n,((((k:O):M),t),n)∈F:=#[n,hn];rw[dif_pos e];let a:=(hF.1.fin _ e.choose_spec).1;let b:=hle _ e.choose_spec;dsimp only at a b;lia
 .intro k r t z hr hl hz;let hk:k<rs.length:=(gq hr).1;let Sr:((k:M),t)∈cG rs rs.length:=jy.mpr #[k,hk,Z,mw.mpr hl];let#[n,hn,n1,_]:=val _ Sr;let zl:z∈fH rs ((k:M),t):=((qU k r t hr^mw.mpr hl).2 z).mpr hz;let#[n',hn',lt]:=(hF.1.fin _ hn).2.1 z zl;let#[k',_,e1,_]:=jy.mp^(Fq.2.2 _ Sr).2 z zl;let ez:(((z.1.toNat:O):M),z.2)=z:=by rw[e1];show Prod.ext e1.symm rfl
  let x1:∃n,(((((z.1.toNat:O):M),z.2):HM.bY),n)∈F:=#[n',by rw[ez];show hn'];let x2:∃n,((((k:O):M),t),n)∈F:=#[n,hn];rw[dif_pos x1,dif_pos x2];let a1:=x1.choose_spec;let a2:=x2.choose_spec;let b1:=nB hF.1.nd a1 (show(((((z.1.toNat:O):M),z.2):HM.bY),n')∈F by rw[ez];show hn');let b2:=nB hF.1.nd a2 hn;let c1:=(hF.1.fin _ hn').1;dsimp only at c1 lt;lia
theorem R3{xs:List M}{m:M}(hok:∀r∈rs,r.ok bp)(h:tZ (cG rs bp) (fH rs) m)(Fq:jV (cG rs bp)^fH rs)(qU:∀k r t,rs[k]?=!r->t∈dj rs k->kH rs r t^fH rs ((k:M),t))
  (hdo:∀j t,due j=!t->t.ok)(gap:∀i j:O,i<j->due i≠none->due j≠none->(i:M)+m<=j)(hr:((vI rs xs).run k7 most).wd ≠ "cry"):rf due m.toNat ((vI rs xs).run due most)^(vI rs xs).run k7 most:=by let#[m1,D,R]:=IA h Fq qU;show RA.run R hok ∅ hdo (λi j a b c=>by have:=gap i j a b c;lia) most 0 0 _ _ #[Z,Z,Z,Z,Z,Z,Z,Z,Z,Z,Int.le_refl _,.inl Z,λs b z z ne=>absurd Z ne] Z (λj z z=>by change(0:O)+0<=j;lia) (.inl Z) hr
inductive R4(vs:List V)(H:Hp)(Q:VK)(q:XK):Prop|mk(a:Addr)(ns:List Int)(n m:Int)(q:vs=[¬a,.int n,.int m])(q:H a=!.lst^ns.map V.int)(q:ns.length<=63)(q:1<=n)(q:n<=1000)(q:1<=m)(q:∀(p:Addr)(us:List V)(tl:List (Int×Wt))(H':Hp),az H H'->H' p=!.lst us->jc H' us tl->(∀z∈tl,z.2.ok)->tl.Pairwise (λx y=>x.1+m<=y.1)->(∀z∈tl,0<=z.1)->tl.length<=63->Q (¬p) H')
theorem M8:T.turns∩(3,R4):=by
 exists T.turns,lU,#[a,ns,n,m,rfl,ha,hnl,h0,h1,hm,q],".=3P.=4F.LH0B5.=4j4`/b6 +5@IDb@C/b6 +5@.GO3*>+4*/Wd +5*1-=4j4m!Þßb*2-:3",6,GR rfl;lk;ext l H1 n1;show f_list (xs:=ns.map V.int) (λi Y' H'=>az H H'/\E4 λ(us:List V)(tl:List (M×Wt))(st:M)(x:Option V)=>A8 (Y'=[!.ref a,!.int n,!.int m,!.ref l,!.int st,x]) (H' l=!.lst us) (jc H' us tl) ((∀z∈tl,z.2.ok)) (tl.Pairwise (λx y=>x.1+m<=y.1)) ((∀z∈tl,0<=z.1/\z.1+m<=st)) (tl.length=i) (0<=st)) ?_ ?_ ?_ ?_;show#[n1.same,[],[],0,_,Z,n1.self,.nil,(λj h=>nomatch h),List.Pairwise.nil,(λj h=>nomatch h),Z,Int.le_refl _];rintro i Y' H' hi ⟨sm,_⟩;show bI.of^sm _ _ ha
 .rintro i x Y' H2 hx ⟨s2,us,tl,st,x1,rfl,Pm,Ao,hok,hpw,TW,XB,ams⟩;rw[bJ] at hx;let#[z,hz,Z]:=cU.mp hx;let hi:i<ns.length:=(gq hz).1;let zw:=Ao.length;let SY:H l=none:=n1.1;clear n1;lk;show#[z,50,Z,(),(),λr1 RN RO=>?_];lk;ext l6 H6 n6;let hl6:=n6.keep Pm;let amt:=Ao.same n6.same;let s6:=s2.trans n6.same;show#[z,51,Z,(),(),λr2 Iw Iz=>?_];let#[k,hk,kk]:=kE (ns:=[4,30]) (i:=r2 % 2) ∅ (by change r2 % 2<2;lia);lk;show cj (bI.of n6.self) hk ?_;let k0:0<k:=by simp at kk;lia
  let b1:=dI (a:=r1) (b:=k) k0;clear n6 Pm Ao s2;lk;show#[z,n,Z,h0,h1,λt wt H3 s3 ht hwt=>?_];let N0:=s3 _ _ hl6;clear hl6;lk;ext t4 H4 n4 H5 p5;let tt:bX H4 H5:=λb xs e=>p5.keep (cJ e (n4.keep N0) (by intro z;cases z)) e;let ttl:jc H5 us tl:=dG (λu p h=>let⟨t,a,e1,e2,e3⟩:=h;#[t,a,e1,tt _ _^n4.keep^s3 _ _ e2,tt _ _^n4.keep^s3 _ _ e3]) amt;let em:(if m>1 then m else 1)=m:=by split<;>lia
  rw[em];show#[p5.same ((s6.trans s3).trans n4.same) SY,_,tl++[(st+r1 % k,wt)],_,_,Z,p5.self,fh ttl^.cons #[t4,t,Z,tt _ _ n4.self,tt _ _^n4.keep ht] .nil,λy hy=>?_,?_,λy hy=>?_,by simp[XB],∅];rcases aM.mp hy with hy|hy;show hok y hy;rw[aJ.mp hy];show hwt;rw[List.pairwise_append];show#[hpw,by simp,λu hu v hv=>?_];rw[aJ.mp hv];have:=(TW u hu).2;change u.1+m<=st+r1 % k;lia
  .rcases aM.mp hy with hy|hy;have:=TW y hy;lia;rw[aJ.mp hy];change 0<=st+r1 % k/\st+r1 % k+m<=st+r1 % k+m;lia
 .rintro Y' H2 ⟨s2,us,tl,st,x1,rfl,Pm,Ao,hok,hpw,TW,XB,ams⟩;lk;show q l us tl H2 s2 Pm Ao hok hpw (λz hz=>(TW z hz).1) (by rw[XB,aq];show hnl)
def wV(tl:List (M×Wt))(n m:M):Bool:=tl.any λz=>decide (z.1<n)&&decide (n-z.1<=m)
inductive acv(vs:List V)(H:Hp)(Q:VK)(z:XK):Prop|mk(f t l:Addr)(us:List V)(tl:List (Int×Wt))(o:Out)(m:Int)(z:vs=[¬f,¬t,.int m])(z:H f=!.tup^o.vals l)(z:H t=!.lst us)(z:jc H us tl)(z:Q (.bl^wV tl o.n m) H)
def KJ:T.near∩(1,acv):=by
 exists T.near,Cm,#[f,t,l,us,tl,o,m,rfl,hf,ht,Ao,q],".LH1|2[B3aB4-?XcSÀ3<0dS'adW Ny<032-n-n",5;let zw:=Ao.length;unfold Out.vals at hf;lk;show f_list (xs:=us) (λi Y' H'=>A3 (H'=H) (wV (tl.take i) o.n m=bj) (E2 λx y=>Y'=[!.ref f,!.ref t,!.int m,x,y])) ?_ ?_ ?_ ?_;show#[Z,Z,_,_,Z];rintro i Y' H' hi ⟨rfl,_⟩;show bI.of ht
 .rintro i x Y' H' hx ⟨rfl,IH,x1,y1,rfl⟩;let#[p,hp,u,a,Z,hu,ha]:=bw Ao hx;let hi:i<tl.length:=(gq hp).1;let tk:tl.take (i+1)=tl.take i++[p]:=by rw[b8,hp];rfl
  lk
  .rename_i h1 h2;let e:wV tl o.n m=true:=by unfold wV;rw[List.any_eq_true];show#[p,jd hp,by simp[h1,h2]]
   rw[e] at q;show q
  .rename_i h1 h2;show#[Z,?_,_,_,Z];unfold wV at IH ⊢;rw[tk,List.any_append,IH];simp[h1,h2]
  .rename_i h1;show#[Z,?_,_,_,Z];unfold wV at IH ⊢;rw[tk,List.any_append,IH];simp[h1]
 .rintro Y' H' ⟨rfl,IH,x1,y1,rfl⟩;rw[show dv=tl.length from zw,b9] at IH;rw[IH] at q;lk;show q
def CV(o r:Out)(tl:List (M×Wt))(m:M):=o=r\/((∃l,r.bL=o.bL++l)/\o.val=aw/\((o.tag = "cry" /\ wV tl o.n m=ag)\/(o.tag = "tired" /\ wV tl o.n (m-1)=ag)))
def IB(h:iQ tl n≠none):∃z∈tl,z.1=n:=iS λno=>h (M1 λz hz e=>no #[z,hz,e])
theorem R5{α:Type}{R:α->α->eL}:∀{l:List α},l.Pairwise R->∀a∈l,∀b∈l,a=b\/R a b\/R b a
 | _,.nil,a,ha,_,_=>nomatch ha
 | _,.cons h t,a,ha,b,hb=>by rcases aP.mp ha with e1|h1<;>rcases aP.mp hb with e2|h2;show .inl^e1.trans e2.symm;show .inr^.inl (by rw[e1];show h b h2);show .inr^.inr (by rw[e2];show h a h1);show R5 t a h1 b h2
theorem IC{m:M}(m1:1<=m){f g:cH}(h:rf (iQ tl) m.toNat f g):CV f.out g.out tl m:=by rcases h with h|⟨hp,ha,a,hd,hn,hw⟩;show .inl h;let#[z,hz,ez]:=IB hd;show .inr #[hp,ha,?_];rcases hw with⟨e,l⟩|⟨e,l⟩;show .inl #[by change(if f.wd = "" then _ else f.wd)=_;rw[e];rfl,List.any_eq_true.mpr #[z,hz,?_]];change(decide (z.1<(f.n:M))&&decide ((f.n:M)-z.1<=m))=ag;erw[qk,decide_eq_true_eq];lia;show .inr #[by change(if f.wd = "" then _ else f.wd)=_;rw[e];rfl,List.any_eq_true.mpr #[z,hz,?_]];change(decide (z.1<(f.n:M))&&decide ((f.n:M)-z.1<=m-1))=ag;erw[qk,decide_eq_true_eq];lia
theorem R6{xs:List M}{m:M}(hok:∀r∈rs,r.ok bp)(h:tZ (cG rs bp) (fH rs) m)(Fq:jV (cG rs bp)^fH rs)(qU:∀k r t,rs[k]?=!r->t∈dj rs k->kH rs r t^fH rs ((k:M),t))
  (tok:∀z∈tl,z.2.ok)(tpw:tl.Pairwise λx y=>x.1+m<=y.1)(hr:(qx rs xs (iQ []) most).tag ≠ "cry"):CV (qx rs xs (iQ tl) most) (qx rs xs (iQ []) most) tl m:=by let m1:=(IA h Fq qU).1;show IC m1 (R3 hok h Fq qU (λj t e=>RJ tok e) (λi j lt h1 h2=>?_) λe=>hr ?_);let#[z,hz,ez]:=IB h1;let#[y,hy,ey]:=IB h2;rcases R5 tpw z hz y hy with rfl|h|h<;>lia;change(if((vI rs xs).run k7 most).wd = "" then _ else((vI rs xs).run k7 most).wd)=_;rw[e];rfl
inductive M9(vs:List V)(H:Hp)(Q:VK)(z:XK):Prop|mk(a b l l' t:Addr)(us:List V)(o r:Out)(tl:List (Int×Wt))(m:Int)(z:vs=[¬a,¬b,¬t,.int m])(z:H a=!.tup^o.vals l)(z:H l=!.lst^o.bL.map V.int)(z:H b=!.tup^r.vals l')(z:H l'=!.lst^r.bL.map V.int)(z:o.FL)(z:r.FL)(z:H t=!.lst us)(z:jc H us tl)(z:CV o r tl m)(z:∀H',az H H'->Q (.bl true) H')
def ID:T.allowed∩(2,M9):=by
 exists T.allowed,HD,#[a,b,l,l',t,us,o,r,tl,m,rfl,ha,hl,hb,hm,fo,fr,ht,Ao,hA,q],".?SÆ01-n½?XzS!<0l<1]J*<0ªSÍ<0w-n.?K<0-:/KJ +0+2*3-:çÎê<0~Ïè/KJ +0+2*Ny3F",4,aaB hr.units;lk;show GY o.data r.data 2 () (Out.rdM ha hl) (Out.rdM hb hm) (Out.shM fo) (Out.shM fr) ?_;change F8 _ (.bl^eqO o r) H;cases he:eqO o r with
 | true =>
  lk;show q _^az.refl _
 | false =>
  rcases hA with rfl|⟨Mo,hv,hw⟩;rw[RW fo] at he;cases he;let ha0:=ha;unfold Out.vals at ha hb;rw[hv] at ha;let hfl:(o.bL.map V.int).length=o.bL.length:=aq _;let ec:fV (r.bL.map V.int) aw^some (((o.bL.map V.int).length:O):M)=o.bL.map V.int:=by let#[l,hl]:=Mo;unfold fV;rw[HT.jq,HT.iF,hl,bq,uC,Nat.sub_zero,mO^by simp,List.take_left]
  lk
  .rename_i p2 H2 n2;rw[ec] at n2;show aaC (.list^o.bL.map PyData.int) 1 () (.lst (bI.of^n2.keep hl)^DN.ints _) (.lst (bI.of n2.self)^DN.ints _) Sh.ints ?_;let IR:=n2.keep ha;erw[xg] at IR;clear ha ha0;lk;show#[Z,n2.same]
  .rename_i H2 s2 hc;show#[a,t,l,us,tl,o,m,Z,s2 _ _ ha0,s2 _ _ ht,Ao.same s2,?_];rcases hw with⟨_,e⟩|⟨z,_⟩;rw[e];show q _ s2;rw[z] at hc;show absurd hc ()
  .rename_i H2 s2 hc hd;show#[a,t,l,us,tl,o,m-1,Z,s2 _ _ ha0,s2 _ _ ht,Ao.same s2,?_];rcases hw with⟨z,_⟩|⟨_,e⟩;show absurd z hc;rw[e];show q _ s2
  .rename_i H2 s2 hc hd;rcases hw with⟨z,_⟩|⟨z,_⟩;show absurd z hc;show absurd z hd
def CW(us:List V)(p:O):fV us aw^some (p:M)=us.take p:=by unfold fV;rw[HT.jq,HT.iF,uC,Nat.sub_zero];rcases Nat.le_total p us.length with h|h;rw[mO h];rw[pM h,List.take_of_length_le h,b9]
theorem Na(us:List V)(p:O):fV us (!((p:M)+1)) aw=us.drop (p+1):=by unfold fV;rw[show((p:M)+1)=((p+1:O):M) from Z,HT.jq,HT.iF];rcases Nat.le_total (p+1) us.length with h|h;rw[mO h,List.take_of_length_le (by rw[yc];lia)];rw[pM h,List.drop_length,List.drop_of_length_le h,List.take_nil]
def R7{t:ae}{r':bv}(ht:H t=!.tup r'.vals)(h:Rows H us rs):∀p,p<bp->Rows H ((us.take p++[¬t])++us.drop (p+1))^rs.set p r':=by
 unfold Rows at h ⊢;induction h with
 | nil=>show λp hp=>absurd hp^jf _
 | cons h t' ih =>
  intro p hp;cases p with
  | zero=>show .cons #[t,Z,ht] t'
  | succ p=>show .cons h^ih p^Nat.lt_of_succ_lt_succ hp
inductive Nb(vs:List V)(H:Hp)(Q:VK)(z:XK):Prop|mk(a:Addr)(c:Int)(us:List V)(rs:List Row)(z:vs=[¬a,.int c])(z:H a=!.lst us)(z:Rows H us rs)(z:(∀r∈rs,r.ok rs.length))(z:rs≠[])(z:rs.length<1001)(z:∀(b:Addr)(us':List V)(rs':List Row)(H':Hp),az H H'->H' b=!.lst us'->Rows H' us' rs'->(∀r∈rs',r.ok rs'.length)->rs'.length=rs.length->Q (¬b) H')
set_option maxHeartbeats 20000000 in
theorem IE:T.changed∩(2,Nb):=by
 exists T.changed,ng,#[a,c,us,rs,rfl,ha,cY,hok,UV,hl,q],".=2`/b6 +1@J*0.=3I02.?K<3-:WWl0]2D*>A+C/b6 +1@*<3«0]V2.?XcK<3dUC/b6 +1@-:WWl0]2D*>A+C/b6 +1@*<3«0]V2.?Xcf<3>AAgd³C/b6 +1@-:WWl0]2D*Y>+<3*C/b6 +1@p3Q«0]V2.?K<3-:0.=4`/b6 +1@J*0-:WWl0]2D*Y£3]NyJ*3F>*4«0]V2",5,(by with_unfolding_all rfl);let zw:=cY.length;let h0:=List.length_pos_iff.mpr UV;lk;show#[c,40,rfl,(),(),λr1 RN RO=>?_];lk;obtain⟨p,ep,hp⟩:∃p:Nat,r1 % (us.length:Int)=(p:Int)/\p<rs.length:=by have:=dI (a:=r1) (b:=(us.length:Int)) ∅;show#[(r1 % (us.length:Int)).toNat,∅,∅]
 rw[ep];obtain⟨r,hr⟩:∃r,rs[p]?=some r:=#[_,iR hp];let#[ra,SC,qg]:=CB cY hr;let xQ:=hok r^jd hr;let c1:=CW us p;let c2:=Na us p;lk;show cj (bI.of ha) SC ?_;let fin:∀(t b:Addr)(r':Row)(H':Hp),az H H'->H' t=!.tup r'.vals->r'.ok rs.length->H' b=!.lst ((us.take p++[¬t])++us.drop (p+1))->Q (¬b) H':=λt b r' H' sm ht On hb =>
  q b _ (rs.set p r') H' sm hb (R7 ht (cY.same sm) p hp) (λz hz=>by
   rw[List.length_set];rcases List.mem_or_eq_of_mem_set hz with h|rfl;show hok z h
   .show On) (List.length_set)
 let tail:∀(x4:Option V)(l1 l6 t:Addr)(r':Row)(H6:Hp),az H H6->H6 l1=!.lst^us.take p->H6 l6=!.lst [¬t]->H6 t=!.tup r'.vals->r'.ok rs.length ->
   Dw (¬l1) (¬l6) H6 λx H1=>Nh (K6 K_) (eZ 0) (nJ^vP (Dr λi j=>V.int (i+j)) (eZ 2)^tC^V.int 1) gU [!.ref a,!.int c,!.int p,!.ref ra,x4] H1 λy H2=>Dw x y H2 Q:=by
  intro x4 l1 l6 t r' H6 s6 h1 h6 ht On;show Xi h1 h6 (by simp;lia) ?_;intro p7 H7 n7;let ha7:=n7.keep^s6 _ _ ha;let XB:(us.take p).length<=us.length:=by rw[cC];lia
  clear h1 h6;lk;ext p8 H8 n8;rw[c2] at n8;show Xi (n8.keep n7.self) n8.self (by simp;lia) ?_;intro p9 H9 n9;show fin t p9 r' H9 (((s6.trans n7.same).trans n8.same).trans n9.same) (n9.keep^n8.keep^n7.keep ht) On n9.self
 let onw:∀(nn:L2.St->Hp->Prop)(H':Hp)(xs:List V)(y:Int),(∀Y H,NC (vP Dw (vP Dw (Nh (K6 K_) (eZ 0) gU^nJ^eZ 2)^ZK^ql (vP (vS K_) (Nh (Du K_) (eZ 3) gU^nJ^vP (Dr λi j=>V.int (i-j)) (tCB (Oj K_)^ql (eZ 3) qF)^tC^V.int 1)^K4^ql (eZ 4) qF) qF)
     (Nh (K6 K_) (eZ 0) (nJ^vP (Dr λi j=>V.int (i+j)) (eZ 2)^tC^V.int 1) gU)) { nx:=λx H'=>Q V.cB H',rt:=Q } Y H->nn Y H) ->
   az H H'->H' ra=!.tup (xs++[.int y])->xs≠[]->xs.length<=10->(∀z,qf rs.length z->∃r':Row,r'.vals=xs++[.int z]/\r'.ok rs.length) ->
   Iv [V.int c,V.int 44] H' (λx H1=>tCB (Oj K_) (ql (eZ 0) qF) [!V.ref a,!V.int c,!(V.int ↑p),!V.ref ra,none] H1 λy H2=>rI (λx j=>0<j) (λi j=>V.int (i % j)) x y H2 λx H1=>gM 4 x [!V.ref a,!V.int c,!(V.int ↑p),!V.ref ra,none] H1 nn) E0:=by
  intro nn H' xs y hnn sm ahg hx0 hx1 On;let PQ:=sm _ _ ha;show#[c,44,rfl,(),(),λr2 Iw Iz=>?_];lk;show hnn _ _ ?_;clear hnn;let hz:=dI (a:=r2) (b:=(us.length:Int)) ∅;let#[r',er,hro]:=On (r2 % (us.length:Int)) #[hz.1,∅];let XB:(xs++[V.int y]).length=xs.length+1:=by simp
  lk;ext l1 H1 n1;rw[c1] at n1;let iP:=n1.keep ahg;let ex:(((xs++[V.int y]).length:Nat):Int)-1=(xs.length:Int):=by rw[XB];lia
  rw[ex];show vW (dD.of iP) (by rw[XB,HT.jq,HT.iF];lia) ?_;intro t1 H2 n2;rw[CW,List.take_left] at n2;clear ahg iP;lk;ext t2 H3 n3;show jG (dD.of^n3.keep n2.self) (dD.of n3.self) hx0 (by simp) (by simp;lia) ?_;intro t3 H4 n4;lk;ext l5 H5 n5;let s25:=((n2.same.trans n3.same).trans n4.same).trans n5.same;show tail _ l1 l5 t3 r' H5 ((sm.trans n1.same).trans s25) (s25 _ _ n1.self) n5.self (by rw[er];show n5.keep n4.self) hro
 let sid:∀(l1:Addr)(H1:Hp)(ky:Str)(d:Int)(m:List V),az H H1->H1 l1=!.lst^us.take p->H1 ra=!.tup (.str ky::.int d::m)->m≠[]->m.length<=10->(∀z,ja z->∃r':Row,r'.vals=[.str ky,.int z]++m/\r'.ok rs.length) ->
   Iv [V.int c,V.int 43] H1 (λx H1=>tC (V.int 3) [!V.ref a,!V.int c,!(V.int ↑p),!V.ref ra,none] H1 λy H2=>rI (λx j=>0<j) (λi j=>V.int (i % j)) x y H2 λx H1 =>
     qF [!V.ref a,!V.int c,!(V.int ↑p),!V.ref ra,none] H1 λxs H2=>aai (V.str ky::x::xs) H2 λx H1 =>
       Nh (Du K_) (eZ 3) (nJ^tC^V.int 2) gU [!V.ref a,!V.int c,!(V.int ↑p),!V.ref ra,none] H1 λy H2 =>
        vS K_ x y H2 λx H1=>qF [!V.ref a,!V.int c,!(V.int ↑p),!V.ref ra,none] H1 λxs H2=>aaj (x::xs) H2 λy H2 =>
           Dw (V.ref l1) y H2 λx H1=>Nh (K6 K_) (eZ 0) (nJ^vP (Dr λi j=>V.int (i+j)) (eZ 2)^tC^V.int 1) gU [!V.ref a,!V.int c,!(V.int ↑p),!V.ref ra,none] H1 λy H2=>Dw x y H2 Q) E0:=by intro l1 H1 ky d m s1 h1 iP hm0 hm1 On;show#[c,43,rfl,(),(),λr3 r30 r31=>?_];let#[r',er,hro]:=On (r3 % 3) #[∅,∅];let amw:=(Yl (.str ky) (.int d) m).2.2;lk;ext t2 H2 n2;show vW (dD.of^n2.keep iP) (by simp[HT.gu]) ?_;intro t3 H3 n3;rw[amw] at n3;show jG (dD.of^n3.keep n2.self) (dD.of n3.self) (by simp) hm0 (by simp;lia) ?_;intro t4 H4 n4;lk;ext l5 H5 n5;let s15:=((n2.same.trans n3.same).trans n4.same).trans n5.same;show tail _ l1 l5 t4 r' H5 (s1.trans s15) (s15 _ _ h1) n5.self (by rw[er];show n5.keep n4.self) hro
 cases r
 all_goals erw[Row.vals,Row.key,Row.rest] at qg
 case back =>
  lk;ext t1 H1 n1;show q a us rs H1 n1.same (n1.keep ha) (cY.same n1.same) hok rfl
 case look i y =>
  lk;ext l1 H1 n1;rw[c1] at n1;let IO:=n1.keep ha;let iP:=n1.keep qg;show#[c,41,rfl,(),(),λr2 Iw Iz=>?_];lk;ext t H2 n2 l3 H3 n3;show tail _ l1 l3 t (.look (r2 % 8) y) H3 ((n1.same.trans n2.same).trans n3.same) (n3.keep^n2.keep n1.self) n3.self (n3.keep n2.self) #[#[∅,∅],xQ.2]
 case mark y =>
  lk;show#[c,42,rfl,(),(),λr2 Iw Iz=>?_];lk
  .rename_i h2 l1 H1 n1;rw[c1] at n1;let IO:=n1.keep ha;let iP:=n1.keep qg;show#[c,41,rfl,(),(),λr3 r30 r31=>?_];lk;ext t H2 n2 l3 H3 n3;show tail _ l1 l3 t (.look (r3 % 4) y) H3 ((n1.same.trans n2.same).trans n3.same) (n3.keep^n2.keep n1.self) n3.self (n3.keep n2.self) #[#[∅,∅],xQ]
  .rename_i h2 t1 H1 n1;show onw _ H1 [.str "mark"] y (by assumption) n1.same (n1.keep qg) (by simp) (by simp) λz hz=>#[.mark z,rfl,hz]
 case out i y =>
  lk;ext t1 H1 n1;show onw _ H1 [.str "out", .int i] y (by assumption) n1.same (n1.keep qg) (by simp) (by simp) λz hz=>#[.out i z,rfl,xQ.1,hz]
 case fork i y y2 =>
  lk;ext t1 H1 n1;show onw _ H1 [.str "fork", .int i,.int y] y2 (by assumption) n1.same (n1.keep qg) (by simp) (by simp) λz hz=>#[.fork i y z,rfl,xQ.1,xQ.2.1,hz]
 case num d k v y =>
  lk;ext t1 H1 n1;let iP:=n1.keep qg;let IO:=n1.keep ha;show#[c,42,rfl,(),(),λr2 Iw Iz=>?_];lk;ext h2 l1 H2 n2;rw[c1] at n2;show sid l1 H2 "num" d [.int k,.int v,.int y] (n1.same.trans n2.same) n2.self (n2.keep iP) (by simp) (by simp) λz hz=>#[.num z k v y,rfl,hz,xQ.2];show onw _ H1 [.str "num", .int d,.int k,.int v] y (by assumption) n1.same iP (by simp) (by simp) λz hz=>#[.num d k v z,rfl,xQ.1,xQ.2.1,xQ.2.2.1,hz]
 case copy d k i y =>
  lk;ext t1 H1 n1;let iP:=n1.keep qg;let IO:=n1.keep ha;show#[c,42,rfl,(),(),λr2 Iw Iz=>?_];lk;ext h2 l1 H2 n2;rw[c1] at n2;show sid l1 H2 "copy" d [.int k,.int i,.int y] (n1.same.trans n2.same) n2.self (n2.keep iP) (by simp) (by simp) λz hz=>#[.copy z k i y,rfl,hz,xQ.2];show onw _ H1 [.str "copy", .int d,.int k,.int i] y (by assumption) n1.same iP (by simp) (by simp) λz hz=>#[.copy d k i z,rfl,xQ.1,xQ.2.1,xQ.2.2.1,hz]
 case op d o k i j y =>
  lk;ext t1 H1 n1;let iP:=n1.keep qg;let IO:=n1.keep ha;show#[c,42,rfl,(),(),λr2 Iw Iz=>?_];lk;ext h2 l1 H2 n2;rw[c1] at n2;show sid l1 H2 "op" d [.str o,.int k,.int i,.int j,.int y] (n1.same.trans n2.same) n2.self (n2.keep iP) (by simp) (by simp) λz hz=>#[.op z o k i j y,rfl,hz,xQ.2];show onw _ H1 [.str "op", .int d,.str o,.int k,.int i,.int j] y (by assumption) n1.same iP (by simp) (by simp) λz hz=>#[.op d o k i j z,rfl,xQ.1,xQ.2.1,xQ.2.2.1,xQ.2.2.2.1,xQ.2.2.2.2.1,hz]
inductive FW(vs:List V)(H:Hp)(Q:VK)(z:XK):Prop|mk(c:Int)(l:Addr)(nm:List Str)(z:vs=[.int c,¬l])(z:H l=!.lst^nm.map V.str)(z:nm.length=8)(z:∀v s H',az H H'->dS H' s v->S.ok (· ∈ nm) s->s.rows=1/\s.cnt=1->Q v H')
theorem CY:T.pY∩(3,FW):=by
 exists T.pY,nc,#[c,l,nm,rfl,hnm,h8,q],".v2T¥@R^!2C/b6 +1*0.=3C/b6 +0@.?U3-:>A+E2*/CO +0@.?U3-:>A+E2*E2.?i3-:>A*E2-:>A+E2+^Ë~C/b6 +0@+E2*E2",4,"_law_k",["_law_cell", "_law_names"],[0,1],["_law_names", "_law_cell"],lP (K:=K_) rfl;let hml:(nm.map V.str).length=nm.length:=aq _;let amx:∀i:M,0<=i->i<4->∃x∈nm,qG (nm.map V.str) i=!.str x:=λi h0 h1=>by obtain⟨k,rfl⟩:∃k:Nat,i=(k:Int):=#[i.toNat,∅];show#[nm[k]'∅,ly _,dM (by rw[bJ,iR ∅];rfl)]
 k_in;lk;show xA (λi ys H'=>az H H'/\∃ls:List bc,ys=ls.map V.str/\ls.length=i/\∀k∈ls,k∈nm) #[az.refl _,[],Z,Z,λk h=>nomatch h] ?_ ?_
 .rintro i ys H' hi ⟨sm,ls,rfl,hl,hlb⟩;let hi:i<3:=∅;let amy:=sm _ _ hnm;show#[di (by rw[aq];lia),?_];lk;show#[c,_,Z,∅,∅,λr r0 r1=>?_];lk;let#[x,mx,hx]:=amx (r % 4) ∅ ∅;show cj (bI.of amy) hx ?_;show#[sm,ls++[x],by rw[bq];rfl,by simp[hl],λk hk=>?_];rcases aM.mp hk with hk|hk;show hlb k hk;rw[aJ.mp hk];show mx
 rintro ys H2 ⟨s2,ls,rfl,hl,hlb⟩ l H3 n3;let N0:ls.length=3:=∅
 match ls,N0 with
 | [x,y,z],_ =>
 let bx:=hlb x (by simp);let by_:=hlb y (by simp);let bz:=hlb z (by simp);let s3:az H H3:=s2.trans n3.same;replace n3:gX H2 l (.lst [.str x,.str y,.str z]) H3:=n3;lk;show#[c,3,Z,(),(),λr4 r40 r41=>?_];lk
 .show#[c,4,Z,(),(),λv H4 s4 hv=>?_];lk;ext e H5 n5;show q _ (.num x v) _ ((s3.trans s4).trans n5.same) (by erw[dS];show#[e,Z,n5.self]) (by erw[S.ok];show#[bx,hv]) #[Z,Z]
 .rename_i e H5 n5;show q _ (.copy x y) _ (s3.trans n5.same) (by erw[dS];show#[e,Z,n5.self]) (by erw[S.ok];show#[bx,by_]) #[Z,Z]
 .rename_i e H5 n5;show q _ (.out x) _ (s3.trans n5.same) (by erw[dS];show#[e,Z,n5.self]) (by erw[S.ok];show bx) #[Z,Z]
 .show#[c,5,Z,(),(),λr5 r50 r51=>?_];lk;let#[ch,PP,mch]:=KH (i:=r5 % 9) ∅ ∅;show Oh () PP ?_;lk;ext e H5 n5;show q _ (.op x #[#v[ch]] y z) _ (s3.trans n5.same) (by erw[dS];show#[e,Z,n5.self]) (by erw[S.ok];show#[bx,mch,by_,bz]) #[Z,Z]
def Frm(H:Hp)(nm:List bc)(g:ae×ae×O×cf):=∃(wd x:bc)(pf:ae)(vf vb:List V)(s1 ss:List S),H g.1=!.lst [.str wd,.str x,¬pf,¬g.2.1]/\(g.2.2.2=bj->x∈nm)/\(g.2.2.2=ag->wd = "")/\H pf=!.tup vf/\bg H s1 vf/\S.uA (· ∈ nm) s1/\H g.2.1=!.lst vb/\bg H ss vb/\S.uA (· ∈ nm) ss/\S.bV s1+S.bV ss<=g.2.2.1
def Frm.keep(e:bX H H')(h1:H' g.1=H g.1)(h2:H' g.2.1=H g.2.1)(h:Frm H nm g):Frm H' nm g:=by let#[wd,x,pf,vf,vb,s1,ss,a1,a2,a3,a4,a5,a6,a7,a8,a9,LZ]:=h;show#[wd,x,pf,vf,vb,s1,ss,h1.trans a1,a2,a3,e _ _ a4,bg.mono e _ _ a5,a6,h2.trans a7,bg.mono e _ _ a8,a9,LZ]
def Ac(gs:List (ae×ae×O×cf)):List Addr:=gs.flatMap λg=>[g.1,g.2.1]
structure FY (H0 H:Hp) (X2:Addr) (nm:List Str) (gs:List (Addr×Addr×Nat×Bool)):Prop where
 same:az H0 H
 self:H X2=!.lst (gs.map λg=>V.ref g.1)
 new:∀a∈X2::Ac gs,H0 a=none
 nd:(X2::Ac gs).Nodup
 fr:∀g∈gs,Frm H nm g
def eO(as bs:List (ae×ae×O×cf)):Ac (as++bs)=Ac as++Ac bs:=xY
def CZ(h:g∈gs):g.1∈Ac gs/\g.2.1∈Ac gs :=
 #[lA.mpr #[g,h,by simp],lA.mpr #[g,h,by simp]]
def Wl{s:S}(h:S.uA N ss)(h1:S.ok N s):S.uA N (ss++[s]):=nD h^VG h1
theorem ur{b:ae}{n:O}{t:cf}{s:S}{vb:List V}(k:FY H0 H X2 nm (gs++[(p,b,n,t)]))(hb:H b=!.lst vb)(u:mT H b (.lst (vb++[v])) H')(hs:dS H s v)(ok:S.ok (· ∈ nm) s){m:O}(hm:n+s.rows<=m):FY H0 H' X2 nm (gs++[(p,b,m,t)]):=by
 let#[same,self,new,nd,fr]:=k;let e:bX H H':=by rw[show H'=upd H b _ from u];show qa hb _
 let ne:∀a,a≠b->H' a=H a:=λa h=>by rw[show H'=upd H b _ from u,cg h]
 let ad:Ac (gs++[(p,b,m,t)])=Ac (gs++[(p,b,n,t)]):=by rw[eO,eO];rfl
 rw[eO] at nd;let nd':=nd;erw[Ac,nX,List.flatMap_nil,cZ,iU,fB,aM,aP,d9,or_false,not_or] at nd;show#[u.same same^new b (by rw[eO];simp[Ac]),?_,ad▸new,by rw[ad,eO];show nd',λg hg=>?_];rw[ne X2^by grind,self];simp;rcases aM.mp hg with hg|hg;let m:=CZ hg;unfold Ac at m;show(fr g^j8 _ hg).keep e (ne _^by grind) (ne _^by grind);rw[aJ.mp hg];let#[wd,x,pf,vf,vb',s1,ss,a1,a2,a3,a4,a5,a6,a7,a8,a9,LZ]:=fr (p,b,n,t) (by simp);cases hb.symm.trans a7;show#[wd,x,pf,vf,vb++[v],s1,ss++[s],(ne p^by grind).trans a1,a2,a3,e _ _ a4,bg.mono e _ _ a5,a6,u.self,bg.mono e _ _^bg.append (bg.one hs) a8,Wl a9 ok,?_];rw[gC];erw[S.bV] at LZ ⊢;change _<=m;have:S.bV s1+S.bV ss<=n:=LZ;lia
def Frm.some(h:Frm H nm g):H g.1≠none/\H g.2.1≠none:=by let#[wd,x,pf,vf,vb,s1,ss,a1,a2,a3,a4,a5,a6,a7,a8,a9,LZ]:=h;rw[a1,a7];show#[nofun,nofun]
theorem FY.some(k:FY H0 H X2 nm gs){a:ae}(h:a∈X2::Ac gs):H a≠none:=by rcases aP.mp h with rfl|h;rw[k.self];nofun;let#[g,hg,ha]:=lA.mp h;have:=(k.fr g hg).some;erw[aP,d9,or_false] at ha;rcases ha with rfl|rfl;show this.1;show this.2
def Wm{tl:List (ae×ae×O×cf)}(k:FY H0 H X2 nm (gs++tl))(u:mT H X2 (.lst (gs.map λg=>V.ref g.1)) H'):FY H0 H' X2 nm gs:=by
 let e:bX H H':=by rw[show H'=upd H X2 _ from u];show qa k.self _
 let ne:∀a,a≠X2->H' a=H a:=λa h=>by rw[show H'=upd H X2 _ from u,cg h]
 let sub:∀a∈Ac gs,a∈Ac (gs++tl):=λa h=>by rw[eO];show j8 _ h
 let nd:=k.nd;rw[eO,<- mK] at nd;let nd1:=(fB.mp nd).1;show#[u.same k.same^k.new X2^by simp,u.self,λa h=>k.new a ?_,nd1,λg hg=>?_];rcases aP.mp h with rfl|h;simp;show d8 _^sub a h;let m:=CZ hg;let nO:=(iU.mp nd1).1;show(k.fr g^j8 _ hg).keep e (ne _ λh=>nO (h▸m.1)) (ne _ λh=>nO (h▸m.2))
def FY.grow(k:FY H0 H X2 nm gs)(e:az H H'):FY H0 H' X2 nm gs:=by
 let ke:∀a,H a≠none->H' a=H a:=λa h=>by
  cases q:H a with
  | none=>show absurd q h
  | some o=>show e _ _ q
 show#[k.same.trans e,e _ _ k.self,k.new,k.nd,λg hg=>(k.fr g hg).keep (sT e) (ke _ (k.fr g hg).some.1)^ke _ (k.fr g hg).some.2]
theorem C0{H3:Hp}{b:ae}{n:O}{t:cf}{tl:List (ae×ae×O×cf)}(k:FY H0 H X2 nm (gs++tl))(e:az H H3)(hp:H p=aw)(hb:H b=aw)(pb:p≠b)(f:Frm H3 nm (p,b,n,t))(u:mT H3 X2 (.lst ((gs++[(p,b,n,t)]).map λg=>V.ref g.1)) H'):FY H0 H' X2 nm (gs++[(p,b,n,t)]):=by
 let k3:=k.grow e;let n0:∀a,H a=aw->H0 a=none:=λa h=>by
  cases q:H0 a with
  | none=>rfl
  | some o=>show absurd (k.same _ _ q) (by rw[h];nofun)
 let fr:∀a,H a=aw->a∉X2::Ac (gs++tl):=λa h m=>k.some m h;let e3:bX H3 H':=by rw[show H'=upd H3 X2 _ from u];show qa k3.self _
 let ne:∀a,a≠X2->H' a=H3 a:=λa h=>by rw[show H'=upd H3 X2 _ from u,cg h]
 let pO:=fr p hp;let bO:=fr b hb;let new:=k.new;let nd:=k.nd;rw[eO] at pO bO nd new;let ad:Ac (gs++[(p,b,n,t)])=Ac gs++[p,b]:=by rw[eO];rfl
 show#[u.same k3.same^new X2^by simp,u.self,λa h=>?_,?_,λg hg=>?_]
 .rw[ad] at h;have:=n0 p hp;have:=n0 b hb
  grind
 .rw[ad]
  grind
 rcases aM.mp hg with hg|hg;let m:=CZ hg;show(k3.fr g^j8 _ hg).keep e3 (ne _^by grind) (ne _^by grind);rw[aJ.mp hg];show f.keep e3 (ne _^by grind) (ne _^by grind)
theorem bg.len:∀{ss:List S}{vs:List V},bg H ss vs->dA<=S.bV ss:=by
 intro ss;induction ss with
 | nil=>intro vs h;erw[bg] at h;subst h;show aV _
 | cons s ss ih =>
  intro vs h;erw[bg] at h;let#[v,vr,Z,_,h]:=h;have:=ih h;have:1<=s.rows:=by cases s<;>simp[S.rows]<;>lia
  erw[S.bV,ck];lia
theorem Nc{l:List α}{x:α}{n:O}(hn:d4=n+1)(hx:l[n]?=!x):qG l (-1)=!x:=by unfold qG NV;rw[if_neg (),if_pos ∅];change l[((-1:M)+(d4:M)).toNat]?=!x;rw[show((-1:M)+(d4:M)).toNat=n by lia];show hx
def FZ(l:List α)(x:α):qG (l++[x]) (-1)=!x:=Nc (n:=d4) (by simp) (by simp)
inductive R8(vs:List V)(H:Hp)(Q:VK)(z:XK):Prop|mk(H0:Hp)(X2 l q c p b:Addr)(nm:List Str)(gs:List (Addr×Addr×Nat×Bool))(m n:Nat)(t:Bool)(z:vs=[¬X2,¬l])(z:H0 l=!.lst^nm.map V.str)(z:nm.length=8)(z:FY H0 H X2 nm (gs++[(q,c,m,t),(p,b,n,false)]))(z:m<=1000)(z:n<=1000)(z:gs.length<=100)(z:∀H',FY H0 H' X2 nm (gs++[(q,c,m+(n+5),t)])->Q .cB H')
theorem Bw:T.closed∩(1,R8):=by
 exists T.closed,jZ,#[H0,X2,l,q,c,p,b,nm,gs,m,n,t,rfl,hl,h8,k,hm,hn,hg,done],".Ì¯0÷[B2[B3[B4aB5-xK2.=6D+>A+E1@*>A+3A+3*E1-GOEI0_*>A+3*r*W56-xK2-GOEI0_*>A+3+4*r*5-GOEI0_*>A+3+r*5*¤",7;let#[wd,x,pf,vf,vb,s1,ss,a1,a2,a3,a4,a5,a6,a7,a8,a9,LZ]:=k.fr (p,b,n,false) (by simp);let#[wd',x',pf',vf',vb',s1',ss',a1',a2',a3',a4',a5',a6',YC,a8',a9',arC]:=k.fr (q,c,m,t) (by simp);let hO:=k.self;let hx:=a2 Z;let nd:=k.nd;rw[eO] at nd;erw[Ac,nX,List.flatMap_nil,cZ,iU,fB,aM,aP,mK,List.nil_append,d9,or_false,not_or] at nd;let pO:p≠X2:=by grind
 let bO:b≠X2:=by grind
 let cO:c≠X2:=by grind
 let qO:q≠X2:=by grind
 let pb:p≠b:=by grind
 let lO:l≠X2:=λh=>by rw[h,k.new X2^by simp] at hl;cases hl
 let SY:=k.same _ _ hl;k_in;lk;show s_pop hO (y:=¬p) (by simp) λH1 u1=>?_;let k1:FY H0 H1 X2 nm (gs++[(q,c,m,t)]):=Wm (tl:=[(p,b,n,false)]) (by simpa using k) (by simpa using u1);let e1:bX H H1:=by rw[show H1=upd H X2 _ from u1];show qa hO _
 replace a1:=u1.keep pO a1;replace a7:=u1.keep bO a7;replace a1':=u1.keep qO a1';replace YC:=u1.keep cO YC;replace a4:=e1 _ _ a4;replace a5:=bg.mono e1 _ _ a5;replace a8:=bg.mono e1 _ _ a8;replace SY:=u1.keep lO SY;let hO1:=k1.self;clear k u1 hO a4' a5' a8' e1;let Rs:qG ((gs++[(q,c,m,t)]).map λg=>V.ref g.1) (-1)=!.ref q:=by rw[bq];show FZ _ _
 let#[y,hy,my]:=xM (xs:=nm) (i:=7) () ∅;let lb:=a8.len;let lb':vb'.length<=1000:=by let#[_,_,_,_,_,_,_,_,_,_,_,_,_,f7,f8,_,f10]:=k1.fr (q,c,m,t) (by simp);cases f7.symm.trans YC;have:=f8.len;simp only at f10;lia
 simp only at LZ;lk
 .show cj (bI.of SY) hy ?_;lk;ext t1 H2 n2;show cj (bI.of^n2.keep SY) hy ?_;lk;ext t2 H3 n3 l4 H4 n4;let e4:=(n2.same.trans n3.same).trans n4.same;let k4:=k1.grow e4;let r8:=bg.mono (sT e4) _ _ a8;let v1:=n4.keep^n3.keep n2.self;let v2:=n4.keep n3.self;let v3:=n4.self;replace a7:=e4 _ _ a7;replace a1':=e4 _ _ a1';replace YC:=e4 _ _ YC;clear k1 hO1 SY a1 a4 n2 n3 n4 e4 a8 a5;show cj (bI.of k4.self) Rs ?_;lk;ext l5 H5 n5 l6 H6 n6 e H7 n7 H8 u8;let e7:=(n5.same.trans n6.same).trans n7.same;show done _^ur (s:=.xP x (ss++[.num y 1,.op x "-" x y])) (k4.grow e7) (e7 _ _ YC) u8 ?_ ?_ ?_;erw[dS];show#[e,l6,vb++[V.ref t1,V.ref t2],Z,n7.self,n7.keep n6.self,bg.append ?_^bg.mono (sT e7) _ _ r8];erw[bg,dS];show#[_,_,Z,#[t1,Z,e7 _ _ v1],_,_,Z,#[t2,Z,e7 _ _ v2],Z];erw[S.ok];show#[hx,nD a9 ?_];erw[S.uA,S.ok];show#[#[my,(),()],#[hx,(),hx,my],trivial];erw[S.rows,gC,S.bV];lia
 .show cj (bI.of hO1) Rs ?_;lk;ext l1 H2 n2 e H3 n3 H4 u4;let e3:=n2.same.trans n3.same;show done _^ur (s:=.ifs x s1 ss) (k1.grow e3) (e3 _ _ YC) u4 ?_ ?_ ?_;erw[dS];show#[e,pf,l1,vf,vb,Z,n3.self,e3 _ _ a4,n3.keep n2.self,bg.mono (sT e3) _ _ a5,bg.mono (sT e3) _ _ a8];erw[S.ok];show#[hx,a6,a9];erw[S.rows];lia
 .show cj (bI.of hO1) Rs ?_;lk;ext l1 H2 n2 p1 H3 n3 e H4 n4 H5 u5;let e4:=(n2.same.trans n3.same).trans n4.same;show done _^ur (s:=.ifs x ss []) (k1.grow e4) (e4 _ _ YC) u5 ?_ ?_ ?_;erw[dS];show#[e,l1,p1,vb,[],Z,n4.self,n4.keep^n3.keep n2.self,n4.keep n3.self,bg.mono (sT e4) _ _ a8,by erw[bg]];erw[S.ok,S.uA];show#[hx,a9,trivial];erw[S.rows,S.bV];lia
def uu(gs:List (ae×ae×O×cf)):=∃k,(gs.map λg=>g.2.2.2)=ag::List.replicate k bj
def uv{gi:List (ae×ae×O×cf)}{b p' b':ae}{n m:O}{t:cf}(h:uu (gi++[(p,b,n,t)])):uu (gi++[(p',b',m,t)]):=by simpa[uu] using h
def KL{b:ae}{n:O}(h:uu gs):uu (gs++[(p,b,n,false)]):=by let#[k,h]:=h;show#[k+1,by rw[bq,h,List.replicate_succ'];rfl]
def xS{gs:List α}(h:0<gs.length):∃gi g,gs=gi++[g]:=by simpa[List.concat_eq_append] using(List.eq_nil_or_concat gs).resolve_left^List.length_pos_iff.mp h
def R9{gi:List (ae×ae×O×cf)}{b:ae}{n:O}{t:cf}(h:uu (gi++[(p,b,n,t)]))(hl:0<gi.length):t=bj/\uu gi:=by
 let#[k,h]:=h;rw[bq] at h;cases k with
 | zero =>
  have:=congrArg List.length h;simp at this;rw[this] at hl;cases hl
 | succ k =>
  rw[List.replicate_succ',<- mK] at h;have:=List.append_inj' h Z;show#[by simpa using this.2,k,this.1]
def F0(gs:List (ae×ae×O×cf)):Nat:=(gs.map λg=>g.2.2.1+5).sum
def dP(as bs:List (ae×ae×O×cf)):F0 (as++bs)=F0 as+F0 bs:=by simp[F0]
def gF{a:ae}(e:az H H')(h:H' a=aw):H a=none:=by
 cases q:H a with
 | none=>rfl
 | some o=>show absurd (e _ _ q) (by rw[h];nofun)
inductive acy(K_:aC)(vs:List V)(H:Hp)(Q:VK)(z:XK):Prop|mk(a l:Addr)(ns:List Int)(nm:List Str)(z:vs=[¬a,¬l])(z:bI K_ H a^ns.map V.int)(z:ns.length<=5)(z:H l=!.lst^nm.map V.str)(z:nm.length=8)(z:∀(p:Addr)(vb:List V)(ss:List S)(H':Hp),az H H'->H' p=!.tup vb->bg H' ss vb->S.uA (· ∈ nm) ss->S.bV ss<=30->Q (¬p) H')
theorem Wn:T.body∩(4,acy K_):=by
 exists T.body,pT,#[a,l,ns,nm,rfl,ha,hn,hl,h8,q],".=2D*DAA+¤*P.LH0B3.=4C/b6 +3@-¾XcU4diJ*2-GO2*DA+I1C/b6 +3@+¤*P-¾XcU4diJ*2.=5I1¡J*2.=6IDb@u'Lm 'T.XM 'BT.W5 *ÎêC/b6 +3@FÏ.GOEI2_*>A+5*`/b6 +3@6-GO2*DA+5+¤*P-¾XcU4dKEI2_-ÌDA+EI2_+r*EI2_*Pø2_-¾Xci4d³J*2-G/Bw +2*1-GOEI2_*/CY +3*1.­³J*2-G/Bw +2*1-:r*EE2",7;lk;ext p0 H1 n1 b0 H2 n2 p1 H3 n3 X2 H4 n4;let e4:az H H4:=((n1.same.trans n2.same).trans n3.same).trans n4.same;let k0:FY H H4 X2 nm [(p1,b0,0,true)]:=by let hb:H b0=none:=gF n1.same n2.1;let hp:H p1=none:=gF (n1.same.trans n2.same) n3.1;let hO:H X2=none:=gF ((n1.same.trans n2.same).trans n3.same) n4.1;let pb:b0≠p1:=aH n2.self n3.1;let bO:b0≠X2:=aH (n3.keep n2.self) n4.1;let pO:p1≠X2:=aH n3.self n4.1;show#[e4,n4.self,?_,?_,?_];simp[Ac,hb,hp,hO];simp[Ac,pb.symm,bO.symm,pO.symm];intro g hg;rw[aJ.mp hg];show#[_,_,p0,[],[],[],[],n4.keep n3.self,nofun,λu=>rfl,n4.keep^n3.keep^n2.keep n1.self,Z,trivial,n4.keep^n3.keep n2.self,Z,trivial,ay _]
 show f_list (xs:=ns.map V.int) (λi Y' H'=>E5 λ(gs:List (ae×ae×O×cf))(x3 x4 x5 x6:Option V)=>A5 (Y'=[!.ref a,!.ref l,!.ref X2,x3,x4,x5,x6]) (FY H H' X2 nm gs) (uu gs) (gs.length<=4) (F0 gs<=5+6*i)) ?_ ?_ ?_ ?_;show#[_,_,_,_,_,Z,k0,#[0,Z],by simp,by simp[F0]];rintro i Y' H' hi ⟨gs,_,_,_,_,_,k,_⟩;show k.same.seq ha
 .rintro i x Y' H5 hx ⟨gs,x3,x4,x5,x6,rfl,k,kb,kl,kw⟩;rw[bJ] at hx;let#[z,hz,Z]:=cU.mp hx;let hi:i<ns.length:=(gq hz).1;let#[gi,#[p,b,n,t],Z]:=xS (gs:=gs) (by let#[j,e]:=kb;have:=congrArg List.length e;simp at this;lia);let XC:=k.same _ _ hl;let S0:=k.self;let XB:((gi++[(p,b,n,t)]).map λg=>V.ref g.1).length=gi.length+1:=by simp
  let Rs:qG ((gi++[(p,b,n,t)]).map λg=>V.ref g.1) (-1)=!.ref p:=by rw[bq];show FZ _ _
  let#[wd,x,pf,vf,vb,s1,ss,a1,a2,a3,a4,a5,a6,a7,a8,a9,LZ]:=k.fr (p,b,n,t) (by simp);simp only at a1 a2 a3 a7 LZ;rw[dP] at kw;replace kw:F0 gi+(n+5)<=5+6*i:=kw;let lb:=a8.len;let e1:(gi++[(p,b,n,t)]).length=gi.length+1:=by simp
  clear k0 n1 n2 n3 n4 e4;lk;show#[z,6,Z,(),(),λr1 RN RO=>?_];lk;show Jm (λH'=>H'=H5/\gi.length<3) (λH'=>H'=H5) ?_ ?_ ?_
  .lk;show#[Z,∅];rfl;rfl
  .intro _ e;rw[e.1];let hg:=e.2;clear e;lk;show#[z,7,Z,(),(),λr2 Iw Iz=>?_];let#[y,hy,my]:=xM (xs:=nm) (i:=r2 % 4) ∅ ∅;lk;show cj (bI.of XC) hy ?_;lk;ext p6 H6 n6 b7 H7 n7 p8 H8 n8 H9 u9;let e7:=n6.same.trans n7.same;show#[(gi++[(p,b,n,t)])++[(p8,b7,0,false)],_,_,_,_,Z,C0 (tl:=[]) (by rw[cZ];show k) (e7.trans n8.same) (gF e7 n8.1) (gF n6.same n7.1) (aH n7.self n8.1).symm #["if", y,p6,[],[],[],[],n8.self,λu=>my,nofun,n8.keep^n7.keep n6.self,Z,trivial,n8.keep n7.self,Z,trivial,ay _] (by rw[bq];show u9),KL kb,by simp;lia,?_];rw[dP,dP];change F0 gi+(n+5)+5<=_;lia
  intro _ e;rw[e];clear e;show Jm (λH'=>H'=H5/\gi.length<2) (λH'=>H'=H5) ?_ ?_ ?_
  .lk;show#[Z,∅];rfl;rfl
  .intro _ e;rw[e.1];let hg:=e.2;clear e;lk;let#[y,hy,my]:=xM (xs:=nm) (i:=3+((((gi++[(p,b,n,t)]).map λg=>V.ref g.1).length:O):M)) ∅ ∅;show cj (bI.of XC) hy ?_;lk;ext p6 H6 n6;show#[z,13,Z,(),(),λr2 Iw Iz=>?_];lk;let#[m,hm,mm]:=kE (ns:=[4,61]) (i:=if decide (r2 % 8=1)=ag then 1 else 0) (by split<;>decide) (by split<;>decide);show cj (bI.of n6.self) hm ?_;let m0:0<m/\m<=61:=by simp at mm;lia
   let hO6:=n6.keep S0;let a16:=n6.keep a1;let a76:=n6.keep a7;let k6:=k.grow n6.same;let bO:b≠X2:=λe=>by have:=k.nd;rw[eO] at this;simp[Ac,e] at this
   clear k XC S0 a1 a4 a7;lk;show cj (bI.of hO6) Rs ?_;lk;show#[z,8,Z,(),(),λr3 r30 r31=>?_];let bm:=dI (a:=r3) (b:=m) m0.1;lk;ext t7 H7 n7 H8 u8 p9 H9 n9 b10 Ab wM wN Dj o6 HN u12;let k8:=ur (m:=n+1) (s:=.num y (r3 % m)) (k6.grow n7.same) (n7.keep a76) u8 (by erw[dS];show#[t7,Z,n7.self]) (by erw[S.ok];show#[my,∅,∅])^ay _;let e10:=n9.same.trans wM.same;show#[(gi++[(p,b,n+1,t)])++[(wN,b10,0,false)],_,_,_,_,Z,C0 (tl:=[]) (by rw[cZ];show k8) (e10.trans o6.same) (gF e10 o6.1) (gF n9.same wM.1) (aH wM.self o6.1).symm #["while", y,p9,[],[],[],[],o6.self,λu=>my,nofun,o6.keep^wM.keep n9.self,Z,trivial,o6.keep wM.self,Z,trivial,ay _]^by simpa using u12,KL^uv kb,by simp;lia,?_];rw[dP,dP];change F0 gi+(n+1+5)+5<=_;lia
  intro _ e;rw[e];clear e;show Jm (λH'=>H'=H5/\wd = "if") (λH'=>H'=H5) ?_ ?_ ?_
  .lk
   .show cj (bI.of S0) Rs ?_;lk;show#[Z,by assumption];rfl
   .rfl
  .intro _ e;rw[e.1];let hg:=e.2;clear e;obtain rfl:t=false:=by
    cases t with
    | false=>rfl
    | true=>show absurd ((a3 Z).symm.trans hg) ()
   lk;show cj (bI.of S0) Rs ?_;lk;show cj (bI.of S0) Rs ?_;lk;ext p6 H6 n6 b7 H7 n7 p8 H8 n8;let e7:=n6.same.trans n7.same;let e8:=e7.trans n8.same;show aay (j:=gi.length) (e8 _ _ S0) (by rw[XB];unfold NV;rw[if_neg (),if_pos ∅];congr 1;lia) ?_;intro H9 u9;show abI _ _ #[gi++[(p8,b7,n,false)],_,_,_,_,Z,C0 (tl:=[(p,b,n,false)]) k e8 (gF e7 n8.1) (gF n6.same n7.1) (aH n7.self n8.1).symm #["else", x,p6,vb,[],ss,[],n8.self,λu=>a2 Z,nofun,n8.keep^n7.keep n6.self,bg.mono (sT e8) _ _ a8,a9,n8.keep n7.self,Z,trivial,?_] ?_,uv kb,by simp at kl ⊢;lia,?_];change S.bV ss+0<=n;lia;rw[bq] at u9 ⊢;rw[List.set_append_right _ _^by simp] at u9;simpa using u9;rw[dP];change F0 gi+(n+5)<=_;lia
  intro _ e;rw[e];clear e;show Jm (λH'=>H'=H5/\0<gi.length) (λH'=>H'=H5) ?_ ?_ ?_
  .lk;show#[Z,∅];rfl;rfl
  .intro _ e;rw[e.1];let hg:=e.2;clear e;let#[Z,kb']:=R9 kb hg;let#[gj,#[q',c',m',t'],Z]:=xS hg;lk;rw[dP] at kw;replace kw:F0 gj+(m'+5)+(n+5)<=5+6*i:=kw;show#[H,X2,l,q',c',p,b,nm,gj,m',n,t',Z,hl,h8,by simpa using k,∅,∅,by simp at kl;lia,λH' k'=>abI _ _ #[_,_,_,_,_,Z,k',uv kb',by simp at kl ⊢;lia,?_]];rw[dP];change F0 gj+(m'+(n+5)+5)<=_;lia
  .intro _ e;rw[e];clear e;lk;show cj (bI.of S0) Rs ?_;lk;show#[z,l,nm,Z,XC,h8,λv s6 H6 e6 hs hok hr1=>?_];let a76:=e6 _ _ a7;lk;ext H7 u7;show#[_,_,_,_,_,Z,ur (m:=n+1) (k.grow e6) a76 u7 hs hok ∅,uv kb,by simp at kl ⊢;lia,?_];rw[dP];change F0 gi+(n+1+5)<=_;lia
 .rintro Y' H5 ⟨gs,x3,x4,x5,x6,rfl,k,kb,kl,kw⟩;show abA _ _ ?_;lk;show pP (λm Y' H'=>∃gs,A6 (m=gs.length) (Y'=[!.ref a,!.ref l,!.ref X2,x3,x4,x5,x6]) (FY H H' X2 nm gs) (uu gs) (gs.length<=4) (F0 gs<=35)) #[_,gs,Z,Z,k,kb,kl,by rw[aq] at kw;lia] ?_;clear k kb kl kw gs;rintro m Y' H6 ⟨gs,rfl,rfl,k,kb,kl,kw⟩;let S0:=k.self;let XB:(gs.map λg=>V.ref g.1).length=gs.length:=aq _;let hl0:0<gs.length:=by let#[j,e]:=kb;have:=congrArg List.length e;simp at this;lia
  let#[gi,#[p,b,n,t],Z]:=xS hl0;let e1:(gi++[(p,b,n,t)]).length=gi.length+1:=by simp
  rw[dP] at kw;replace kw:F0 gi+(n+5)<=35:=kw;lk;let hg:0<gi.length:=∅;let#[Z,kb']:=R9 kb hg;let#[gj,#[q',c',m',t'],Z]:=xS hg;rw[dP] at kw;replace kw:F0 gj+(m'+5)+(n+5)<=35:=kw;show#[H,X2,l,q',c',p,b,nm,gj,m',n,t',Z,hl,h8,by simpa using k,∅,∅,by simp at kl;lia,λH' k'=>#[_,?_,_,Z,Z,k',uv kb',by simp at kl ⊢;lia,?_]];simp;rw[dP];change F0 gj+(m'+(n+5)+5)<=_;lia
  .rename_i hg;obtain rfl:gi=[]:=BF.mp ∅;let#[wd,x,pf,vf,vb,s1,ss,a1,a2,a3,a4,a5,a6,a7,a8,a9,LZ]:=k.fr (p,b,n,t) (by simp);simp only at a1 a7 LZ;let e6:=k.same;clear XB;replace S0:H6 X2=!.lst [¬p]:=S0;lk;ext l7 H7 n7;replace kw:0+(n+5)<=35:=kw;show q l7 vb ss H7 (e6.trans n7.same) n7.self (bg.mono (sT n7.same) _ _ a8) a9 ∅
def wW{p q:O}(h:p<=q):firstM rs p<=firstM rs q:=by
 induction h with
 | refl=>show ay _
 | step _ ih=>show bP ih^oh _ _
theorem C1{R:bv}:∀{f:M}{bs:List M},R∈dN f bs->∃b∈bs,∃i:O,i<bs.length/\R=.look b (f+i+1):=by
 intro f bs;induction bs generalizing f with
 | nil=>intro h;cases h
 | cons b bs ih =>
  intro h;rcases aP.mp h with h|h;show#[b,by simp,0,by simp,by simpa using h]
  .let#[c,hc,i,hi,e]:=ih h;show#[c,by simp[hc],i+1,by simp;lia,by rw[e];congr 1;lia]
def acz{n':M}{f:M->M}{R:bv}(h:r.ok n)(hf:∀q,qf n q->qf n'^f q)(ha:r.own=2->qf n' (a+1))(hR:R∈(r.kX f).dbl a):R.ok n':=by
 let s0:ja 0:=#[(),()];let s1:ja 1:=#[(),()];cases r<;>erw[Row.kX,Row.dbl,aP,d9,or_false] at hR
 case num =>
  rcases hR with rfl|rfl;show#[s0,h.2.1,h.2.2.1,ha Z];show#[s1,h.2.1,h.2.2.1,hf _ h.2.2.2]
 case copy =>
  rcases hR with rfl|rfl;show#[s0,h.2.1,h.2.2.1,ha Z];show#[s1,h.2.1,h.2.2.1,hf _ h.2.2.2]
 case op =>
  rcases hR with rfl|rfl;show#[s0,h.2.1,h.2.2.1,h.2.2.2.1,h.2.2.2.2.1,ha Z];show#[s1,h.2.1,h.2.2.1,h.2.2.2.1,h.2.2.2.2.1,hf _ h.2.2.2.2.2]
 case out=>rw[hR];show#[h.1,hf _ h.2]
 case fork=>rw[hR];show#[h.1,hf _ h.2.1,hf _ h.2.2]
 case look=>rw[hR];show#[h.1,hf _ h.2]
 case mark=>rw[hR];show hf _ h
 case back=>rw[hR];show h
theorem Wo(hok:∀r∈rs,r.ok bp):∀R∈fY rs bp,R.ok (fY rs bp).length:=by
 rw[gp^ay _];let le:∀p,p<bp->firstM rs p+zG rs p<=firstM rs rs.length:=λp hp=>wW (p:=p+1) hp;let sz:∀p(hp:p<bp),zG rs p=qh rs p+rs[p].own:=λp hp=>by unfold zG;rw[iR hp];rfl
 let ow:∀r:bv,1<=r.own:=λr=>by unfold Row.own;split<;>lia
 let hf:∀q,qf bp q->qf (firstM rs bp)^vz rs q:=λq hq=>by let h:=le q.toNat (by have:=hq.1;have:=hq.2;lia);rw[sz q.toNat (by have:=hq.1;have:=hq.2;lia)] at h;have:=ow (rs[q.toNat]'(by have:=hq.1;have:=hq.2;lia));unfold vz;show#[∅,∅]
 let go:∀m,m<=bp->∀R∈fY rs m,R.ok^firstM rs rs.length:=by
  intro m;induction m with
  | zero=>intro _ R h;cases h
  | succ p ih =>
   intro hp R hR;let h1:=le p hp;rw[sz p hp] at h1;let h2:=ow rs[p];rw[fY,iR hp] at hR;rcases aM.mp hR with h|h;show ih ∅ R h;rcases aM.mp (show R∈CF rs p++_ from h) with h|h
   .unfold CF at h;unfold qh at h1;split at h
    .rename_i hm;rw[if_pos hm] at h1;rcases aM.mp h with h|h
     .let#[b,hb,i,hi,Z]:=C1 h;show#[MB rs p b hb,∅,∅]
     .rw[aJ.mp h];show#[∅,∅]
    .cases h
   .show acz (hok _^ly hp) hf (λe=>?_) h;rw[e] at h1;show#[∅,∅]
 show go _^ay _
theorem Wq(h:0<bp):fY rs bp≠[]:=λe=>by
 let h0:=gp (rs:=rs) (p:=bp)^ay _;let h1:=wW (rs:=rs) (p:=1) h;let h2:zG rs 0=qh rs 0+rs[0].own:=by unfold zG;rw[iR h];rfl
 let h3:1<=rs[0].own:=by unfold Row.own;split<;>lia
 let h4:firstM rs 1=0+zG rs 0:=rfl;rw[e] at h0;let h0:0=firstM rs rs.length:=h0;lia
theorem By:∀{xs ys:List bc},xs.Nodup->(∀x∈xs,x∈ys)->ab<=ce
 | [],_,_,_=>aV _
 | x::xs,ys,h,q=>by rw[iU] at h;let hx:=q x (by simp);have:=By (ys:=ys.erase x) h.2 λy hy=>(List.mem_erase_of_ne (λ(e:y=x)=>h.1 (by rw[<- e];show hy))).mpr (q y^by simp[hy]);rw[List.length_erase_of_mem hx] at this;let hp:=List.length_pos_of_mem hx;rw[ck];lia
end
mutual
theorem acA{N:bc->eL}:∀s:S,S.ok N s->∀x∈cR s.dF,N x
 | .num y n,h,x,hx=>by simp[S.dF,cR,S.own] at hx;rw[hx];show h.1
 | .copy y a,h,x,hx=>by
  simp[S.dF,cR,S.own] at hx;rcases hx with e|e<;>rw[e];show h.1;show h.2
 | .op y o a b,h,x,hx=>by
  simp[S.dF,cR,S.own] at hx;rcases hx with e|e|e<;>rw[e];show h.1;show h.2.2.1;show h.2.2.2
 | .out a,h,x,hx=>by simp[S.dF,cR,S.own] at hx;rw[hx];show h
 | .ifs a y n,h,x,hx=>by
  let e:cR (S.ifs a y n).dF=a::(cR^S.bE y++cR^S.bE n):=by simp[S.dF,cR,S.own]
  rw[e] at hx;rcases aP.mp hx with e|hx;rw[e];show h.1
  .rcases aM.mp hx with hx|hx;show uw y h.2.1 x hx;show uw n h.2.2 x hx
 | .xP a b,h,x,hx=>by
  let e:cR (S.xP a b).dF=a::cR^S.bE b:=by simp[S.dF,cR,S.own]
  rw[e] at hx;rcases aP.mp hx with e|hx;rw[e];show h.1;show uw b h.2 x hx
theorem uw{N:bc->eL}:∀ss:List S,S.uA N ss->∀x∈cR^S.bE ss,N x
 | [],_,x,hx=>by simp[S.bE,cR] at hx
 | s::ss,h,x,hx=>by
  let e:cR^S.bE (s::ss)=cR s.dF++cR^S.bE ss:=by simp[S.bE,cR]
  rw[e] at hx;rcases aM.mp hx with hx|hx;show acA s h.1 x hx;show uw ss h.2 x hx
end
def IF{pool ps:List bc}{jK:bc}(h8:pool.length<=8)(hp:∀x∈ps,x∈pool)(hs:S.uA (· ∈ pool) ss)(ha:jK∈pool):(kJ ps ss jK).length<=8:=by
 show bP (By (zK _) λx hx=>?_) h8;have:=Fz.mp hx;rcases aM.mp this with h|h
 .rcases aM.mp h with h|h;show hp x h;show uw ss hs x h
 .rw[aJ.mp h];show ha
theorem Wr(xs:List V)(j k:O):(fV xs (!(j:M))^!((j:M)+(k:M))).length<=k:=by unfold fV;rw[show(j:M)+(k:M)=((j+k:O):M) from Z,HT.iF,HT.iF,cC];lia
def Sa(ss:List S):eK ss<=S.bV ss:=by unfold eK;show gD ss
inductive Sb(K_:aC)(vs:List V)(H:Hp)(Q:VK)(z:XK):Prop|mk(a:Addr)(ns:List Int)(z:vs=[¬a])(z:bI K_ H a^ns.map V.int)(z:ns.length<=63)(z:∀(c:Addr)(us:List V)(rs:List Row)(H':Hp),az H H'->H' c=!.lst us->Rows H' us rs->(∀r∈rs,r.ok rs.length)->rs≠[]->rs.length<1001->Q (¬c) H')
section
variable (T:Txt w8 K_ m_)
theorem Nd:T.source∩(9,Sb K_):=by
 exists T.source,i8,#[a,ns,rfl,ha,hn,q],".=1/qY +0@.?UC/b6 +1@-:/Wc *Êë0QQ.v2T¥@RN'TU !^Ë~0.=3/Wn +Êë0Q]¡C/b6 +1@*2.=4/MD */VQ *>+r*l2]C/b6 +1@+3*I2C/b6 +1@.L¥*C/b6 +1@B5-=4/IE +4*/qY +0*¡5-:4",6,"_law_k",["_law_cell"],[1],["_law_cell"],abb (K:=K_) rfl PySem.F.plainAttrs_str PySem.F.slot_str_join PySem.F.type_str_join (P9 (K:=K_) rfl) aE (aa (aB ZU (aX (aa aE ai)) (aB bf (aG T.draw (b6 T) hr (aa (pv 1) (aa af ai))) af)) ai);lk;show#[a,ns,0,Z,ha,(),λc=>?_];lk;show#[c,45,Z,(),(),λr1 RN RO=>?_];lk;ext p1 H1 n1;let#[ms,em,hml]:=zS ns (!2)^!18;rw[em] at n1;show#[p1,ms,Z,n1.self,∅,λp us rs H' s' hp Tk hok h1 h2=>q p us rs H' (n1.same.trans s') hp Tk hok (List.length_pos_iff.mp h1) ∅];show xA (λi ys H'=>az H H'/\∃ls:List bc,ys=ls.map V.str/\ls.length=i) #[az.refl _,[],Z,Z] ?_ ?_
 .rintro i ys H' hi ⟨sm,ls,rfl,hl⟩;let hi:i<8:=∅;show#[di (by rw[aq];lia),?_];lk;ext p1 H1 n1;show#[c,10,Z,(),(),λr2 Iw Iz=>?_];lk;show aeG n1.self ∅ ∅ (by simp;lia) ?_;intro p2 H2 n2;let er:(List.replicate (r2 % 8).toNat [V.str "q"]).flatten=(List.replicate (r2 % 8).toNat ("q" : bc)).map V.str:=by simp
  rw[er] at n2;let hk:(r2 % 8).toNat<8:=∅;generalize (r2 % 8).toNat=k at hk n2;let hsum:∀k,k<8->((List.replicate k ("q" : bc)).map (·.length)).sum+(List.replicate k ("q" : bc)).length<=1048576:=()
  let hjl:∀k,k<8->(Txt.join ""^List.replicate k ("q" : bc)).length<=1000:=()
  lk;show aaw (bI.of n2.self) () (hsum k hk) ?_;let#[ch,PP,_]:=zg (xs:=("abcdefgh" : bc).cps.toList) (i:=0+(i:M)) ∅ (by change 0+(i:M)<8;lia);lk;show Oh () PP ?_;have:=hjl k hk;show aav (by change _+1<=_;lia) ?_;show#[(sm.trans n1.same).trans n2.same,ls++[_],by rw[bq];rfl,by simp[hl]]
 rintro ys H2 ⟨s2,ls,rfl,hl⟩ l H3 n3;let h8:ls.length=8:=∅;let s3:=s2.trans n3.same;let N0:=n3.self;let Vn:=s3.seq ha;clear s2 n3;lk;show#[c,46,Z,(),(),λr2 Iw Iz=>?_];lk;ext p4 H4 n4;obtain⟨k,hk,hk5⟩:∃k:Nat,r2 % 6=(k:Int)/\k<=5:=#[(r2 % 6).toNat,∅,∅];let#[ms,em,_]:=zS ns (!2)^!(2+r2 % 6);let hms:ms.length<=5:=by let h:=Wr (ns.map V.int) 2 k;rw[hk] at em;rw[show(!((2:O):M))=!(2:M) from Z,show((2:O):M)+(k:M)=2+(k:M) from Z,em,aq] at h;lia
 rw[em] at n4;show#[p4,l,ms,ls,Z,bI.of n4.self,hms,n4.keep N0,h8,λpb vb ss H5 s5 Ky Tm hok ie=>?_];let QO:=n4.same.trans s5;let XC:=QO _ _ N0;let ha5:=QO.seq Vn;let s05:=s3.trans QO;clear n4 s5 em N0 Vn s3 QO;lk;show#[c,47,Z,(),(),λr3 r30 r31=>?_];lk;ext p6 H6 n6 p7 H7 n7;obtain⟨j,hj⟩:∃j:Nat,r3 % 5=(j:Int):=#[(r3 % 5).toNat,∅];rw[hj,CW,<- List.map_take] at n7;let QF:=n6.same.trans n7.same;let hp7:=n7.self;let hl7:=QF _ _ XC;let ahh:=QF _ _ Ky;let YD:=bg.mono (sT QF) _ _ Tm;let ha7:=QF.seq ha5;let s07:=s05.trans QF;clear n6 n7 XC Ky Tm ha5 s05 QF;show#[c,48,Z,(),(),λr4 r40 r41=>?_];let#[an,han,man]:=xM (xs:=ls) (i:=r4 % 4) ∅ ∅;lk;show cj (bI.of hl7) han ?_;lk;ext tp H8 n8;show#[¬tp,ls.take j,ss,an,(· ∈ ls),Z,#[tp,p7,pb,vb,Z,n8.self,n8.keep hp7,n8.keep ahh,bg.mono (sT n8.same) _ _ YD],by simp;lia,∅,hok,IF (pool:=ls) (ps:=ls.take j) ∅ (λx hx=>List.mem_of_mem_take hx) hok man,λf us fs H9 s9 z hf Tk arJ fok=>?_];let arK:=Sa ss;let s09:=s07.trans^n8.same.trans s9;let SQ:=(n8.same.trans s9).seq ha7;clear s07 n8 s9 hp7 hl7 ahh YD ha7;lk;show#[f,us,fs,Z,hf,Tk,fok,∅,λg vs Ab lG z hg hgs=>?_];let gok:=Wo fok;let amB:=gp (rs:=fs) (p:=fs.length)^ay _;let gle:=vA fs fs.length;let gne:fY fs fs.length≠[]:=Wq ∅;let amC:=s09.trans lG;let EZ:=lG.seq SQ;generalize fY fs fs.length=gr at hgs gok amB gne;clear hf Tk s09 lG SQ;lk;show#[c,49,Z,(),(),λr5 r50 r51=>?_];lk;show Jj (λi Y' H'=>E4 λ(g:ae)(vs:List V)(rs:List bv)(x:Option V)=>A7 (Y'=[!.ref a,!.int c,!.ref l,!.ref pb,!.ref g,x]) (az Ab H') (H' g=!.lst vs) (Rows H' vs rs) ((∀r∈rs,r.ok bp)) (rs≠[]) (bp<1001)) #[g,vs,gr,_,Z,az.refl _,hg,hgs,gok,gne,∅] ?_ ?_
 .rintro i Y' Dj hi ⟨g,vs,rs,x,rfl,Dk,hg,hgs,gok,gne,gl⟩;let abw:=Dk.seq EZ;lk;show#[a,ns,_,Z,abw,∅,λc1=>?_];lk;show#[g,c1,vs,rs,Z,hg,hgs,gok,gne,gl,λb us' rs' HN T0 hb uT Z0 Hn=>?_];lk;show#[b,us',rs',_,Z,Dk.trans T0,hb,uT,Z0,λe=>by rw[e] at Hn;show gne^BF.mp Hn.symm,∅]
 .rintro Y' Dj ⟨g,vs,rs,x,rfl,Dk,hg,hgs,gok,gne,gl⟩;lk;show q g vs rs Dj (amC.trans Dk) hg hgs gok gne gl
set_option maxHeartbeats 20000000 in
theorem acC:T.law∩(12,J7 K_):=by
 show T.law.F.ok ku (λvs H Q E h=>?_) (λcdv A0 outer s H vs Q E hr h=>?_);let#[a,ns,rfl,_]:=h;rfl;let#[a,ns,rfl,hS,hn,q]:=h;let Sd:=V9 T;show#[_,(ak (bF 1 ku.nd^aG T.pX (qY T) hr^aa (pv 0)^aa af ai)^ak (bF 2 ku.nd^aG T.source (Nd T) hr^aa (pv 0) ai)^ak (bF 3 ku.nd^aG T.delay (Rb T) hr^aa (pv 2) ai)^ak (bF 4 ku.nd^aG T.args (We T) hr^aa (pv 1) ai)^ak (bF 5 ku.nd^aF aK (aX^aa af^aa af^aa (aB bf (aG T.draw (b6 T) hr^aa (pv 1)^aa af ai) af) ai)^aB bf (aG T.draw (b6 T) hr^aa (pv 1)^aa af ai) af)^ak (bF 6 ku.nd^BN Sd (hr.mono^by first|decide|lia) rfl T.twin.m T.twin.F.kp T.twin.b .nil jr^aa (pv 2)^aa (pv 4)^aa kg^aa (pv 5) ai)^ak (aY (PW.pt^vO (bG B3 (pv 3) kg)^qD^bG bR (aF aA (pv 6) af) aE) (ao^aD jo) aL)^ak (bF 7 ku.nd^bC fm (pv 0) (bK af)^bK af)^gW (aY (bG (yE hr.units) (pv 7)^aX ai) (ao^bF 7 ku.nd^aX^aa (pv 1) ai) aL)^ak (bF 8 ku.nd^aG T.turns (M8 T) hr^aa (pv 7)^aa (aS bh rfl T.dY BT.dX^aa (pv 2) ai)^aa (pv 3) ai)^ak (bF 9 ku.nd^BN Sd (hr.mono^by first|decide|lia) rfl T.twin.m T.twin.F.kp T.twin.b .nil jr^aa (pv 2)^aa (bZ mU rfl T.oY BT.qH^aa (pv 4) ai)^aa (bZ mU rfl T.oY BT.qH^aa (pv 8) ai)^aa (pv 5) ai)^oG (aY (PW.pt^vO (uK^oq^aG T.right (RT T) hr^aa (pv 9)^aa (pv 9) ai)^qD^bG yi (aF aA (pv 9) af)^pv 5) (ao^aD jo) aL)^ao^aD^aG T.allowed (ID T) hr^aa (pv 9)^aa (pv 6)^aa (pv 8)^aa (pv 3) ai),?_];change(_:TS) (Ends.mk _ _ _ _) [_,_,_,_,_,_,_,_,_,_] H;k_in;lk;show#[a,ns,1,rfl,hS,(),λc=>?_];lk;show#[a,ns,rfl,hS,hn,λcd us rs H1 s1 Kt cY hok UV hrl=>?_];let hS1:=s1.seq hS;clear hS;lk;show#[cd,us,rs,rfl,Kt,cY,hok,∅,UV,λFq qU=>?_];let rest:∀(v:V)(H2:Hp),az H1 H2->(v=.cB\/∃m:Int,v=.int m/\tZ (cG rs rs.length) (fH rs) m)->nx0 [!V.ref a,!V.int c,!V.ref cd,!v,none,none,none,none,none,none] H2:=by
  intro v H2 s2 hv;show abA _ _ ?_;let ahi:=s2 _ _ Kt;let YE:=cY.same s2;let hS2:=s2.seq hS1;let zw:=cY.length;clear Kt cY hS1 s2;lk;show#[c,rfl,λar xs H3 s3 har P7 hxv=>?_];let ahj:=s3 _ _ ahi;let YF:=YE.same s3;let Xw:=s3.seq hS2;clear ahi YE hS2 s3;lk;show#[c,52,rfl,(),(),λr1 RN RO=>?_];lk;ext l4 H4 n4;show#[c,53,rfl,(),(),λr2 Iw Iz=>?_];let#[k,hk,kk]:=kE (ns:=[400,400,r1 % 61]) (i:=r2 % 3) ∅ (by change r2 % 3<3;lia);lk;show cj (bI.of n4.self) hk ?_;obtain⟨most,hm,hm4⟩:∃m:Nat,k=(m:Int)/\m<=400:=#[k.toNat,by simp at kk;lia,by simp at kk;lia];subst hm;let acD:=n4.keep ahj;let Se:=YF.same n4.same;let hS4:=n4.same.seq Xw;let acE:=n4.keep har;clear ahj YF Xw har n4 hk kk;lk;show#[cd,ar,.cB,us,rs,xs,[],most,rfl,acD,Se,hok,acE,∅,hxv,.inl #[rfl,rfl],(λz h=>nomatch h),∅,λf2 l2 H5 s5 z Kb Pm=>?_];obtain⟨g,hg⟩:∃g,g=qx rs xs (iQ []) most:=#[_,rfl];rw[<- hg] at Kb Pm;let fg:g.FL:=by rw[hg];show Bu _ _ _ ∅
  let ahk:=s5 _ _ acD;let YG:=Se.same s5;let hS5:=s5.seq hS4;let ahl:=s5 _ _ acE;clear acD Se hS4 acE s5;let ahm:=Kb;unfold Out.vals at Kb;rcases hv with rfl|⟨m,rfl,hd⟩
  .lk;show q _
  lk;show q _;ext amD p6 H6 n6;let#[ms,em,hml]:=zS ns (!18)^!38;rw[em] at n6;show yC (λY' H'=>az H5 H'/\E2 λ(p:Addr)(ks:List Int)=>Y'=[!.ref a,!.int c,!.ref cd,!.int m,!.ref ar,!.int most,!.ref f2,!.ref p,none,none]/\H' p=!.lst^ks.map V.int/\ks.length<=63) ?_ ?_
  .lk;ext p7 H7 n7;show GY (.list^ms.map PyData.int) (.list []) 1 () (.lst (bI.of^n7.keep n6.self)^DN.ints _) (.lst (bI.of n7.self) .nil) Sh.ints (Sh.ints (ns:=[])) ?_;lk;split
   .lk;ext p8 H8 n8;show#[((n6.same.trans n7.same).trans n8.same),p8,[c],rfl,n8.self,by simp]
   .lk;show#[n6.same.trans n7.same,p6,ms,rfl,n7.keep n6.self,∅]
  rintro _ H7 ⟨s7,p,ks,rfl,hp,tU⟩;let ahn:=s7 _ _ ahk;let YH:=YG.same s7;let aho:=s7 _ _ ahl;let SM:=s7 _ _ ahm;let hl7:=s7 _ _ Pm;clear ahk YG ahl Kb ahm Pm n6 s7 hS5;lk;let#[m1,_]:=IA hd Fq qU;show#[p,ks,_,m,rfl,hp,tU,by rw[zw];have:=List.length_pos_iff.mpr UV;lia,by rw[zw];lia,m1,λtp tus tl H8 s8 htp Ao tok tpw t0 arM=>?_];let ahp:=s8 _ _ ahn;let YI:=YH.same s8;let amE:=s8 _ _ aho;let QG:=s8 _ _ SM;let hl8:=s8 _ _ hl7;let arN:=Ao.length;clear ahn YH aho SM hl7 s8 hp;lk;ext la H9 n9 lt Ab wM;let lG:=n9.same.trans wM.same;show#[cd,la,¬lt,us,rs,xs,tl,most,rfl,lG _ _ ahp,YI.same lG,hok,wM.keep n9.self,∅,hxv,.inr #[lt,tus,rfl,wM.self,Ao.same lG],tok,∅,λf3 l3 Dj Dk z Yk N0=>?_];obtain⟨o,ho⟩:∃o,o=qx rs xs (iQ tl) most:=#[_,rfl];rw[<- ho] at Yk N0;let fo:o.FL:=by rw[ho];show Bu _ _ _ ∅
  let Sf:=lG.trans Dk;let Mv:=Sf _ _ QG;let ahq:=Sf _ _ hl8;let YJ:=Sf _ _ htp;let YK:=Ao.same Sf;let hA:CV o g tl m:=by rw[ho,hg];show R6 hok hd Fq qU tok tpw (by rw[<- hg];show amD)
  let hon:o.n<=most:=by rw[ho];have:=(zR (iQ tl) most (vI rs xs) (.inl rfl)^ay _).2.2.2;show bP this^Nat.le_of_eq^Nat.zero_add _
  clear ahp YI amE QG hl8 htp n9 wM lG Dk Sf hok hxv Fq qU hd tok tpw;lk
  .show#[f3,f3,l3,l3,o,rfl,Yk,N0,Yk,N0,fo,λHN T0=>?_];let Vy:=T0 _ _ Yk;unfold Out.vals at Vy;clear Yk N0 Mv ahq YJ YK;lk;show#[rfl,T0]
  .rename_i HN T0;show#[f3,f2,l3,l2,tp,tus,o,g,tl,m,rfl,T0 _ _ Yk,T0 _ _ N0,T0 _ _ Mv,T0 _ _ ahq,fo,fg,T0 _ _ YJ,YK.same T0,hA,λz z=>q _]
 show#[λH2 s2 z=>rest .cB H2 s2^.inl rfl,λm H2 s2 hd=>rest (.int m) H2 s2^.inr #[m,rfl,hd]]
def k_(x):p_ x:=Classical.byContradiction λh=>by have:=Classical.epsilon_spec (p:=λx=>Not (p_ x)) #[x,h];with_unfolding_all refine this λT=>?_;with_unfolding_all exact acC T
def zl0{n:O}{us:List J}(h:dv=n+1):∃v r,us=v::r/\eC=n:=by cases us with | nil=>simp at h | cons v r=>show#[v,r,rfl,by simpa using h]
def YL{us:List J}(h:dv=1):∃v0,us=[v0]:=by let#[v,r,Z,k]:=zl0 h;cases r with | nil=>show#[v,rfl] | cons a b=>simp at k
def ahr{us:List J}(h:dv=2):∃v0 v1,us=[v0,v1]:=by let#[v,r,Z,k]:=zl0 h;let#[v1,Z]:=YL k;show#[v,v1,Z]
def ahs{us:List J}(h:dv=3):∃v0 v1 v2,us=[v0,v1,v2]:=by let#[v,r,Z,k]:=zl0 h;let#[v1,v2,Z]:=ahr k;show#[v,v1,v2,Z]
def YM{us:List J}(h:dv=4):∃v0 v1 v2 v3,us=[v0,v1,v2,v3]:=by let#[v,r,Z,k]:=zl0 h;let#[v1,v2,v3,Z]:=ahs k;show#[v,v1,v2,v3,Z]
noncomputable def F1(X:K.In h)(G:h.Ns mainGlobals mg)(pq:PySem.W.nsIn K mainGlobals "BLOCKS_AT" = !!.ref rg)(pA:K.lookup rg=some #[.type "dict", none,.dict #v[{ hash:=PyData.keyHash w.params "if", key:=.str "if" C2,val:=¬pB },{ hash:=PyData.keyHash w.params "while", key:=.str "while" C3,val:=¬pC }] acF,#[]])(pF:(rg==sysModules)=bj)(nH:K.lookup pB=some #[.type "tuple", S1,.seq #v[.int 2 Np,.int 3 Nq] Ws,S2])(nI:K.lookup pC=some #[.type "tuple", S3,.seq #v[.int 2 Nr] Wu,S4]):wu w K mg:={ oQ:=rg,wz:=kN X G pq,jQ:=pB,sY:=fj.mk' nH (.cons #[_,Z]^.cons #[_,Z] (.nil)) Z,jR:=pC,sZ:=fj.mk' nI (.cons #[_,Z] (.nil)) Z,wA:=qo.mk' (es:=[("if", C2,¬pB),("while", C3,¬pC)]) pA pF (show(["if", "while"]:List bc).Nodup from ()) (.cons #[Z,Z]^.cons #[Z,Z] (.nil)) }
noncomputable def IG(X:K.In h)(G:h.Ns mainGlobals mg)(rj:PySem.W.nsIn K mainGlobals "NAMES_AT" = !!.ref vK)(rm:K.lookup vK=some #[.type "dict", none,.dict #v[{ hash:=PyData.keyHash w.params "num", key:=.str "num" F2,val:=¬rq },{ hash:=PyData.keyHash w.params "copy", key:=.str "copy" F3,val:=¬rA },{ hash:=PyData.keyHash w.params "op", key:=.str "op" F4,val:=¬rB },{ hash:=PyData.keyHash w.params "out", key:=.str "out" F5,val:=¬rC },{ hash:=PyData.keyHash w.params "if", key:=.str "if" F6,val:=¬rD },{ hash:=PyData.keyHash w.params "while", key:=.str "while" F7,val:=¬rE }] adm,#[]])(rF:(vK==sysModules)=bj)(pG:K.lookup rq=some #[.type "tuple", Wv,.seq #v[.int 1 Sg] YN,Ww])(pH:K.lookup rA=some #[.type "tuple", Wx,.seq #v[.int 1 Si,.int 2 Sj] YO,Wy])(pI:K.lookup rB=some #[.type "tuple", Wz,.seq #v[.int 1 Sk,.int 3 Sl,.int 4 Sm] YQ,WA])(pJ:K.lookup rC=some #[.type "tuple", WB,.seq #v[.int 1 Sn] YR,WC])(pK:K.lookup rD=some #[.type "tuple", WD,.seq #v[.int 1 So] YS,WE])(pL:K.lookup rE=some #[.type "tuple", WG,.seq #v[.int 1 Sq] YT,WH]):zb w K mg:={ qQ:=vK,zc:=kN X G rj,oR:=rq,wB:=fj.mk' pG (.cons #[_,Z] (.nil)) Z,oS:=rA,wC:=fj.mk' pH (.cons #[_,Z]^.cons #[_,Z] (.nil)) Z,oU:=rB,wD:=fj.mk' pI (.cons #[_,Z]^.cons #[_,Z]^.cons #[_,Z] (.nil)) Z,oV:=rC,wF:=fj.mk' pJ (.cons #[_,Z] (.nil)) Z,oW:=rD,wG:=fj.mk' pK (.cons #[_,Z] (.nil)) Z,oX:=rE,wH:=fj.mk' pL (.cons #[_,Z] (.nil)) Z,ze:=qo.mk' (es:=[("num", F2,¬rq),("copy", F3,¬rA),("op", F4,¬rB),("out", F5,¬rC),("if", F6,¬rD),("while", F7,¬rE)]) rm rF (show(["num", "copy", "op", "out", "if", "while"]:List bc).Nodup from ()) (.cons #[Z,Z]^.cons #[Z,Z]^.cons #[Z,Z]^.cons #[Z,Z]^.cons #[Z,Z]^.cons #[Z,Z] (.nil)) }
noncomputable def WI(X:K.In h)(G:h.Ns mainGlobals mg)(C4:PySem.W.nsIn K mainGlobals "PARTS" = !!.ref II)(C5:K.lookup II=some #[.type "dict", none,.dict #v[{ hash:=PyData.keyHash w.params "num", key:=.str "num" Ss,val:=¬C6 },{ hash:=PyData.keyHash w.params "copy", key:=.str "copy" Su,val:=¬C7 },{ hash:=PyData.keyHash w.params "op", key:=.str "op" Sv,val:=¬C8 },{ hash:=PyData.keyHash w.params "out", key:=.str "out" Sw,val:=¬C9 },{ hash:=PyData.keyHash w.params "fork", key:=.str "fork" Sx,val:=¬Dc },{ hash:=PyData.keyHash w.params "look", key:=.str "look" Sy,val:=¬Dd },{ hash:=PyData.keyHash w.params "mark", key:=.str "mark" Sz,val:=¬De },{ hash:=PyData.keyHash w.params "back", key:=.str "back" SA,val:=¬Df }] amF,#[]])(Dg:(II==sysModules)=bj)(zU:K.lookup C6=some #[.type "tuple", adn,.seq #v[.str "side" YU,.str "box" YV,.str "value" YW,.str "place" YX] aht,ado])(zV:K.lookup C7=some #[.type "tuple", adp,.seq #v[.str "side" YY,.str "box" YZ,.str "box" Y0,.str "place" Y3] ahu,adq])(zW:K.lookup C8=some #[.type "tuple", ads,.seq #v[.str "side" Y4,.str "sign" Y5,.str "box" Y6,.str "box" Y7,.str "box" Y8,.str "place" Y9] ahv,adt])(zX:K.lookup C9=some #[.type "tuple", adu,.seq #v[.str "box" Za,.str "place" Zb] ahw,adw])(zY:K.lookup Dc=some #[.type "tuple", adx,.seq #v[.str "box" Zc,.str "place" Zd,.str "place" Ze] ahx,ady])(zZ:K.lookup Dd=some #[.type "tuple", adz,.seq #v[.str "box" Zf,.str "place" Zg] ahy,adA])(z6:K.lookup De=some #[.type "tuple", adB,.seq #v[.str "place" Zh] ahz,adC])(z7:K.lookup Df=some #[.type "tuple", adD,.seq #v[.str "box" Zi] ahA,adE]):J6 w K mg:={ Cp:=II,Cq:=kN X G C4,tD:=C6,ED:=fj.mk' zU (.cons #[_,Z]^.cons #[_,Z]^.cons #[_,Z]^.cons #[_,Z] (.nil)) Z,tE:=C7,EE:=fj.mk' zV (.cons #[_,Z]^.cons #[_,Z]^.cons #[_,Z]^.cons #[_,Z] (.nil)) Z,tF:=C8,EF:=fj.mk' zW (.cons #[_,Z]^.cons #[_,Z]^.cons #[_,Z]^.cons #[_,Z]^.cons #[_,Z]^.cons #[_,Z] (.nil)) Z,tG:=C9,EG:=fj.mk' zX (.cons #[_,Z]^.cons #[_,Z] (.nil)) Z,tH:=Dc,EH:=fj.mk' zY (.cons #[_,Z]^.cons #[_,Z]^.cons #[_,Z] (.nil)) Z,tK:=Dd,EI:=fj.mk' zZ (.cons #[_,Z]^.cons #[_,Z] (.nil)) Z,tL:=De,EJ:=fj.mk' z6 (.cons #[_,Z] (.nil)) Z,tM:=Df,EK:=fj.mk' z7 (.cons #[_,Z] (.nil)) Z,Cr:=qo.mk' (es:=[("num", Ss,¬C6),("copy", Su,¬C7),("op", Sv,¬C8),("out", Sw,¬C9),("fork", Sx,¬Dc),("look", Sy,¬Dd),("mark", Sz,¬De),("back", SA,¬Df)]) C5 Dg (show(["num", "copy", "op", "out", "fork", "look", "mark", "back"]:List bc).Nodup from ()) (.cons #[Z,Z]^.cons #[Z,Z]^.cons #[Z,Z]^.cons #[Z,Z]^.cons #[Z,Z]^.cons #[Z,Z]^.cons #[Z,Z]^.cons #[Z,Z] (.nil)) }
def acG{l:PySem.W.OpenLaw}{fa:ae}(T:Txt w K mg)(hfa:mg "law" = !.ref fa):∃fd:FuncData,(∀(s:ap)(v:J),BindsTo s fd #[[v],[]] [("_law_script", v)])/\∀base:cv,K.In base->base.Ns mainGlobals mg->bS l.prog w K mg base fW 12 fa fd ["_law_script"]^J7 K:=by let e:=hfa.symm.trans T.law.m;cases e;show#[T.law.d,T.law.bind1 (λz z z z z z us hl=>by let#[v0,Z]:=YL hl;rfl),λbase kb nb=>k_ (l.prog,w,K,mg,base) T]
def walk{l:PySem.W.OpenLaw}{q:de}{NA:List bc}{XP:(bc->Option J)->cv->eL}{YP:cw->cv->eL}{d:DefRec}{K:Params->aC}(hn:l.most=!63)(hdf:d.params.defaults=[])
  (hY:∀(w:cw)(h:cv),YP w h->(K w.params).In h)
  (F:∀(w:cw)(mg:bc->Option J)(fa:ae)(h:cv),(K w.params).In h->h.Ns mainGlobals mg->mg d.name=!(¬fa) ->
   ∃fd:FuncData,(∀(s:ap)(u:J),BindsTo s fd #[[u],[]] [("_law_script", u)])/\∀base:cv,(K w.params).In base->base.Ns mainGlobals mg->bS l.prog w (K w.params) mg base fW 12 fa fd ["_law_script"]^J7^K w.params):
  PySem.W.WalkO q NA XP YP l.row.toRowW d [] (λf vs=>PySem.call f vs) :=
 L2.Tt (n:=63) (k:=12) (x := "_law_script") (CX:=λj=>fW) (sp:=λw=>J7^K w.params) hn () hdf #[Z,(),()] hY F (λj j a ns hl j hS=>#[a,ns,Z,hS,hl,λj=>rfl]) λj j j j j z=>z
end
end TG
end Internal
open Internal
open PySem PySem.W PyProof.Rows
open Lean in
local macro_rules (kind:=Lean.Parser.Command.declaration) | x=>if x[1][1][0].getId==`tw then
  let f (s:String):=x.modifyArg 1 λy=>(y.modifyArg 0 λ_=>mkAtom "def").modifyArg 1 (·.modifyArg 0 λ_=>mkIdent (.str `PySem.W.Fast s!"tw{("PySem.Challenge."++s).toName.hash}"))
  return mkNullNode (f "pw_turnguard_k75_whole_no_wrong_answer"::((List.range 545).map (s!"o_{·}")++"env_41 heap_39 heap_46 heap_543 heap_571 sts_105 sts_165 sts_194 sts_278 sts_357 sts_441 sts_49 sts_520 tree_102 tree_162 tree_193 tree_277 tree_356 tree_440 tree_519 tree_542 view_39".splitOn " ").map λs=>f ("cw_turnguard_k75_whole_no_wrong_answer_holds."++s)).toArray
 else Macro.throwUnsupported
def tw:True:=trivial
set_option maxRecDepth 100000 in
set_option maxHeartbeats 0 in
theorem PySem.Challenge.cw_turnguard_k75_whole_no_wrong_answer_holds : PySem.Challenge.rw_turnguard_k75_whole_no_wrong_answer.Holds := by
 w_on;o_law;k_head;(case hw=>w_witness2)
 k_fill
 refine TG.walk (l:=PySem.Challenge.rw_turnguard_k75_whole_no_wrong_answer) rfl rfl (λw h ZB=>kIn_of ZB) ?F
 case F =>
  intro w mg fa h KX G hmg
  refine' TG.acG (w:=w) ⟨_,?q0,?_,?_,?_,?_,?_,?_,?_,?_,?_,?_,?_,?_,?_,?_,?_,?_,?_,?_,?_,?_,?_,?_,?_,?_,?_,?_,?q27,?_,?_,?_,?_,?_,?_,?_,?_,?_,?_,?_,?_,?_,?_,?_,?_,?_,?_,?_,?_,?_,?_,?_,?_,?_,?_,?_,?_,?_,?_,?_,?_,?_,?_,?_,?_,?_,?_,?_,?_,?_,?_,?_,?_,?_,?_,?_,?_,?_,?_,?_,?_,?_,?_,?_,?_,?_,?_,?_,?_,?_,?_,?_,?_,?_,?_,?q94,?q95,?q96,?q97,?q98,?q99,?amG,?amH,?amI⟩ hmg
  case q0=>(refine' L2.afa KX G ?a ?b ?c ?d ?e ?f ?g;(case a|b|c|d|e|f|g=>k_is))
  case q27=>(refine' L2.afc KX G ?a ?l ?c ?k ?d ?s ?b;(case a|l|c|k|d=>k_is);(case s=>rfl);(case b=>(intro us hl;first|(obtain⟨_,_,_,_,rfl⟩:=TG.YM hl;exact ⟨_,rfl,rfl⟩))))
  case q95|amI=>(refine' L2.ae8 KX G ?a;(case a=>k_is))
  case q96|q97|q98|amH=>(refine' L2.ae9 KX G ?a ?l ?r ?z;(case a|l=>k_is);(case r=>(repeat (first|exact .nil |refine .cons ⟨_,rfl⟩ ?_)));(case z=>exact dz rfl))
  case q94 =>
   refine' TG.F1 KX G ?pq ?pA ?pF ?nH ?nI
   case pq|pA|nH|nI=>k_is
   case pF=>rfl
  case q99 =>
   refine' TG.IG KX G ?rj ?rm ?rF ?pG ?pH ?pI ?pJ ?pK ?pL
   case rj|rm|pG|pH|pI|pJ|pK|pL=>k_is
   case rF=>rfl
  case amG =>
   refine' TG.WI KX G ?C4 ?C5 ?Dg ?zU ?zV ?zW ?zX ?zY ?zZ ?z6 ?z7
   case C4|C5|zU|zV|zW|zX|zY|zZ|z6|z7=>k_is
   case Dg=>rfl
  iterate 8 focus(unfold L2.eV;k_is)
  iterate 56 focus(refine' L2.ae7 KX G ?b ?a ?l ?c ?k;(case b=>(intro _ _ _ _ _ _ us hl;first|(obtain⟨_,rfl⟩:=TG.YL hl;rfl)|(obtain⟨_,_,rfl⟩:=TG.ahr hl;rfl)|(obtain⟨_,_,_,rfl⟩:=TG.ahs hl;rfl)|(obtain⟨_,_,_,_,rfl⟩:=TG.YM hl;rfl)));(case a|l|c|k=>k_is))
  iterate 10 focus(refine' L2.afb ?b ?a ?i ?l ?c ?k;(case b=>(intro _ _ _ _ _ _ us hl;first|(obtain⟨_,rfl⟩:=TG.YL hl;rfl)|(obtain⟨_,_,rfl⟩:=TG.ahr hl;rfl)|(obtain⟨_,_,_,rfl⟩:=TG.ahs hl;rfl)|(obtain⟨_,_,_,_,rfl⟩:=TG.YM hl;rfl)));(case a|i|l|c|k=>k_is))
  iterate 18 focus(refine mg_none_of KX G ?_;k_is)
end
