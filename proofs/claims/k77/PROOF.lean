import PyProof.Rows.All
import Wide.All
import OpenK.AllK
import Wide.FinOn
import Lean
import PyProof.EqAt
import PyProof.EqKinds
import PyProof.TupleCall
import KE.KRevIter
import KE.KRevSl
import PyProof.AttrMiss
import KE.KDictOf
import PyProof.FactsAll.enumerate
import PyProof.FactsAll.zip
import PyProof.ListRange
import PyProof.FactsAll.list_1
import KE.KDictList
import PyProof.StrOps2
import PyProof.Rows.SetFrom
import PyProof.CollectStr
import PyProof.Rows.SortWalk
import KE.KSortTup
import KE.KDictList
import PyProof.FactsAll.range_2
import PyProof.P3Eq
import KE.KEqDict
import PyProof.Rows.Range3
import PySem.Challenge.RW_turnguard_k77_whole_hardened_runs
set_option Elab.async false
set_option linter.all false
set_option maxRecDepth 100000
def av:=@PySem.wpAny_bind
def aW:=@PySem.wpAny_pure
def eT:=@PySem.Heap.get?_push_of_some
def jH:=@PySem.Heap.get?_push_size
def fK{α:Type}{l:List α}{i:Nat}{a:α}(h:l[i]?=some a):∃h:i<l.length,l[i]=a:=List.getElem?_eq_some_iff.mp h
def g7{α:Type}{l:List α}{i:Nat}(h:i<l.length):l[i]?=some l[i]:=List.getElem?_eq_getElem h
def ie{α:Type}{l:List α}{i:Nat}{a:α}(h:l[i]?=some a):a∈l:=List.mem_of_getElem? h
def xV{α:Type}{l:List α}{i:Nat}{a:α}:l.getD i a=l[i]?.getD a:=List.getD_eq_getElem?_getD
def oB:¬(false=true):=Bool.false_ne_true
noncomputable section
namespace Internal
def WL.u{α}:Lean.MacroM α:=Lean.Macro.throwUnsupported
set_option tactic.hygienic false
local macro_rules (kind:=Lean.Parser.Command.declaration) | x=>match x[1].getHeadInfo with|.original ..=>(do let v:=x[1][0].getAtomVal;let n ← Lean.Macro.getCurrNamespace;let y:=x.modifyArg 1 λz=>let z:=z.setHeadInfo .none;if v=="inductive"||v=="" then z.rewriteBottomUp λz=>if [`Lean.Parser.Command.ctor,`Lean.Parser.Command.structSimpleBinder].contains z.getKind then z.setHeadInfo .none else z else z;let y:=if v=="def"&&x[0].getArgs.all (·.getNumArgs==0)&&(n++x[1][1][0].getId).components.all (λc=>not ([`WL,`WK].contains c)) then y.modifyArg 0 (·.setArg 4 (Lean.mkNullNode (.singleton (Lean.mkNode `Lean.Parser.Command.noncomputable (.singleton (Lean.mkAtom "noncomputable")))))) else y;if (x.find? λz=>[`Lean.Elab.Tactic.Ext.ext,`Lean.Parser.Tactic.renameI,`Lean.Parser.Tactic.case].contains z.getKind).isSome then return (← `(set_option tactic.hygienic true in $(⟨y⟩):command)).raw else return y)|_=>WL.u
def WL.o(s:Lean.Syntax):Bool:=match s.getHeadInfo with|.original ..=>true|_=>false
theorem WL.a(h:True:=by intros;rfl):True:=h
theorem WL.b(h:True:=by decide):True:=h
theorem WL.c(h:True:=by decide+kernel):True:=h
theorem WL.d(h:True:=by walk_at "or"):True:=h
theorem WL.l{a:Sort u}{b:a}{p:Prop}:b=b∨p:=.inl rfl
theorem WL.r{a:Sort u}{b:a}{p:Prop}:p∨b=b:=.inr rfl
open Lean in
def WL.f(c d:Name)(x:Syntax):MacroM Syntax:=if WL.o x then let y:Term:=⟨x[if x[0].isAtom then 1 else 0]⟩;return Syntax.mkApp (if c==`ref then ⟨mkNode `Lean.Parser.Term.dotIdent #[mkAtom ".",mkIdent c]⟩ else mkIdent c) (if d==c then .singleton y else ((Array.empty.push y).push (mkIdent d))) else WL.u
local macro_rules (kind:=coeFunNotation) | x=>WL.f `autoParam `WL.a._auto_1 x
local macro_rules (kind:=coeSortNotation) | x=>WL.f `autoParam `WL.b._auto_1 x
local macro_rules (kind:=«term_⁻¹») | x=>WL.f `autoParam `WL.c._auto_1 x
local macro_rules (kind:=«term‹_›») | x=>WL.f `autoParam `WL.d._auto_1 x
local macro_rules | `(tactic| case' $i:ident=>$s)=>if i.getId==`z then `(tactic| ($s)) else WL.u
namespace WK
open Lean in
def ids(c:String):Array Ident:=((c.drop 1).toString.splitOn ",").toArray.map λx=>mkIdent (.mkSimple x)
open Lean in
def one(c:String):MacroM (TSyntax `tactic):=do
 let n:=(c.drop 1).toString
 if c == "a" then `(tactic| assumption) else if c == "o" then `(tactic| omega) else if c == "r" then `(tactic| rfl) else if c == "d" then `(tactic| decide)
 else if c.startsWith "~" then `(tactic| try clear $(ids c)*) else if c.startsWith "^" then `(tactic| intro $(ids c)*) else if c.startsWith "?" then `(tactic| fail_if_success clear $(ids c)*)
 else if c.startsWith "@" then `(tactic| walk_at $(Syntax.mkStrLit n)) else if c.startsWith "!" then `(tactic| exact $(mkIdent (`L2++n.toName)))
 else if c.startsWith "*" then let z:=mkIdent (if c.startsWith "*/" then (n.drop 1).toString.toName else `L2++n.toName);`(tactic| apply $z)
 else let z:=mkIdent (if c.startsWith "=" then .mkSimple n else .str `L2 c);`(tactic| with_reducible apply $z)
open Lean in
def alt(w : String): MacroM (TSyntax `tactic):=do
  let ws:=(w.splitOn " ").toArray;let mut t ← one ws[0]!
  for c in ws[1:] do
    if c=="%" then t ← `(tactic| ($t:tactic;rotate_left;intro _ _;rotate_left))
    else if c=="&" then t ← `(tactic| ($t:tactic<;>intro _))
    else if c.startsWith "!" then
      for _ in[0:(c.drop 1).toString.toNat!] do t ← `(tactic| ($t:tactic;intro _))
    else if c.startsWith "~" || c.startsWith "^" then
      let u ← one c
      t ← `(tactic| ($t:tactic;$u:tactic))
    else
      let u ← if c == "a" || c == "o" || c == "r" || c == "d" then one c else `(tactic| walk_at $(Syntax.mkStrLit c))
      t ← `(tactic| ($t:tactic;(focus $u:tactic)))
  return t
open Lean in
def tab:String:="look:a;*gU.self a;*gU.keep a look;*nU.self a;*nU.keep a neq look;*az.at a look\nneq:a;*/Ne.symm a;*gU.ne a look;*/Ne.symm ne1;*cB look look ic\nne1:*gU.ne a look\nsq:a;*fq.sq a;*bJ.of look;*eB.of look;*az.seq a sq;*az.seq ns sq\nns:*gU.same a\nsame:*az.refl;a;*az.trF ns same;*az.trF a same;*nU.same a sf sf\nsf:@same;@free\nfree:a;*gU.none a free;*az.free a free;*gU.fst a;*gU.fr2 a same\ncond:o;d;*/And.intro o o;*/Or.inl an;*/Or.inr an;*/And.intro o od\nan:*/And.intro o o\nod:*/And.intro o d\nnxd:=acd ~acd,Rv,kt0,kf0;=Rv ~acd,Rv,kt0,kf0;=agt ~agt,nx0;=hnx1 ~hnx1,nx1;=hnx2 ~hnx2,nx2;=hnx3 ~hnx3,nx3;=hnx4 ~hnx4,nx4;=Wn;=hct0;=hbk0;=hno1;=hct1;=hbk1;=hno2;=hct2;=hbk2\nnx:?agt ^nx0,agt;?hnx1 ^nx1,hnx1;?hnx2 ^nx2,hnx2;?hnx3 ^nx3,hnx3;^nx4,hnx4\nni:~acd,Rv,kt0,kf0 ^kt0,kf0,acd,Rv\nnl:?Wn ^no0,bk0,ct0,Wn,hbk0,hct0;?hno1 ^no1,bk1,ct1,hno1,hbk1,hct1;^no2,bk2,ct2,hno2,hbk2,hct2\nc2:*/Or.inl sq;*/Or.inr sq\nc3:*rf.int;*rf.bl;*rf.cH;*rf.str;*rf.tup look;*rf.lst look\nc6:a;d;o\ngo1:alf sq1|anP;ap0;s_c|afw ni|aka;s_b;anF;akn;ako;akp;akq;aks;akt;aku;akv;akw;akx;aix;aiy;aiz;aiA;ap8;ap9|aqa;akr;aqb;aqc;aqd;aqe;aqf;aqg;an1;an2;an3;an4;ap3;s_i cond;anJ;anK;anL;anM;anN|za0;zb0;abh;abi %;@nxd|anE;aj7;aj9;aj8;ap1;s_u;anG;ap2;anH;anI;akb;ait;s_call;anO;akc;ap4;anS;anT;akg c0 !3|akh c0 !3;cZ sq r;sM sq c1;X7 c0 r;ap5 c2 r r;anU c2 r r;anZ;ae4;ae5 o o;aki;aiu;aiw sq;akm sq;akk sq r;aiv;akl;ap7;anW c2;ae2 c2 !3|akj;anY c3 r;an0 sq;aeZ look len !2;akE;akF;aiI;aiJ;akG sq !3;akH sq r;aob look look len !3;afa look look len !2;abp len;adH;akI c2 !3;aoc;akJ sq;akK sq;aql|aod sq !3;akN;abr look r !2;akM;Pz;akO;akL r;akD;aiH;ae9;ap6;anV;ale;Dc sq;aiT look !3;akT;sQ look r;afn look r;aoj|akU;aov look;aiN;aqn look;aol look;s_iEnum1;s_itE1 sq;s_split d len !3;aiZ;ai0;afG;ai4;alu;aiY !4;aoC look;alr look;ai1 look !3;akV;aom look len !2|aon look len !2;aiW !3;aln look;akW !3;aor r;aos;abx;aoq sq !3;akR;aiM;afk r;afm;aog;aoh r;BD sq c5 !3;aiL;akQ;aiK;aoe sq|zc0 sq sq;zc1 sq sq;zc2 sq sq;zc3 sq sq|akZ;aot look a a fld;ak0;ak1 look a a fln flp !2;adI;ak2 look a a fld;ak3 look fln flp !2;ak4;aiQ;ak5 look flm;aou;aiR;UM;aj0;anQ;anR;akd c6;ake c6|HN &|akf c6|Pn &|C2 r;Po r\nc1:r;*PU\nc0:*/dW r\nor:*/WL.l;*/WL.r;a\nfld:!ai5;!ai6;!ai7;!ai8;!Vd;!Ve;!Vf;!Vh;!Vj;!Vl;!Vm;!Vo\nflp:!ai9;!aja;!ajb;!afQ;!afR;!afS;!afT;!Vg;!Vi;!Vk;!Vn;!Vp;!P1;!P4;!P5;!P6;!P7;!P8;!P9;!Qa\nfln:!ajc;!ajd;!aje;!ajf;!Vc;!U5;!U6;!U7;!U8;!U9;!Va;!Vb;*/Nat.zero_lt_succ\nflm:!abA;!abB;!abC;!abD;!abE;!abF\nrp:*/trivial;*/And.intro r rp\nrq:*/trivial;*/And.intro r3 rq\nr3:*/And.intro r r2\nr2:*/And.intro r r\ndo:d;o\nbm:*Ow d d;r\nvi:*/WL.l;*/Or.inr or"
open Lean in
def row(f:String->MacroM (TSyntax `tactic))(c:String):MacroM (TSyntax `tactic):=do
 for l in tab.splitOn "\n" do
  if l.startsWith (c++":") then
   let g ← ((l.drop (c.length+1)).toString.splitOn "|").toArray.mapM λx=>do
    let r ← (x.splitOn ";").toArray.mapM f
    `(tactic| case' $(mkIdent `z):ident=>first $[| $r:tactic]*)
   return ← `(tactic| first $[| $g:tactic]*)
 Macro.throwUnsupported
open Lean in
def find(c:String):MacroM (TSyntax `tactic):=do
 if c=="go" then `(tactic| repeat' $(← row (λw=>if w=="@nxd" then row alt "nxd" else alt w) "go1"):tactic)
 else row alt c
end WK
local macro_rules | `(tactic| walk_at $s:str)=>WK.find s.getString
open Lean in
def WL.k(k:Name)(a:String)(x:Syntax):MacroM Syntax:=if WL.o x then return (x.setKind k).setArg 0 (mkAtom a) else WL.u
open Lean in
def WL.n(k:Name)(l:List Syntax):Syntax:=mkNode k l.toArray
open Lean in
def WL.w(x:Syntax):Syntax:=WL.n `Lean.Parser.Tactic.simp [mkAtom "simp",x[1],WL.n `null [],WL.n `null [mkAtom "only"],WL.n `null [mkAtom "[",x[2][1].modifyArgs (·.map λr=>if r.isAtom then r else WL.n `Lean.Parser.Tactic.simpLemma [WL.n `null [],r[0],r[1]]),mkAtom "]"],x[3]]
local macro_rules (kind:=Lean.Parser.Tactic.show) | x=>WL.k `Lean.Parser.Tactic.refine "refine" x
local macro_rules (kind:=«term#[_,]») | x=>if x[1].getNumArgs>0 then WL.k `Lean.Parser.Term.anonymousCtor "⟨" x else WL.u
local macro_rules (kind:=Vector.«term#v[_,]») | x=>return Lean.Syntax.mkApp (Lean.mkIdent `List.toArray) (.singleton ⟨(x.setKind `«term[_]»).setArg 0 (Lean.mkAtom "[")⟩)
local macro_rules (kind:=Lean.Parser.Term.arrow) | x=>if WL.o x[1] then return WL.n `Lean.Parser.Term.forall [Lean.mkAtom "∀",WL.n `null [Lean.mkIdent `z_],WL.n `null [WL.n `Lean.Parser.Term.typeSpec [Lean.mkAtom ":",x[0]]],Lean.mkAtom ",",x[2]] else WL.u
namespace WL
open Lean in
def rp:Nat->Term->MacroM (TSyntax `rcasesPat)
 | 0,_=>Macro.throwUnsupported
 | n+1,s=>do
  match s with
  | `(#[$a,*])=>do
   let b ← a.getElems.mapM (rp n)
   `(rcasesPat| ⟨$[$b:rcasesPat],*⟩)
  | `($i:ident)=>let i:Ident:=if i.getId==`Y then mkIdent `rfl else i;`(rcasesPat| $i:ident)
  | `(_)=>`(rcasesPat| _)
  | _=>Macro.throwUnsupported
end WL
namespace WL
open Lean
def rd(lm:Syntax)(sc:Name)(tb:List (Char×List String)):Nat->List Char×List Term->Term×List Char×List Term
 | k+1,(c::s,r)=>
  let wd:=(mkIdent (String.ofList (s.takeWhile (·!=' '))).toName,(s.dropWhile (·!=' ')).drop 1,r)
  let nm(s:List Char):Term:=Syntax.mkNumLit (toString (s.head!.toNat-48))
  let pv(n:Term):Term:=Syntax.mkApp (mkIdent `pv) (.singleton n)
  let nd:Term:=mkIdent (sc++`nd)
  if c.isDigit then (pv (nm [c]),s,r)
  else if c=='!' then (r.head!,s,r.tail)
  else if c=='\'' then (wd.1,wd.2)
  else if c=='#' then (nm s,s.tail,r)
  else if c=='&' then (pv (nm s),s.tail,r)
  else if c=='$' then (nd,s,r)
  else match tb.lookup c with
   | some (h::ws)=>
    let z:=ws.foldl (λz w=>
     let s:=z.2.1
     let q:Term×List Char×List Term:=if w=="e" then rd lm sc tb k z.2 else if w=="l" then let y:=rd lm sc tb k z.2;(⟨lm.setArg 1 (lm[1].setArg 3 y.1)⟩,y.2)
      else if w=="n" then (nm s,s.tail,z.2.2) else if w=="s" then (nd,z.2) else if w=="_" then (mkHole .missing,z.2) else if w=="!" then (z.2.2.head!,s,z.2.2.tail)
      else if w=="x" then (Syntax.mkApp (mkIdent (String.ofList (s.takeWhile (·!=' '))).toName) (.singleton (mkIdent `T)),(s.dropWhile (·!=' ')).drop 1,z.2.2) else (mkIdent w.toName,z.2)
     (z.1.push q.1,q.2)) (Array.empty,s,r)
    (Syntax.mkApp (mkIdent h.toName) z.1,z.2)
   | _=>(mkHole .missing,s,r)
 | _,z=>(mkHole .missing,z)
def tb:=("*aa,e,af +ao,e -ak,e,e .aa,e,e /aK,_,x,hr,e :aI,aA,e,ai <aD,e =bu,n,s,e >aY,e ?bF,e,e,aS @ai Aaa,aH,e BbD,e CfH,n,s Dd9,hr EcC,e FaT,bh,rfl,T.eL,BT.eG,e GaI,aV,e,ai HbZ,bY,e,aH IaO,e,e,e JbQ,af KdZ,bH,rfl,e,e,e Lfm,bI,dg,di,bS,e,e MaI,aV,e,e Naa,ai,af OfG PaO,dD,e,ai QbG.cz,!,!,!,!,rfl RbQ,e SdB,e,e,e TbZ,e,e,e Ucj,e,e,rfl VaI,e,e,e WPW.pt,e XnS,jM,ai Yi6,e ZdM,ai [cj,e,jn,rfl ]fP,e,e,l,l ^aO,d7,e,ai _iJ,e,e,e,! `aO,d7,e,e adJ,dO,e,e,! baa,aH,af cfH,n,! dbN,e,rfl,e,e,e eiH,bH,e,e fbZ,bY,e,ai gmY,e hjw,e irg,e jbN,je,rfl,T.k7,BT.kX,e kdJ,e,e,e,! lfm,bI,mW,mX,jc,e,e maT,e,rfl,e,e,e nlI,e,e ojm,e pdF,e,e,e,e qBl,e,e rjw,T.k9.c sFt,n,s,e,e,l,l tqo,rfl,T.fL,e,rfl,rfl ujU,e,e,e,e,rfl vaD,ku waY,af xbF,e,e,e yjv,e,e,e,ai,! zi8 {bZ,oU,e,e |bZ,bY,e,e }gh ~aO,yY,e,e ¡yM,e ¢Fv,n,e,rfl,rfl,rfl £lV,e,! ¤yW,bI,r9,sj,yX,e,rfl,rfl ¥T.eL ¦BT.eG §aH ¨lY,hr.units,e,e,! ©lH ªgf,e,e,e,e «i9,_ ¬dM,e ­zc,e,e,e ®Q7,n,s,e,e,rfl ¯aO,qm,e,e °aO,i8,ai,e ±aT,j5,rfl,T.iQ,BT.iK,e ²CO ³aO,dD,e,e ´gk.oz,!,e µmZ ¶KN,K_,n,e,rfl,rfl,rfl,rfl ·BR,T.Rp.c ¸aT,e,rfl,T.uA,BT.sZ,e ¹dF,kW,e,gh,e ºfP,bG.pz,e,l,l »vF,hr.units ¼tL,e ½Em ¾bu,n,s,ai ¿CN ÀdF,mZ,e,gh,e ÁbZ,oU,e,ai Âwu ÃHQ,rfl,T.Ro,e,rfl,rfl ÄT.Rn ÅBT.J2 ÆbG.pz ÇCM,e ÈT.vQ ÉBT.y9 Êvo,e,e Ëvm,e ÌaA ÍlT,rfl,T.uz,e ÎiL,e,e Ïzj,e,e ÐOQ ÑEF,e,e,l,l,l Òzm,T.iB.Ds,e,e,! ÓT.iB.Dr ÔYF,n,s,e,e,l,l,l,rfl,rfl ÕT.xm.c ÖsF ×kW Øku ÙsI ÚIk,hr.units ÛFl ÜFo,hr.units,e,e,e,rfl ÝzJ,hr.units,rfl ÞBP ßzh,e,e àbY áHG,e,e,e âzg,rfl,T.lM,rfl,T.nE,e,rfl,rfl,rfl ãKf,rfl,T.nE,e,rfl,rfl äOP åOO æOx,e çO1 èOG,e,e,rfl,rfl,rfl éBR,e êyP,e ëMc,e,e,e ìVT,rfl,rfl,T.YJ,e,ai,rfl,rfl,rfl,rfl,rfl íQV,hr.units,e,e,ai,aaQ,! îQ2,e,rfl,rfl ïOT,JQ,oU,ai,e,e ðgf,dO,e,e,! ñjv,e,e,e,e,! òMx,T.j8.wY,e,e,e,! ówG,rfl,T.vQ,rfl,T.fL,e ôabb,rfl,e,rfl,rfl õaaF,e,e,set_list öOS,JQ,JQ,e,e,e".splitOn " ").map λx=>(x.toList.head!,(x.drop 1).toString.splitOn ",")
end WL
set_option hygiene false in
local macro_rules | `(tactic| exists%$t $xs,*)=>do
 let x:=xs.getElems.toList
 if !WL.o t||x.length<4 then WL.u else
  let p ← WL.rp 9 x[2]!
  let l ← `(fun _ _ _ _=>p)
  let m:=(WL.rd l x[1]!.raw.getId WL.tb 99 ((x[3]!.raw.isStrLit?.getD "").toList,x.drop 5)).1
  let z:=Array.replicate (x[4]!.raw.isNatLit?.getD 0) (← `(_))
  `(tactic| (refine $(⟨x[0]!.raw⟩).F.ok $(x[1]!) ?_ ?_; (rintro vs H Q E $p; rfl); rintro cdv A outer s H vs Q E hr $p; refine ⟨_,$m,?_⟩; change(_:TS) (Ends.mk _ _ _ _) [$z,*] H; walk_at "start"))
local macro_rules | `(tactic| let $p:term:=$e)=>do `(tactic| obtain $(← WL.rp 9 p):rcasesPat:=$e)
local macro_rules (kind:=Lean.Parser.Tactic.tacticErw___) | x=>if WL.o x then return WL.w x else WL.u
local macro_rules (kind:=«term_^_») | x=>let f:=x[0];if !WL.o x[1]||f.isOfKind `num||f.isOfKind `Lean.Parser.Term.typeAscription then WL.u else if f.isOfKind `Lean.Parser.Term.app then return f.modifyArg 1 λa=>a.setArgs (a.getArgs.push x[2]) else return Lean.Syntax.mkApp ⟨f⟩ (.singleton ⟨x[2]⟩)
local macro_rules (kind:=«term∅») | x=>if WL.o x then `(by lia) else WL.u
local macro_rules (kind:=Lean.Parser.Term.tuple) | x=>if WL.o x&&x[1].getNumArgs==0 then `(by decide+kernel) else WL.u
local macro_rules (kind:=«term!_») | x=>WL.f `some `some x
local macro_rules (kind:=«term¬_») | x=>WL.f `ref `ref x
local macro_rules (kind:=Lean.Parser.Tactic.tacticLet__) | x=>if x[2][0].isOfKind `Lean.Parser.Term.letIdDecl then WL.k `Lean.Parser.Tactic.tacticHave__ "have" x else WL.u
local macro_rules (kind:=Lean.Parser.Term.let) | x=>if x[2][0].isOfKind `Lean.Parser.Term.letIdDecl then WL.k `Lean.Parser.Term.have "have" x else WL.u
local macro_rules (kind:=Lean.Elab.Tactic.Ext.ext) | x=>if WL.o x then return WL.n `Lean.Parser.Tactic.renameI [Lean.mkAtom "rename_i",x[1].modifyArgs (·.map λr=>WL.n `Lean.binderIdent [r[0][0]])] else WL.u
local macro_rules | `(tactic| walk_at "sc")=>`(tactic| exact⟨rfl, rfl, rfl, by decide +kernel, rfl, by decide +kernel, by decide +kernel⟩)
theorem Y{a:Sort u}{b:a}:b=b:=rfl
def WL.ti:=("Z Int,M s.heap.objs.size,B Nat,J Value,ab xs.length,ae Addr,am true,ap s.heap,aw Shared,ax Str,bc none,bi X.env,bj X.prog,bn rs.length,bo false,bp Row,bv s1.heap.objs.size,ce kvs.length,cf ys.length,ci Bool,cn ps.length,cq es.size,cr X.w,cv Heap,cw World,de Program,dq X.K,dr Expr,dt s2.heap.objs.size,du Obj,dv vs.length,dA h'.objs.size,dC us.length,dE h.objs.size,dL G.objs.size,d4 l.length,d6 s'.heap,eA X.s₀.heap.objs.size,eC r.length,eD h1.objs.size".splitOn ",").map (·.splitOn " ")
local macro_rules (kind:=ident) | x=>match x with|.ident _ _ (.str .anonymous s) _=>if s.length<3 then if s=="O" then `(Prop) else match WL.ti.find? (·.head! ==s) with|some n=>return Lean.mkIdent n.getLast!.toName|_=>WL.u else WL.u|_=>WL.u
set_option bootstrap.genMatcherCode false
abbrev aB:=PySem.W.Frag
section
open PySem PySem.Spec PyProof.Rows
def kQ:=@Around.under_plainId
def wk:=@Array.forIn_toList
def iy:=@Array.getElem?_eq_getElem
def wm:=@Array.getElem?_eq_none
def qF:=@Array.getElem?_eq_some_iff
def gR:=@Array.getElem?_toList
def d8:=@Array.length_toList
def Bk:=@Bool.and_eq_true
def yw:=@Bool.false_and
def cJ:=@Bool.false_eq_true
def ig:=@Bool.not_true
def yx:=@Calls.callWith_builtin
def CB:=@Calls.call_function_entry
def mQ:=@Calls.spliced_cons
def oG:=@Calls.spliced_nil
def CC:=@Classical.byContradiction
def mR:=@F.plain_max_loop
def CD:=@F.slot_tuple_iterator_next
def lz:=@Heap.SameBut.update
def iW:=@Heap.get?_update_ne
def jI:=@Heap.get?_update_other
def fF:=@Heap.get?_update_self
def aN:=@Heap.lt_size
def fM:=@Heap.size_push
def uX:=@Int.natCast_nonneg
def iX:=@Int.toNat_natCast
def qS:=@List.Perm.refl
def lA:=@List.any_cons
def kh:=@List.append_assoc
def ck:=@List.append_nil
def ki:=@List.cons_append
def CF:=@List.drop_eq_getElem_cons
def yy:=@List.ext_getElem?
def lB:=@List.filter_append
def yz:=@List.filter_cons_of_neg
def yC:=@List.filter_cons_of_pos
def kj:=@List.find?_cons
def yD:=@List.flatMap_append
def oH:=@List.flatMap_cons
def qT:=@List.forIn_cons
def lC:=@List.getElem?_append_left
def ko:=@List.getElem?_append_right
def qU:=@List.getElem?_cons_succ
def yE:=@List.getElem?_cons_zero
def iY:=@List.getElem?_eq_none
def bB:=@List.getElem?_map
def qV:=@List.getElem?_take_of_lt
def mS:=@List.getElem?_toArray
def uY:=@List.getElem?_zip_eq_some
def yF:=@List.getElem_inj
def yG:=@List.getElem_map
def lD:=@List.getElem_mem
def aP:=@List.length_append
def bW:=@List.length_cons
def uZ:=@List.length_drop
def kq:=@List.length_filter_le
def au:=@List.length_map
def u0:=@List.length_nil
def oJ:=@List.length_range
def lE:=@List.length_reverse
def jJ:=@List.length_singleton
def bU:=@List.length_take
def bf:=@List.map_append
def yH:=@List.map_congr_left
def cu:=@List.map_cons
def gC:=@List.map_map
def aR:=@List.mem_append
def jK:=@List.mem_append_left
def fV:=@List.mem_append_right
def aJ:=@List.mem_cons
def dz:=@List.mem_cons_of_mem
def iZ:=@List.mem_cons_self
def eW:=@List.mem_filter
def lF:=@List.mem_flatMap
def qW:=@List.mem_iff_getElem
def ir:=@List.mem_iff_getElem?
def aG:=@List.mem_map
def oK:=@List.mem_map_of_mem
def gD:=@List.mem_range
def aC:=@List.mem_singleton
def fN:=@List.nodup_append
def iG:=@List.nodup_cons
def mT:=@List.nodup_nil
def eE:=@List.not_mem_nil
def vc:=@List.pairwise_cons
def oM:=@List.pairwise_iff_getElem
def CG:=@List.pairwise_lt_range
def oN:=@List.pairwise_map
def yI:=@List.prefix_refl
def ve:=@List.range_succ
def qX:=@List.reverse_cons
def bC:=@List.size_toArray
def b8:=@List.take_add_one
def cA:=@List.take_length
def yJ:=@List.take_subset
def oO:=@Nat.add_assoc
def CH:=@Nat.add_sub_cancel_left
def vg:=@Nat.eq_zero_or_pos
def qY:=@Nat.le_add_right
def dW:=@Nat.le_of_ble_eq_true
def f6:=@Nat.le_of_lt
def aq:=@Nat.le_refl
def b9:=@Nat.le_succ
def aZ:=@Nat.le_trans
def fu:=@Nat.lt_irrefl
def mU:=@Nat.lt_of_le_of_lt
def cR:=@Nat.lt_of_lt_of_le
def bR:=@Nat.lt_or_ge
def jl:=@Nat.lt_succ_of_lt
def f9:=@Nat.lt_succ_self
def rY:=@Nat.lt_trichotomy
def rZ:=@Nat.min_eq_right
def jQ:=@Nat.ne_of_gt
def aU:=@Nat.ne_of_lt
def fz:=@Nat.not_lt_zero
def aQ:=@Nat.zero_le
def aM:=@Ne.symm
def mV:=@Obj.cls_mapFields
def eU:=@Obj.data_mapFields
def jR:=@Obj.isFreed_of_fields
def cL:=@Option.map_eq_some_iff
def qk:=@Option.toList_some
def kR:=@Paired.length
def dX:=@Paired.mono
def dY:=@Paired.snoc
def bH:=@PassesOwn.never
def jS:=@PyProof.Rows.callWith_type1
def bI:=@PySem.F.plainAttrs_list
def r6:=@PySem.F.slot_dict_get
def dg:=@PySem.F.slot_list_append
def mW:=@PySem.F.slot_list_extend
def r9:=@PySem.F.slot_list_pop
def di:=@PySem.F.type_list_append
def mX:=@PySem.F.type_list_extend
def sj:=@PySem.F.type_list_pop
def g8:=@PySem.W.kia_one
def kT:=@PySem.W.mg_of
def kU:=@PySem.mem_of_lookup
def gH:=@True.intro
end
open PySem PySem.Spec PyProof.Rows
variable {A:Around}{C I a b d dx f it l l1 l2:ae}{E:J->aw->O}{K:aB}{P prog:de}{R:Result->aw->O}{T:String}{an od:Option ae}{Tl Tx pos PQ tpos:Pos}{base h h':cv}{c e tg value:dr}{cd ct dc oc pm u:J}{cl:List (ax×ae)}{cs ns ss:List Z}{ep i j k n t':B}{es:List dr}{fd:FuncData}{fp wr:List ae}{ix:List B}{kw:List (ax×J)}{led t1 t2:ci}{m name x:ax}{mg:ax->Option J}{p:Array B}{X1:List (ae×du)}{ps:List ax}{s:aw}{scope:Scope}{sl:Array^Option J}{st:Stmt}{us vs:List J}{w:cw}{ys:Array J}
namespace L2
variable {H:Hp}{o:HO}{ch:List ae}{N:List ax}{Y1:Model}{Q:J->aw->O}{v y:V}{X:Cx}{op:CmpOp}{t te:TE}{D:Ends}{g:TG}{body:List Stmt}{tb:TS}{xs vs:List V}{f:J->J->Sem J}{r:R2}{pl:Sem ci}{CX:Oe}
abbrev Key:=Sum Z ax
noncomputable def yK:Key->J->ci
 | .inl k,v=>Value.isInt k v
 | .inr x,v=>Value.isStrOf x v
noncomputable def ajG(w:cw):Key->Z
 | .inl k=>hashInt k
 | .inr x=>hashStr w x
theorem fh:∀{k:Key}{v:J},yK k v=am->(∃i t,k=Sum.inl i/\v=Value.int i t)\/(∃x t,k=Sum.inr x/\v=Value.str x t)
 | .inl i,v,h=>by
  let#[t,e]:=Value.isInt_shape (k:=i) (v:=v) h;show .inl #[i,t,Y,e]
 | .inr x,v,h=>by let#[t,e]:=Value.isStrOf_shape (x:=x) (v:=v) h;show .inr #[x,t,Y,e]
def LR(i:Z)(t:Tok):yK (.inl i)^.int i t=true:=by simp[yK,Value.isInt]
def LS(x:ax)(t:Tok):yK (.inr x)^.str x t=true:=by simp[yK,Value.isStrOf]
def aar(a b:Z):decide ((Sum.inl a:Key)=Sum.inl b)=(a==b):=by by_cases e:a=b;subst e;simp;let h:Not ((Sum.inl a:Key)=Sum.inl b):=λq=>e^Sum.inl.inj q;rw[decide_eq_false h];show(beq_eq_false_iff_ne.mpr e).symm
def aas(a b:ax):decide ((Sum.inr a:Key)=Sum.inr b)=decide (a=b):=by by_cases e:a=b;subst e;simp;let h:Not ((Sum.inr a:Key)=Sum.inr b):=λq=>e^Sum.inr.inj q;rw[decide_eq_false h,decide_eq_false e]
def aat(a:Z)(b:ax):decide ((Sum.inl a:Key)=Sum.inr b)=false:=decide_eq_false (λq=>nomatch q)
def aau(a:ax)(b:Z):decide ((Sum.inr a:Key)=Sum.inl b)=false:=decide_eq_false (λq=>nomatch q)
noncomputable def bL(prog:de)(w:cw):PySem.KeyKind prog w Key where
 is:=yK
 hash:=ajG w
 inj:=λv a b ha hb=>by rcases fh ha with⟨i,t,rfl,rfl⟩|⟨x,t,rfl,rfl⟩;rcases fh hb with⟨j,u,rfl,e⟩|⟨y,u,rfl,e⟩;injection e with e1 _;rw[e1];show nomatch e;rcases fh hb with⟨j,u,rfl,e⟩|⟨y,u,rfl,e⟩;show nomatch e;injection e with e1 _;rw[e1]
 byValue:=λk v h=>by rcases fh h with⟨i,t,rfl,rfl⟩|⟨x,t,rfl,rfl⟩<;>rfl
 pyHash:=λhv h=>by rcases fh hv with⟨i,t,rfl,rfl⟩|⟨x,t,rfl,rfl⟩;show wpAny_pyHash_int h;show wpAny_pyHash_str h
 eqBool:=λhu hv h=>by rcases fh hu with⟨i,t,rfl,rfl⟩|⟨x,t,rfl,rfl⟩;rcases fh hv with⟨j,u,rfl,rfl⟩|⟨y,u,rfl,rfl⟩;rw[aar] at h;show wpAny_eqBool_int h;rw[aat] at h;show SeqAt.EqAt.int_str i t y u _ _ _ _ h;rcases fh hv with⟨j,u,rfl,rfl⟩|⟨y,u,rfl,rfl⟩;rw[aau] at h;show SeqAt.EqAt.str_int x t j u _ _ _ _ h;rw[aas] at h;show wpAny_eqBool_str h
 «strs»:=λk x t v h=>by rcases fh h with⟨i,u,rfl,e⟩|⟨y,u,rfl,e⟩;show nomatch e;injection e with e1 _;subst e1;cases v<;>rfl
def Hg(prog:de)(w:cw)(k:Key)(v:J):(bL prog w).is k v=yK k v:=rfl
def Eh(prog:de)(w:cw)(i:Z)(t:Tok):(bL prog w).is (.inl i)^.int i t=true:=LR i t
def oQ(prog:de)(w:cw)(x:ax)(t:Tok):(bL prog w).is (.inr x)^.str x t=true:=LS x t
inductive V where
 | cH|bl (b:Bool)|int (i:Int)|str (x:Str) | JG (b:Array UInt8)|flt (b:UInt64)|ref (a:Addr)|ty (n:String)
 deriving DecidableEq
def RelV:V->J->O
 | .cH,u=>u=Value.none
 | .bl b,u=>u=Value.bool b
 | .int i,u=>∃t,u=Value.int i t
 | .str x,u=>∃t,u=Value.str x t
 | .JG b,u=>∃t,u=Value.bytes b t
 | .flt b,u=>∃t,u=Value.float b t
 | .ref a,u=>u=Value.ref a
 | .ty n,u=>u=Value.type n
abbrev Vals:List V->List J->Prop:=Paired RelV
theorem Vals.length{xs:List V}{us:List J}(r:Vals xs us):ab=us.length:=kR r
theorem Vals.get:∀{xs:List V}{us:List J}{i:B}{x:V},Vals xs us->xs[i]?=!x->∃u,us[i]?=!u/\RelV x u
 | _,_,_,_,.nil,e=>by simp at e
 | _,_,0,_,.cons r _,e=>by simp at e;subst e;show#[_,Y,r]
 | _,_,i+1,x,.cons _ t,e=>by let#[u,h1,h2]:=Vals.get (i:=i) (x:=x) t (by simpa using e);show#[u,by simpa using h1,h2]
theorem Vals.set{x:V}(r:RelV x u):∀{xs:List V}{us:List J}(i:B),Vals xs us->Vals (xs.set i x) (us.set i u)
 | _,_,_,.nil=>.nil
 | _,_,0,.cons _ t=>.cons r t
 | _,_,i+1,.cons q t=>.cons q^Vals.set r i t
def Vals.append:∀{xs ys:List V}{us ws:List J},Vals xs us->Vals ys ws->Vals (xs++ys) (us++ws):=by
 intro xs ys us ws h s;induction h with
 | nil=>show s
 | cons r t ih=>show .cons r ih
theorem Vals.take:∀{xs:List V}{us:List J}(n:B),Vals xs us->Vals (xs.take n)^us.take n:=by
 intro xs us n h;induction h generalizing n with
 | nil=>cases n<;>show .nil
 | cons r t ih =>
  cases n with
  | zero=>show .nil
  | succ n=>show .cons r^ih n
theorem Vals.drop:∀{xs:List V}{us:List J}(n:B),Vals xs us->Vals (xs.drop n)^us.drop n:=by
 intro xs us n h;induction h generalizing n with
 | nil=>cases n<;>show .nil
 | cons r t ih =>
  cases n with
  | zero=>show .cons r t
  | succ n=>show ih n
def lG:Option V->Option J->O
 | some v,!u=>RelV v u
 | none,none=>True
 | _,_=>False
def KV{κ:Type}:List (κ×V)->List (κ×J)->Prop:=Paired λ(p:κ×V)(q:κ×J)=>p.1=q.1/\RelV p.2 q.2
noncomputable def kV:Key->V
 | .inl i=>.int i
 | .inr x=>.str x
inductive HO where
 | lst (xs:List V)
 | tup (xs:List V)
 | dK (kvs:List (Key×V))|dT (kvs:List (List Key×V))
 | set (S:Int->Bool) (n:Nat)
 | ins (C dx:Addr) (fs:List (Str×V))
 | own (x:Addr)
 | xd (fs:List (Str×V))
 | met (f x:Addr)
 | rng (lo hi:Int)
 | JH (o:Obj) (u:HO)
 | tbl (ps:Array Value)
 | ext (φ:Heap->Prop)
abbrev Hp:=ae->Option HO
noncomputable def upd(H:Hp)(a:ae)(o:HO):Hp:=λb=>if b=a then !o else H b
def kr:upd H a o a=!o:=by unfold upd;rw[if_pos Y]
def bX(h:b≠a):upd H a o b=H b:=by unfold upd;rw[if_neg h]
def cB{u:HO}(h:H a=!o)(h':H b=!u)(d:o≠u):a≠b:=by intro e;subst e;rw[h] at h';show d^Option.some.inj h'
def aE(h:H a=!o)(h':H b=bc):a≠b:=by intro e;subst e;rw[h] at h';cases h'
section
variable (P:de)(w:cw)
def dS(H:Hp)(h:cv)(a:ae):HO->O
 | .lst xs=>ab<=sizeLine/\∃(XL:List J)(n:B),Vals xs XL/\h.get? a=!{ cls:=.type "list", data:=.seq XL.toArray n }
 | .tup xs=>ab<=sizeLine/\∃XL:List J,Vals xs XL/\IsTup h a XL.toArray
 | .dK kvs=>ce<=sizeLine/\(a==sysModules)=bo/\∃vs,KV kvs vs/\h.DictOf (bL P w) a vs
 | .dT kvs=>ce<=sizeLine/\(a==sysModules)=bo/\∃xs:List (List Key×ae×J),
   Paired (λ(p:List Key×V)(q:List Key×ae×J)=>p.1=q.1/\H q.2.1=!.tup^p.1.map kV/\RelV p.2 q.2.2) kvs xs /\
   ∃o es ep,h.get? a=!o/\o.ExactDict/\o.data=.dict es ep/\es.toList=xs.map^entryOfKey^tupleKind^bL P w/\(xs.map (·.1)).Nodup
 | .set S n=>h.SetOf (intKind P w) a S n
 | .ins C dx fs=>H dx=!.own a/\fs.length<=1000/\dx≠a/\h.get? a=!(PySem.W.instObj C dx) /\
   ∃mA,h.Ns1 dx mA/\(∀f,lG (fs.lookup f)^mA f)/\PySem.Within mA^fs.map (·.1)
 | .own _=>∃o,h.get? a=!o
 | .xd fs=>∃mA,h.Ns1 a mA/\∀f,lG (fs.lookup f)^mA f
 | .rng lo hi=>∃t u v,h.get? a=!{ cls:=.type "range", data:=.fields #v[.int lo t,.int hi u,.int 1 v] }
 | .JH o u=>h.get? a=!o/\dS H h a u
 | .tbl ps=>h.get? a=!{ cls:=.none,data:=.fields ps }
 | .met f x=>h.get? a=!PySem.W.methodObj (¬f)^¬x
 | .ext φ=>φ h/\(∃o,h.get? a=!o)/\∀h1 h2:Heap,φ h1->(∀o,h1.get? a=!o->h2.get? a=!o)->φ h2
def qZ(H:Hp)(h:cv):=∀a o,H a=!o->dS P w H h a o
end
section
variable {H H':Hp}{o:HO}
theorem dS.lt(x:dS P w H h a o):a<h.objs.size:=by
 cases o with
 | lst xs=>let#[_,_,_,_,e]:=x;show aN e
 | tup xs=>let#[_,_,_,p]:=x;show p.lt
 | dK kvs=>let#[_,_,_,_,o,_,_,e,_]:=x;show aN e
 | dT kvs=>let#[_,_,_,_,o,_,_,e,_]:=x;show aN e
 | set S n=>let#[o,_,_,_,e,_]:=x;show aN e
 | ins C dx fs=>let#[_,_,_,e,_]:=x;show aN e
 | own y=>let#[_,e]:=x;show aN e
 | xd fs=>let#[_,#[_,_,_,e,_],_]:=x;show aN e
 | rng lo hi=>let#[_,_,_,e]:=x;show aN e
 | JH ob u=>let#[e,_]:=x;show aN e
 | tbl ps=>show aN (show h.get? a=!_ from x)
 | met f y=>show aN (show h.get? a=!_ from x)
 | ext φ=>let#[_,#[_,e],_]:=x;show aN e
def Paired.LU{α β:Type}{F G:α->β->O}:∀{l₁:List α}{l₂:List β},Paired F l₁ l₂->(∀a b,F a b->G a b)->Paired G l₁ l₂:=by
 intro l₁ l₂ h f;induction h with
 | nil=>show .nil
 | cons r t ih=>show .cons (f _ _ r) ih
def dS.stay(x:dS P w H h a o)(k:∀b u,(b=a\/H b=!.own a)->h.get? b=!u->h'.get? b=!u)
  (ho:∀b,H b=!.own a->H' b=!.own a)(ht:∀b xs,H b=!.tup xs->H' b=!.tup xs):dS P w H' h' a o:=by
 induction o with
 | lst xs=>let#[z,XL,n,r,e]:=x;show#[z,XL,n,r,k _ _ (.inl Y) e]
 | tup xs=>let#[z,XL,r,ob,e,c]:=x;show#[z,XL,r,ob,k _ _ (.inl Y) e,c]
 | dK kvs=>let#[z,y,vs,r,ob,es,ep,e,c]:=x;show#[z,y,vs,r,ob,es,ep,k _ _ (.inl Y) e,c]
 | dT kvs =>
  let#[z,y,xs,r,ob,es,ep,e,c]:=x;show#[z,y,xs,Paired.LU r λp q z=>#[z.1,ht _ _ z.2.1,z.2.2],ob,es,ep,k _ _ (.inl Y) e,c]
 | set S n=>let#[ob,es,ep,t,e,c]:=x;show#[ob,es,ep,t,k _ _ (.inl Y) e,c]
 | ins C dx fs =>
  let#[d,z,ne,e,mA,#[od,es,ep,e2,c],r]:=x;show#[ho _ d,z,ne,k _ _ (.inl Y) e,mA,#[od,es,ep,k _ _ (.inr d) e2,c],r]
 | own y=>let#[ob,e]:=x;show#[ob,k _ _ (.inl Y) e]
 | xd fs=>let#[mA,#[od,es,ep,e,c],r]:=x;show#[mA,#[od,es,ep,k _ _ (.inl Y) e,c],r]
 | rng lo hi=>let#[t,u,v,e]:=x;show#[t,u,v,k _ _ (.inl Y) e]
 | JH ob u ih=>let#[e,q]:=x;show#[k _ _ (.inl Y) e,ih q]
 | tbl ps =>
  let e:h.get? a=!{ cls:=.none,data:=.fields ps }:=x;change h'.get? a=!{ cls:=.none,data:=.fields ps };show k a _ (.inl Y) e
 | met f y =>
  let e:h.get? a=!PySem.W.methodObj (¬f)^¬y:=x;change h'.get? a=!PySem.W.methodObj (¬f)^¬y;show k a _ (.inl Y) e
 | ext φ=>let#[p,#[o,e],st]:=x;show#[st _ _ p λo q=>k _ _ (.inl Y) q,#[o,k _ _ (.inl Y) e],st]
theorem qZ.lt(x:qZ P w H h)(e:H a=!o):a<h.objs.size:=(x a o e).lt
def qZ.fresh(x:qZ P w H h)(e:dE<=a):H a=none:=by
 cases q:H a with
 | none=>rfl
 | some u=>show absurd (cR (x.lt q) e)^fu _
def qZ.kept(x:qZ P w H h)(k:∀b u,h.get? b=!u->h'.get? b=!u):qZ P w H h':=λa o e =>
 (x a o e).stay (λb u z q=>k b u q) (λz q=>q) λz z q=>q
def qZ.laid(x:qZ P w H h)(k:∀b u,h.get? b=!u->h'.get? b=!u)(hp:dE<=a)(new:dS P w (upd H a o) h' a o):qZ P w (upd H a o) h':=λb u e=>by
 let hn:=x.fresh hp;by_cases hb:b=a;subst hb;rw[kr] at e;cases e;show new
 .rw[bX hb] at e;show(x b u e).stay (λc v z q=>k c v q) (λc q=>by rw[bX^aE q hn];show q) λc xs q=>by rw[bX^aE q hn];show q
end
def Rd(H:Hp)(a:ae)(u:HO):=H a=!u\/∃o,H a=!.JH o u
def Rd.ok{u:HO}(r:Rd H a u)(x:qZ P w H h):dS P w H h a u:=by rcases r with r|⟨o,r⟩;show x a u r;let#[_,q]:=x a _ r;show q
def Mut:Option HO->O
 | some (.lst _)=>True
 | some (.dK _)=>True
 | some (.dT _)=>True
 | some (.set _ _)=>True
 | some (.ins _ _ _)=>True
 | some (.ext _)=>True
 | _=>False
section
variable {H:Hp}{x e:ae}{o':HO}
def qZ.write(ok:qZ P w H h)(mu:Mut^H x)(he:e=x\/H e=!.own x)(k:∀b u,b≠e->h.get? b=!u->h'.get? b=!u)(heo:∃u,h'.get? e=!u)
  (new:dS P w (upd H x o') h' x o'):qZ P w (upd H x o') h':=λb u q=>by
 let aek:∀c y,H c=!.own y->c≠x:=λc y r z=>by subst z;rw[r] at mu;show mu
 let ajI:∀c xs,H c=!.tup xs->c≠x:=λc xs r z=>by subst z;rw[r] at mu;show mu
 by_cases hb:b=x;subst hb;rw[kr] at q;cases q;show new
 .rw[bX hb] at q;by_cases XJ:b=e
  .have q':H b=!.own x:=by rcases he with z|z;show absurd (XJ.trans z) hb;rw[XJ];show z
   rw[q] at q';cases q';let#[v,hv]:=heo;show#[v,by rw[XJ];show hv]
  .show(ok b u q).stay (λc v hc r=>k c v ?_ r) (λc r=>by rw[bX^aek c b r];show r) λc xs r=>by rw[bX^ajI c xs r];show r
   rcases hc with rfl|hc;show XJ;rintro rfl;rcases he with z|z;show aek c b hc z;rw[hc] at z;cases z;show hb Y
end
structure Un (fs ex:List Addr) (H H':Hp) (h h':Heap):Prop where
 keep:∀b o,h.get? b=!o->H b=none->b∉fs->b∉ex->h'.get? b=!o
 slot:∀b o,h.get? b=!o->H b=none->b∈fs->b∉ex->∃sl,h'.get? b=!{ o with slots:=sl }
 free:∀b o,h.get? b=!o->H b=none->b∉ex->H' b=none
 there:∀b o,h.get? b=!o->b∉ex->∃o',h'.get? b=!o'
 tups:∀b xs,H b=!.tup xs->H' b=!(.tup xs)
 CJ:∀b o u,H b=!.JH o u->H' b=!(.JH o u)
 Ei:∀b ps,H b=!.tbl ps->∃more,H' b=!.tbl (ps++more)
section
variable {fs Hn ex ex':List ae}{H H1 H2:Hp}{h1 h2:cv}{x e:ae}{o:HO}
def Un.any(u:Un fs ex H H1 h h1){ob:du}(q:h.get? b=!ob)(n:H b=bc)(hx:b∉ex):∃sl,h1.get? b=!{ ob with slots:=sl }:=by by_cases hb:b∈fs;show u.slot b ob q n hb hx;show#[ob.slots,u.keep b ob q n hb hx]
def Un.kept(k:∀b u,h.get? b=!u->h'.get? b=!u):Un fs ex H H h h' :=
 #[λb ob q z z z=>k b ob q,λb ob q z z z=>#[ob.slots,k b ob q],λz z z n z=>n,λb ob q z=>#[ob,k b ob q],λz z q=>q,λz z z q=>q,λz ps q=>#[#[],by rw[q];simp]]
def Un.refl:Un fs ex H H h h:=Un.kept λz z q=>q
def Un.laid(k:∀b u,h.get? b=!u->h'.get? b=!u)(hp:dE<=a)(hn:H a=bc):Un fs ex H (upd H a o) h h' where
 keep:=λb u q z z z=>k b u q
 slot:=λb u q z z z=>#[u.slots,k b u q]
 free:=λb u q n z=>by rw[bX^aU^cR (aN q) hp];show n
 there:=λb u q z=>#[u,k b u q]
 tups:=λb xs q=>by rw[bX^aE q hn];show q
 CJ:=λb u xs q=>by rw[bX^aE q hn];show q
 Ei:=λb ps q=>#[#[],by rw[bX^aE q hn,q];simp]
def Un.write(mu:Mut^H x)(he:e=x\/H e=!.own x)(k:∀b u,b≠e->h.get? b=!u->h'.get? b=!u)(heo:∃u,h'.get? e=!u):Un fs ex H (upd H x o) h h':=by
 let hx:∀b,H b=bc->b≠x:=λb n z=>by subst z;rw[n] at mu;show mu
 let hb:∀b,H b=bc->b≠e:=λb n z=>by subst z;rcases he with r|r;show hx b n r;rw[n] at r;cases r
 let hm:∀b u,H b=!u->Not (Mut^!u)->b≠x:=λb u q nm z=>by subst z;rw[q] at mu;show nm mu
 show#[λb u q n j j=>k b u (hb b n) q,λb u q n j j=>#[u.slots,k b u (hb b n) q],λb u q n j=>by rw[bX^hx b n];show n,λb u q j=>?_,
  λb xs q=>by rw[bX (hm b _ q λz=>z)];show q,λb u xs q=>by rw[bX (hm b _ q λz=>z)];show q,λb ps q=>#[#[],by rw[bX (hm b _ q λz=>z),q];simp]]
 by_cases XJ:b=e;subst XJ;show heo;show#[u,k b u XJ q]
end
noncomputable def trk(h:cv)(H:Hp):List Addr:=(List.range dE).filter λa=>(H a).isSome
def CK(h:cv)(H:Hp):Heap:=PySem.W.hideAll h^trk h H
def LV(h:cv)(H:Hp):(CK h H).objs.size=h.objs.size:=PySem.W.hideAll_size _ _
def Ot{o:du}(e:h.get? b=!o)(n:H b=bc):(CK h H).get? b=!o :=
 PySem.W.hideAll_get _ e λhm=>by let q:(H b).isSome=true:=(eW.mp hm).2;rw[n] at q;simp at q
def Ur{o:du}(e:(CK h H).get? b=!o):h.get? b=!o/\H b=none:=by
 let e':h.get? b=!o:=PySem.W.of_hideAll (trk h H) e;show#[e',?_];cases q:H b with
 | none=>rfl
 | some x =>
  let hm:b∈trk h H:=eW.mpr #[gD.mpr^aN e',by simp[q]];let z:(CK h H).get? b=none:=PySem.W.hideAll_none (trk h H) hm;rw[z] at e;cases e
noncomputable def Us(g h:cv)(L:ae):List (ae×du):=(List.range dE).filterMap λa=>if a=L\/(g.get? a).isSome=am then none else(h.get? a).map λo=>(a,o)
noncomputable def rest(g h:cv)(L d:ae):List (ae×du):=(Us g h L).filter λp=>decide (p.1≠d)
structure Mod (K:aB) (mg:Str->Option Value) (base:Heap):Prop where
 kin:K.In base
 glob:base.Ns mainGlobals mg
 blt:∃mb,base.Ns builtinsNs mb/\∀x:Str,x ≠ "__name__" -> mb x=bootBuiltins x
 nolimit:base.NoLimit
structure Cx where
 prog:Program
 w:World
 K:aB
 mg:Str->Option Value
 base:Heap
 A:Around
 N:List Str
 s₀:Shared
 H₀:Hp
 env:Env
 outer:List Env
 stack:List Env
 ex:List Addr
 fn:Str->Bool
 calm:Bool
 pn:List (Addr×Obj)
 xe:Value->Shared->Prop
noncomputable def frs(l:List Env):List Addr:=l.filterMap (·.frame)
abbrev Cx.fs(X:Cx):List Addr:=frs X.outer
def Vis(sc:Scope)(x:ax):=sc.names.lookup x=!.local\/sc.names.lookup x=!.cell\/sc.names.lookup x=!.free
def Loc(sc:Scope)(x:ax):=sc.names.lookup x=!.local\/sc.names.lookup x=!.cell
def Look(env:Env)(h:cv)(m:ax->Option J)(x:ax)(u:J):O :=
 (env.kindOf x=!.local/\m x=!u)\/((env.kindOf x=!.cell\/env.kindOf x=!.free)/\∃c,env.cells.lookup x=!c/\h.IsCell c^!u)
structure Cx.Ok (X:Cx):Prop where
 mod:Mod X.K X.mg X.base
 kind:X.env.scope.kind=.function
 glob:X.env.globals=mainGlobals
 blt:X.env.builtins=builtinsNs
 above:X.s₀.heap.objs.size<=X.env.locals
 inj:∀x y c,X.env.cells.lookup x=!c->X.env.cells.lookup y=!c->x=y
 has:∀x,(X.env.kindOf x=!.cell\/X.env.kindOf x=!.free)->∃c,X.env.cells.lookup x=!c
 cab:∀x c,X.fn x=true->X.env.cells.lookup x=!c->X.s₀.heap.objs.size<=c
 hd:X.calm=true->X.A.handled=none
 frames:X.A.frames=!X.stack
 stk:X.stack=X.outer\/(X.stack=X.env::X.outer/\X.env.frame=!X.env.locals)
 exf:∀b∈X.ex,b≠X.env.locals/\∀x c,X.env.cells.lookup x=!c->c≠b
 bs:∀b o,X.base.get? b=!o->X.s₀.heap.get? b=!o/\X.H₀ b=none
 XM:X.base.objs.size<=X.s₀.heap.objs.size
 Ou:∀b o,X.base.get? b=!o->b∉X.ex
 Ov:∀b∈X.ex,b∉X.fs
 xE:X.s₀.heap.FunFrames X.base X.outer
 frf:∀b∈X.fs,X.H₀ b=none
structure Inv (X:Cx) (X1:List (Addr×Obj)) (U:List^Option V) (H:Hp) (s:Shared):Prop where
 ok:X.Ok
 os:s.os=X.s₀.os
 bare:AllBare s.gens
 base:Un X.fs X.ex X.H₀ H X.s₀.heap s.heap
 loc:∃m,s.heap.Ns X.env.locals m/\∀(i:Nat)(x:Str)(v:V),X.N[i]?=!x->U[i]?=!!v->Vis X.env.scope x->∃u,RelV v u/\Look X.env s.heap m x u
 cell:∀x c,X.env.cells.lookup x=!c->∃v,s.heap.IsCell c v
 free:H X.env.locals=none
 oR:∀x c,X.env.cells.lookup x=!c->H c=none
 pin:∀p∈X.pn++X1,s.heap.get? p.1=!p.2/\H p.1=none/\p.1≠X.env.locals/\p.1∉X.fs/\∀v,p.2.data≠.cell v
 hok:qZ X.prog X.w H s.heap
 len:U.length=X.N.length
section
variable {X:Cx}{U:List^Option V}{H H':Hp}
def Cx.Ok.ajJ(ok:X.Ok){o:du}(e:X.base.get? b=!o):b∉X.fs:=λhb=>by have:=(ok.xE.mem hb).1;rw[e] at this;cases this
theorem Inv.bs(I:Inv X X1 U H s):∀b o,X.base.get? b=!o->s.heap.get? b=!o/\H b=none:=λb o e =>
 #[I.base.keep b o (I.ok.bs b o e).1 (I.ok.bs b o e).2 (I.ok.ajJ e)^I.ok.Ou b o e,I.base.free b o (I.ok.bs b o e).1 (I.ok.bs b o e).2^I.ok.Ou b o e]
def Inv.bk(I:Inv X X1 U H s):∀b o,X.base.get? b=!o->s.heap.get? b=!o:=λb o e=>(I.bs b o e).1
theorem Inv.mod(I:Inv X X1 U H s):Mod dq X.mg X.base:=I.ok.mod
def Inv.sr(I:Inv X X1 U H s):X.K.In s.heap:=I.ok.mod.kin.keeps I.bk
theorem Inv.lt(I:Inv X X1 U H s):X.env.locals<s.heap.objs.size:=let⟨_,hn,_⟩:=I.loc;hn.lt
def Inv.sz(I:Inv X X1 U H s):eA<=s.heap.objs.size:=aZ I.ok.above^f6 I.lt
def Inv.aem(I:Inv X X1 U H s)(h:M<=a):a∉X.fs:=λhb=>by let#[_,o,ho,_]:=I.ok.xE.mem hb;show absurd (cR (aN ho)^aZ I.sz h)^fu _
def Inv.cne(I:Inv X X1 U H s):∀x c,X.env.cells.lookup x=!c->c≠X.env.locals:=λx c e z=>by let#[v,o,ho,hd]:=I.cell x c e;let#[m,#[o',es,ep,KK,IN,_],_]:=I.loc;rw[z,KK] at ho;cases ho;rw[IN] at hd;cases hd
theorem Inv.xE(I:Inv X X1 U H s):s.heap.FunFrames X.base X.outer:=by
 let all:∀(l:List Env),(∀b∈frs l,b∈X.fs)->X.s₀.heap.FunFrames X.base l->s.heap.FunFrames X.base l:=by
  intro l;induction l with
  | nil=>intro _ _;trivial
  | cons env r ih =>
   intro hs hl;let#[hk,#[L,o,hf,hn,ho,hd],hr]:=hl;let hL:L∈X.fs:=hs L (by unfold frs;rw[List.filterMap_cons,hf];show iZ);let#[sl,e]:=I.base.slot L o ho (I.ok.frf L hL) hL λz=>I.ok.Ov L z hL;show#[hk,#[L,_,hf,hn,e,hd],ih (λb hb=>hs b (by unfold frs;rw[List.filterMap_cons,hf];show dz _ hb)) hr]
 show all X.outer (λq hb=>hb) I.ok.xE
theorem Inv.stack(I:Inv X X1 U H s):s.heap.FunFrames X.base X.stack:=by rcases I.ok.stk with e|⟨e,hf⟩;rw[e];show I.xE;rw[e];let#[m,hn,_]:=I.loc;show .cons (by rw[I.ok.kind];decide) hf hn ?_ I.xE;show Heap.get?_none_of_le^aZ I.ok.XM I.ok.above
def Inv.Hh(I:Inv X X1 U H s):∀b∈frs X.stack,b∈X.env.locals::X.fs:=λb hb=>by rcases I.ok.stk with e|⟨e,hf⟩;rw[e] at hb;show dz _ hb;rw[e] at hb;unfold frs at hb;rw[List.filterMap_cons,hf] at hb;show hb
def Inv.JI(I:Inv X X1 U H s):∀b∈frs X.stack,H b=none:=λb hb=>by rcases aJ.mp^I.Hh b hb with e|hb;rw[e];show I.free;let#[_,o,ho,_]:=I.ok.xE.mem hb;show I.base.free b o ho (I.ok.frf b hb) λz=>I.ok.Ov b z hb
def Inv.step{g':Array GenState}{d':Drawn}(I:Inv X X1 U H s)
  (On:∀b∈ch,(b∈X.ex\/eA<=b)/\b≠X.env.locals/\(∀x c,X.env.cells.lookup x=!c->c≠b)/\∀p∈X.pn++X1,p.1≠b)
  (keep:∀b o,b≠X.env.locals->b∉X.fs->b∉ch->s.heap.get? b=!o->H b=bc->h'.get? b=!o)
  (slot:∀b o,b≠X.env.locals->b∈X.fs->b∉ch->s.heap.get? b=!o->H b=bc->∃sl,h'.get? b=!{ o with slots:=sl })(free:∀b o,b∉ch->s.heap.get? b=!o->H b=bc->H' b=bc)
  (there:∀b o,b∉ch->s.heap.get? b=!o->∃o',h'.get? b=!o')
  (tups:∀b xs,H b=!.tup xs->H' b=!.tup xs)(CJ:∀b o u,H b=!.JH o u->H' b=!.JH o u)(Ei:∀b ps,H b=!.tbl ps->∃more,H' b=!.tbl (ps++more))
  (ns:∀m,s.heap.Ns X.env.locals m->h'.Ns X.env.locals m)(hok:qZ bj cr H' h')(hg:AllBare g'):
  Inv X X1 U H' { s with heap:=h',gens:=g',drawn:=d',toks:=t' }:=by
 let neL:∀b o,X.s₀.heap.get? b=!o->b≠X.env.locals:=λb o e=>aU^cR (aN e) I.ok.above;let neC:∀b o,X.s₀.heap.get? b=!o->b∉X.ex->b∉ch:=λb o e hx hb=>by rcases(On b hb).1 with z|z;show hx z;show absurd (cR (aN e) z)^fu _
 let cellK:∀x c,X.env.cells.lookup x=!c->∀v,s.heap.IsCell c v->h'.IsCell c v:=λx c e v ⟨o,ho,hd⟩=>by let nch:c∉ch:=λz=>(On c z).2.2.1 x c e Y;by_cases hc:c∈X.fs;let#[sl,q]:=slot c o (I.cne x c e) hc nch ho^I.oR x c e;show#[_,q,hd];show#[o,keep c o (I.cne x c e) hc nch ho^I.oR x c e,hd]
 show#[I.ok,I.os,hg,#[λb o e n hb hx=>?_,λb o e n hb hx=>?_,λb o e n hx=>?_,λb o e hx=>?_,λb xs e=>tups b xs^I.base.tups b xs e,λb o xs e=>CJ b o xs^I.base.CJ b o xs e,λb ps e=>?_],?_,λx c e=>?_,?_,λx c e=>?_,λp hp=>?_,hok,I.len];show keep b o (neL b o e) hb (neC b o e hx) (I.base.keep b o e n hb hx)^I.base.free b o e n hx;let#[sl,e1]:=I.base.slot b o e n hb hx;let#[Ut,e2]:=slot b _ (neL b o e) hb (neC b o e hx) e1^I.base.free b o e n hx;show#[Ut,e2];let#[o',e1]:=I.base.there b o e hx;show free b o' (neC b o e hx) e1^I.base.free b o e n hx;let#[o',e1]:=I.base.there b o e hx;show there b o' (neC b o e hx) e1;let#[m1,e1]:=I.base.Ei b ps e;let#[m2,e2]:=Ei b _ e1;show#[m1++m2,by rw[e2,Array.append_assoc]];let#[m,hn,hl]:=I.loc;show#[m,ns m hn,λi x v e1 e2 e3=>?_];let#[u,r,l]:=hl i x v e1 e2 e3;show#[u,r,?_];rcases l with l|⟨k,c,e,z⟩;show .inl l;show .inr #[k,c,e,cellK x c e _ z];let#[v,z]:=I.cell x c e;show#[v,cellK x c e v z];let#[m,#[o,_,_,ho,_],_]:=I.loc;show free _ o (λz=>(On _ z).2.1 Y) ho I.free;let#[v,o,ho,hd]:=I.cell x c e;show free c o (λz=>(On c z).2.2.1 x c e Y) ho^I.oR x c e;let#[e,n,ne,nf,d]:=I.pin p hp;let nch:p.1∉ch:=λz=>(On p.1 z).2.2.2 p hp Y;show#[keep p.1 p.2 ne nf nch e n,free p.1 p.2 nch e n,ne,nf,d]
def Inv.un(I:Inv X X1 U H s)(u:Un X.fs [] H H' ap h')(hok:qZ bj cr H' h'):Inv X X1 U H' { s with heap:=h',toks:=t' }:=by
 let#[m,#[o,es,ep,ho,r],_]:=id I.loc;let#[sl,hL]:=u.any ho I.free (by simp);show I.step (g':=s.gens) (d':=s.drawn) (ch:=[]) (λq z=>nomatch z) (λb o q hb q e n=>u.keep b o e n hb^by simp) (λb o q hb q e n=>u.slot b o e n hb^by simp) (λb o q e n=>u.free b o e n^by simp) (λb o q e=>u.there b o e^by simp) u.tups u.CJ u.Ei (λm' hm=>by
  let#[o',es',wo,KK,r']:=hm;rw[ho] at KK;cases KK;show#[_,es',wo,hL,r']) hok I.bare
def Inv.call{g':Array GenState}{d':Drawn}(I:Inv X X1 U H s)(u:Un (frs X.stack) ch H H' ap h')(hok:qZ bj cr H' h')(hg:AllBare g')
  (On:∀b∈ch,(b∈X.ex\/eA<=b)/\b≠X.env.locals/\(∀x c,X.env.cells.lookup x=!c->c≠b)/\∀p∈X.pn++X1,p.1≠b):
  Inv X X1 U H' { s with heap:=h',gens:=g',drawn:=d',toks:=t' }:=by
 let#[m,#[o,es,ep,ho,r],_]:=id I.loc;let#[sl,hL]:=u.any ho I.free λz=>(On _ z).2.1 Y;show I.step (ch:=ch) On (λb o hL hb hc e n=>u.keep b o e n (λz=>(aJ.mp^I.Hh b z).elim hL hb) hc) (λb o q q hc e n=>u.any e n hc) (λb o hc e n=>u.free b o e n hc) (λb o hc e=>u.there b o e hc) u.tups u.CJ u.Ei (λm' hm=>by
  let#[o',es',wo,KK,r']:=hm;rw[ho] at KK;cases KK;show#[_,es',wo,hL,r']) hok hg
def Inv.turned(I:Inv X X1 U H s)(k:∀b o,b≠it->s.heap.get? b=!o->h'.get? b=!o)(hn:H it=bc)(hL:it≠X.env.locals)
  (h1:it∈X.ex\/eA<=it)(h2:∀x c,X.env.cells.lookup x=!c->c≠it)(h3:∀p∈X.pn++X1,p.1≠it):Inv X X1 U H { s with heap:=h',toks:=t' }:=by
 let nit:∀b u,H b=!u->b≠it:=λb u e z=>by rw[z,hn] at e;cases e
 show I.step (g':=s.gens) (d':=s.drawn) (ch:=[it]) (λb hb=>?_) (λb o j j hc e j=>k b o (λz=>hc^by simp[z]) e) (λb o j j hc e j=>#[o.slots,k b o (λz=>hc^by simp[z]) e]) (λj j j j n=>n)
  (λb o hc e=>#[o,k b o (λz=>hc^by simp[z]) e]) (λj j e=>e) (λj j j e=>e) (λb ps e=>#[#[],by rw[e];simp]) (λm hm=>?_) (λb u e=>?_) I.bare
 .have e:b=it:=by simpa using hb
  subst e;show#[h1,hL,h2,h3]
 .let#[o,es,ep,ho,r]:=hm;show#[o,es,ep,k _ o (aM hL) ho,r]
 .show(I.hok b u e).stay (λc v hc q=>k c v ?_ q) (λj q=>q) λj j q=>q;rcases hc with z|z;rw[z];show nit b u e;show nit c _ z
def Inv.tok(I:Inv X X1 U H s)(t:B):Inv X X1 U H { s with toks:=t }:=I.un (h':=ap) (t':=t) Un.refl I.hok
theorem Inv.kept(I:Inv X X1 U H s)(k:∀b u,s.heap.get? b=!u->h'.get? b=!u):Inv X X1 U H { s with heap:=h',toks:=t' }:=I.un (Un.kept k)^I.hok.kept k
theorem Inv.laid(I:Inv X X1 U H s)(k:∀b u,s.heap.get? b=!u->h'.get? b=!u)(hp:M<=a)(new:dS bj cr (upd H a o) h' a o):
  Inv X X1 U (upd H a o) { s with heap:=h',toks:=t' }:=I.un (Un.laid k hp^I.hok.fresh hp)^I.hok.laid k hp new
theorem Inv.write{x e:ae}(I:Inv X X1 U H s)(mu:Mut^H x)(he:e=x\/H e=!.own x)(k:∀b u,b≠e->s.heap.get? b=!u->h'.get? b=!u)(heo:∃u,h'.get? e=!u)
  (new:dS bj cr (upd H x o) h' x o):Inv X X1 U (upd H x o) { s with heap:=h',toks:=t' }:=I.un (Un.write mu he k heo)^I.hok.write mu he k heo new
def Inv.xW{XN:List (ae×du)}(I:Inv X X1 U H s)(h:∀p∈XN,s.heap.get? p.1=!p.2/\H p.1=bc/\p.1≠X.env.locals/\p.1∉X.fs/\∀v,p.2.data≠.cell v):Inv X XN U H s :=
 #[I.ok,I.os,I.bare,I.base,I.loc,I.cell,I.free,I.oR,λp hp=>(aR.mp hp).elim (λz=>I.pin p^jK _ z)^h p,I.hok,I.len]
def Ej(hN:N.Nodup)(a:N[i]?=!x)(b:N[j]?=!x):i=j:=by let#[h1,e1]:=fK a;let#[h2,e2]:=fK b;show(yF hN).mp^e1.trans e2.symm
def vh{Q:Unit->aw->O}(I:Inv X X1 U H s)(hN:X.N.Nodup)(hi:X.N[i]?=!x)(hx:Loc X.env.scope x)(r:RelV v u)
  (h:∀s',Inv X X1 (U.set i^!v) H s'->(∃a,Heap.SameBut a ap d6/\(a=X.env.locals\/X.env.cells.lookup x=!a))->Q Unit.unit s')(hf:‹X.fn x=am\/X.env.scope.names.lookup x=!.local›):wpAny Y1 A (storeName bi x u) Q E s:=by
 let#[m,hn,hl]:=id I.loc;let hcls:(X.env.scope.kind==.class||(X.env.scope.kind==.module&&X.env.locals != X.env.globals))=false:=by rw[I.ok.kind];rfl
 let hiσ:i<U.length:=by rw[I.len];show(fK hi).1
 let cne:=I.cne;let Go:∀{a:ae}{h':cv},(∃o,s.heap.get? a=!o/\H a=bc)->Heap.SameBut a ap h'->qZ bj cr H h':=λ{a h'} ha hs b ob e=>by let#[_,_,QP]:=ha;show(I.hok b ob e).stay (λc w' hc q=>(hs.2 c ?_).trans q) (λt q=>q) λt t q=>q;rintro rfl;rcases hc with rfl|hc;rw[QP] at e;cases e;rw[QP] at hc;cases hc
 rcases hx with hk|hk
 .show wpAny_storeName_local hk hn (λh' hn' hs=>?_) hcls;let#[oL,_,_,hoL,_]:=id hn;show h _ #[I.ok,I.os,I.bare,#[λb o e n hb hx=>?_,λb o e n hb hx=>?_,I.base.free,λb o e hx=>?_,I.base.tups,I.base.CJ,I.base.Ei],#[_,hn',λj y v' e1 e2 e3=>?_],λy c e=>?_,I.free,I.oR,λp hp=>?_,Go #[oL,hoL,I.free] hs,by simpa using I.len] #[_,hs,.inl Y];show(hs.2 b^aU^cR (aN e) I.ok.above).trans^I.base.keep b o e n hb hx;let#[sl,e1]:=I.base.slot b o e n hb hx;show#[sl,(hs.2 b^aU^cR (aN e) I.ok.above).trans e1];let#[o',e1]:=I.base.there b o e hx;show#[o',(hs.2 b^aU^cR (aN e) I.ok.above).trans e1]
  .by_cases hj:j=i;subst hj;rw[hi] at e1;cases e1;rw[List.getElem?_set_self hiσ] at e2;cases e2;show#[u,r,.inl #[hk,by simp]]
   .rw[List.getElem?_set_ne^aM hj] at e2;let#[u',r',q]:=hl j y v' e1 e2 e3;show#[u',r',?_];rcases q with⟨k,e⟩|⟨k,c,e,z⟩
    .show .inl #[k,?_];have:y≠x:=λe=>hj^Ej hN e1 (e▸hi);simp[this,e]
    .show .inr #[k,c,e,z.sameBut hs^cne y c e]
  .let#[w',z]:=I.cell y c e;show#[w',z.sameBut hs^cne y c e]
  .let#[e,n,ne,nf,d]:=I.pin p hp;show#[(hs.2 p.1 ne).trans e,n,ne,nf,d]
 .have hfn:X.fn x=true:=by rcases hf with z|z;show z;rw[z] at hk;cases hk
  let#[c,hc]:=I.ok.has x^.inl hk;let#[w',z]:=I.cell x c hc;show wpAny_storeName_cell I.ok.kind hk hc z (λh' Gc hs=>?_);let#[oc,hoc,ajK]:=id z;show h { s with heap:=h' } #[I.ok,I.os,I.bare,#[λb o e n hb hx=>?_,λb o e n hb hx=>?_,I.base.free,λb o e hx=>?_,I.base.tups,I.base.CJ,I.base.Ei],#[m,hn.sameBut hs^aM^cne x c hc,λj y v' e1 e2 e3=>?_],λy c' e=>?_,I.free,I.oR,λp hp=>?_,Go #[oc,hoc,I.oR x c hc] hs,by simpa using I.len] #[c,hs,.inr hc];show(hs.2 b^aU^cR (aN e)^I.ok.cab x c hfn hc).trans^I.base.keep b o e n hb hx;let#[sl,e1]:=I.base.slot b o e n hb hx;show#[sl,(hs.2 b^aU^cR (aN e)^I.ok.cab x c hfn hc).trans e1];let#[o',e1]:=I.base.there b o e hx;show#[o',(hs.2 b^aU^cR (aN e)^I.ok.cab x c hfn hc).trans e1]
  .by_cases hj:j=i;subst hj;rw[hi] at e1;cases e1;rw[List.getElem?_set_self hiσ] at e2;cases e2;show#[u,r,.inr #[.inl hk,c,hc,Gc]]
   .rw[List.getElem?_set_ne^aM hj] at e2;let#[u',r',q]:=hl j y v' e1 e2 e3;show#[u',r',?_];rcases q with q|⟨k,c',e,z'⟩;show .inl q
    .show .inr #[k,c',e,z'.sameBut hs ?_];rintro rfl;show hj^Ej hN e1 (I.ok.inj _ _ _ e hc▸hi)
  .by_cases hcc:c'=c;subst hcc;show#[_,Gc];let#[w2,z2]:=I.cell y c' e;show#[w2,z2.sameBut hs hcc]
  .let#[e,n,ne,nf,d]:=I.pin p hp;show#[(hs.2 p.1 ?_).trans e,n,ne,nf,d];intro q;rw[q,hoc] at e;let q':oc=p.2:=Option.some.inj e;show d w' (by rw[<- q'];show ajK)
def yL{Q:Unit->aw->O}(I:Inv X X1 U H s)(hN:X.N.Nodup)(hi:X.N[i]?=!x)(hx:Loc X.env.scope x)(r:RelV v u)
  (h:∀s',Inv X X1 (U.set i^!v) H s'->Q Unit.unit s')(hf:‹X.fn x=am\/X.env.scope.names.lookup x=!.local›):wpAny Y1 A (storeName bi x u) Q E s :=
 vh I hN hi hx r (λs' I' z=>h s' I') hf
def Inv.aep{s':aw}(I:Inv X X1 U H s)(ho:s'.os=s.os)(u:Un (frs X.stack) ch H H' ap d6)(hok:qZ bj cr H' d6)(hg:AllBare s'.gens)
  (On:∀b∈ch,(b∈X.ex\/eA<=b)/\b≠X.env.locals/\(∀x c,X.env.cells.lookup x=!c->c≠b)/\∀p∈X.pn++X1,p.1≠b):Inv X X1 U H' s':=by let#[h',g',d',t',o']:=s';let e:o'=s.os:=ho;subst e;show I.call (g':=g') (t':=t') (d':=d') u hok hg On
end
abbrev XK:=J->Option ae->Hp->O
abbrev St:=List^Option V
abbrev VK:=V->Hp->O
abbrev TE:=St->Hp->VK->O
abbrev TT:=St->Hp->(ci->Hp->O)->O
abbrev TA:=St->Hp->(List V->Hp->O)->O
structure Ends where
 nx:St->Hp->Prop
 rt:VK
 bk:St->Hp->Prop:=λz z=>False
 ct:St->Hp->Prop:=λz z=>False
abbrev TS:=Ends->St->Hp->O
inductive EP (X:Cx) (X1:List (Addr×Obj)) (U:St) (Q:VK) (u:Value) (s':Shared):Prop
 | mk (v H') (z:Inv X X1 U H' s') (z:RelV v u) (z:Q v H')
def TP(X:Cx)(X1:List (ae×du))(U:St)(Q:ci->Hp->O)(b:ci)(s':aw):=∃H',Inv X X1 U H' s'/\Q b H'
inductive AP (X:Cx) (X1:List (Addr×Obj)) (U:St) (Q:List V->Hp->Prop) (us:List Value) (s':Shared):Prop
 | mk (vs H') (z:Inv X X1 U H' s') (z:Vals vs us) (z:Q vs H')
def SP(X:Cx)(X1:List (ae×du))(D:Ends)(f:Flow)(s':aw):O :=
 match f with
 | .next=>∃U' H',Inv X X1 U' H' s'/\D.nx U' H'
 | .brk=>∃U' H',Inv X X1 U' H' s'/\D.bk U' H'
 | .cont=>∃U' H',Inv X X1 U' H' s'/\D.ct U' H'
 | .ret u=>∃v U' H',Inv X X1 U' H' s'/\RelV v u/\D.rt v H'
def PE(X:Cx)(e:dr)(t:TE):O :=
 ∀(X1:List (ae×du))(s:aw)(U:St)(H:Hp)(Q:VK),Inv X X1 U H s->t U H Q->wpAny (model bj cr) X.A (eval e bi) (EP X X1 U Q) X.xe s
def PT(X:Cx)(e:dr)(t:TT):O :=
 ∀(X1:List (ae×du))(s:aw)(U:St)(H:Hp)(Q:ci->Hp->O),Inv X X1 U H s->t U H Q->wpAny (model bj cr) X.A (isTrue e bi^eval e bi) (TP X X1 U Q) X.xe s
def PW(X:Cx)(e:dr)(t:TT):O :=
 ∀(whole:Sem J)(X1:List (ae×du))(s:aw)(U:St)(H:Hp)(Q:ci->Hp->O),Inv X X1 U H s->t U H Q->wpAny (model bj cr) X.A (isTrue e bi whole) (TP X X1 U Q) X.xe s
def PW.pt{t:TT}(h:PW X e t):PT X e t:=h _
def PA(X:Cx)(es:List dr)(t:TA):O :=
 ∀(pos:Pos)(X1:List (ae×du))(s:aw)(U:St)(H:Hp)(Q:List V->Hp->O),Inv X X1 U H s->t U H Q->wpAny (model bj cr) X.A (spliced^backTo pos^starEach es bi) (AP X X1 U Q) X.xe s
def PS(X:Cx)(st:Stmt)(t:TS):O :=
 ∀(X1:List (ae×du))(s:aw)(U:St)(H:Hp)(D:Ends),Inv X X1 U H s->t D U H->wpAny (model bj cr) X.A (exec st bi) (SP X X1 D) X.xe s
def AK(X:Cx)(st:List Stmt)(t:TS):O :=
 ∀(X1:List (ae×du))(s:aw)(U:St)(H:Hp)(D:Ends),Inv X X1 U H s->t D U H->wpAny (model bj cr) X.A (execs st bi) (SP X X1 D) X.xe s
def cM{α:Type}{t:Sem α}{Q Q':α->aw->O}(h:wpAny Y1 A t Q E s)(hQ:∀a s,Q a s->Q' a s):wpAny Y1 A t Q' E s:=wpAny_mono h hQ λz z x=>x
section
variable {X:Cx}
def gT(i:B):TE:=λU H Q=>∃v,U[i]?=!!v/\Q v H
def tC(v:V):TE:=λz H Q=>Q v H
def aaA(hN:X.N[i]?=!x)(hv:Vis X.env.scope x)(hd:↥((x==("__debug__" : ax))=false))(FM:↥((x==("__classdict__" : ax))=false)):PE X (.Name x pos)^gT i:=by
 intro X1 s U H Q I h;let#[v,e,h]:=h;let#[m,hn,hl]:=I.loc;let#[u,r,l]:=hl i x v hN e hv;let fin:EP X X1 U Q u s:=#[v,H,I,r,h];rcases l with⟨hk,hm⟩|⟨hk,c,hc,hcell⟩;show wpAny_Name (wpAny_loadName_local I.ok.kind hk hn hm fin) hd
 .rcases hk with hk|hk;show wpAny_Name (wpAny_loadName_cell I.ok.kind hk hc hcell fin) hd;show wpAny_Name (wpAny_loadName_free I.ok.kind hk hc hcell fin FM) hd
def ai{i j pos}:PE X (.Constant (.int i) j pos)^tC^.int i:=λz z z H z I h=>wpAny_Constant_int #[.int i,H,I.tok _,#[_,Y],h]
def ku{b j pos}:PE X (.Constant (.bool b) j pos)^tC^.bl b:=λz z z H z I h=>Constant_bool #[.bl b,H,I,Y,h]
def lH{j pos}:PE X (.Constant .none j pos)^tC .cH:=λz z z H z I h=>Constant_none #[.cH,H,I,Y,h]
def aH{x j pos}:PE X (.Constant (.str x) j pos)^tC^.str x:=λz z z H z I h=>Calls.Constant_str #[.str x,H,I.tok _,#[_,Y],h]
def Gl(X:Cx)(x:ax):=X.env.kindOf x=!.globalImplicit
def CL{U:St}(I:Inv X X1 U H s)(hg:Gl X x)(hm:X.mg x=!u)(h:Q u s)
  (hd:↥((x==("__debug__" : ax))=false)):wpAny (model bj cr) X.A (eval (.Name x pos) bi) Q E s :=
 Calls.Name_function_global I.ok.kind hg (Calls.loadGlobal_global (by rw[I.ok.glob];show I.mod.glob.keeps I.bk) hm h) hd
def jL{U:St}(I:Inv X X1 U H s)(hg:Gl X x)(hm:X.mg x=bc)(hv:bootBuiltins x=!u)(h:Q u s)
  (hn:↥(x ≠ "__name__"))(hd:↥((x==("__debug__" : ax))=false)):wpAny (model bj cr) X.A (eval (.Name x pos) bi) Q E s:=by let#[mb,h1,h2]:=I.mod.blt;show Calls.Name_function_global I.ok.kind hg (Calls.loadGlobal_builtin (by rw[I.ok.glob];show I.mod.glob.keeps I.bk) hm (by rw[I.ok.blt];show h1.keeps I.bk) ((h2 x hn).trans hv) h) hd
def JJ(hg:Gl X x)(hm:X.mg x=!u)(r:RelV v u)(hd:↥((x==("__debug__" : ax))=false)):PE X (.Name x pos) (tC v) :=
 λz z z H z I h=>CL I hg hm #[v,H,I,r,h] hd
def su(hg:Gl X x)(hm:X.mg x=bc)(hv:bootBuiltins x=!u)(r:RelV v u)(hn:↥(x ≠ "__name__"))(hd:↥((x==("__debug__" : ax))=false)):PE X (.Name x pos) (tC v) :=
 λz z z H z I h=>jL I hg hm hv #[v,H,I,r,h] hn hd
variable {a b:dr}{ta tb:TE}
def PC(X:Cx)(op:CmpOp)(a b:dr)(t:TE):O :=
 ∀(X1:List (ae×du))(s:aw)(U:St)(H:Hp)(Q:VK),Inv X X1 U H s->t U H Q ->
  wpAny (model bj cr) X.A (eval a bi) (λv s₁=>wpAny (model bj cr) X.A (eval b bi) (λu s₂=>wpAny (model bj cr) X.A (compareOp op v u) (EP X X1 U Q) X.xe s₂) X.xe s₁) X.xe s
def Ow(b:dr)(h:op≠.In)(h2:op≠.NotIn):behindInMarks op b=false:=by
 let e1:(op==CmpOp.In)=false:=by cases op<;>first|rfl|show absurd Y h
 let e2:(op==CmpOp.NotIn)=false:=by cases op<;>first|rfl|show absurd Y h2
 cases b<;>simp[behindInMarks,e1,e2]
def tB(t:TE):TT:=λU H Q=>t U H λx H1=>∃c,x=.bl c/\Q c H1
def CM(h:PC X op a b t)(h1:behindInMarks op b=false:=by walk_at "bm"):PT X (.Compare a [op] [b] pos)^tB t:=by intro X1 s U H Q I hw;show wpAny_isTrue_Compare1 (cM (h X1 s U H _ I hw) λv s1 h1=>cM h1 λu s2 h2=>cM h2 λc s3 zq=>?_) h1;let#[x,H1,I1,r1,q1]:=zq;let#[d,Y,q]:=q1;cases r1;show wpAny_truthy_bool #[H1,I1,q]
def i6(h:PE X e t)(he:⇑(∀whole,isTrue e bi whole=(do let v <- whole;standAt e.pos;holding [v]^truthy v))):PT X e^tB t:=by intro X1 s U H Q I hw;show isTrue_plain (cM (h X1 s U H _ I hw) λv s1 zq=>?_)^he _;let#[x,H1,I1,r1,q1]:=zq;let#[d,Y,q]:=q1;cases r1;show wpAny_truthy_bool #[H1,I1,q]
variable {tA tB':TT}{rest:List dr}
def aaB(t u:TT):TT:=λU H Q=>t U H λc H1=>if c=am then u U H1 Q else Q bo H1
def tOr(t u:TT):TT:=λU H Q=>t U H λc H1=>if c=am then Q am H1 else u U H1 Q
def aeq(t:TT):TT:=λU H Q=>t U H λc H1=>Q (not c) H1
def jm(ha:PT X a tA):PW X (.BoolOp .And [a] pos) tA:=by
 intro wh X1 s U H Q I h;show isTrue_and (cM (ha X1 s U H Q I h) λc s1 e=>?_);cases c with
 | true=>show isTrue_and_nil e
 | false=>show e
def yM(ha:PT X a tA):PW X (.BoolOp .Or [a] pos) tA:=by
 intro wh X1 s U H Q I h;show isTrue_or (cM (ha X1 s U H Q I h) λc s1 e=>?_);cases c with
 | false=>show isTrue_or_nil e
 | true=>show e
def lI(ha:PT X a tA)(hb:PW X (.BoolOp .And (b::rest) pos) tB'):PW X (.BoolOp .And (a::b::rest) pos)^aaB tA tB':=by
 intro wh X1 s U H Q I h;show isTrue_and (cM (ha X1 s U H _ I h) λc s1 zq=>?_);let#[H1,I1,q1]:=zq;cases c with
 | true=>show hb wh X1 s1 U H1 Q I1 q1
 | false=>show#[H1,I1,q1]
def Bl(ha:PT X a tA)(hb:PW X (.BoolOp .Or (b::rest) pos) tB'):PW X (.BoolOp .Or (a::b::rest) pos)^tOr tA tB':=by
 intro wh X1 s U H Q I h;show isTrue_or (cM (ha X1 s U H _ I h) λc s1 zq=>?_);let#[H1,I1,q1]:=zq;cases c with
 | true=>show#[H1,I1,q1]
 | false=>show hb wh X1 s1 U H1 Q I1 q1
def mY(ha:PT X a tA):PT X (.UnaryOp .Not a pos)^aeq tA:=by intro X1 s U H Q I h;show isTrue_not^ha X1 s U H (λc H1=>Q (not c) H1) I h
def XO(ta tb:TE):TE:=λU H Q=>ta U H λx H1=>∃c,x=.bl c/\if c=am then tb U H1 Q else Q (.bl bo) H1
def XQ(ta:TE):TE:=λU H Q=>ta U H λx H1=>∃c,x=.bl c/\Q (.bl (not c)) H1
def vm{op}(h:PE X a t):PE X (.BoolOp op [a] pos) t:=λX1 s U H Q I hw=>BoolOp_one^h X1 s U H Q I hw
def vo(ha:PE X a ta)(hb:PE X (.BoolOp .And (b::rest) pos) tb):PE X (.BoolOp .And (a::b::rest) pos)^XO ta tb:=by
 intro X1 s U H Q I h;show BoolOp_and (cM (ha X1 s U H _ I h) λv s1 zq=>?_);let#[x,H1,I1,r1,q1]:=zq;let#[c,Y,q1]:=q1;cases r1;show wpAny_truthy_bool ?_;cases c with
 | true=>show hb X1 s1 U H1 Q I1 q1
 | false=>show#[.bl bo,H1,I1,Y,q1]
def Ox(ha:PE X a ta):PE X (.UnaryOp .Not a pos)^XQ ta:=by intro X1 s U H Q I h;show UnaryOp_ (cM (ha X1 s U H _ I h) λv s1 zq=>?_);let#[x,H1,I1,r1,q1]:=zq;let#[c,Y,q1]:=q1;cases r1;show not_of^wpAny_truthy_bool #[.bl (not c),H1,I1,Y,q1]
def tIf(t:TT)(ta tb:TE):TE:=λU H Q=>t U H λc H1=>if c=am then ta U H1 Q else tb U H1 Q
def dB(hc:PT X c tA)(ha:PE X a ta)(hb:PE X b tb):PE X (.IfExp c a b pos)^tIf tA ta tb:=by
 intro X1 s U H Q I h;show wpAny_IfExp (cM (hc X1 s U H _ I h) λd s1 zq=>?_);let#[H1,I1,q1]:=zq;cases d with
 | true=>show ha X1 s1 U H1 Q I1 q1
 | false=>show hb X1 s1 U H1 Q I1 q1
end
def bJ(K:aB)(H:Hp)(a:ae)(xs:List V):O :=
 Rd H a (.lst xs) \/
  ∃(o:du)(XL:Array J)(n:B),K.lookup a=!o/\o.cls=.type "list" /\ o.dict=bc/\o.data=.seq XL n/\XL.size<=sizeLine/\Vals xs XL.toList
def eB(K:aB)(H:Hp)(a:ae)(xs:List V):O :=
 Rd H a (.tup xs) \/
  ∃(o:du)(XL:Array J)(n:B),K.lookup a=!o/\o.cls=.type "tuple" /\ o.data=.seq XL n/\XL.size<=sizeLine/\Vals xs XL.toList
noncomputable def ajL:J->Option V
 | .none=>!.cH
 | .bool b=>!.bl b
 | .int i _=>!.int i
 | .str x _=>!.str x
 | .bytes b _=>!.JG b
 | .float b _=>!.flt b
 | .ref a=>!.ref a
 | .type n=>!.ty n
 | _=>none
def RelV.abs{x:V}(r:RelV x u):ajL u=!x:=by
 cases x with
 | cH=>cases r;rfl
 | bl _=>cases r;rfl
 | int _=>let#[t,Y]:=r;rfl
 | str _=>let#[t,Y]:=r;rfl
 | JG _=>let#[t,Y]:=r;rfl
 | flt _=>let#[t,Y]:=r;rfl
 | ref _=>cases r;rfl
 | ty _=>cases r;rfl
theorem RelV.inj{x:V}(r:RelV x u)(q:RelV y u):x=y:=Option.some.inj^r.abs.symm.trans q.abs
theorem Vals.inj:∀{xs ys:List V}{us:List J},Vals xs us->Vals ys us->xs=ys:=by
 intro xs ys us h;induction h generalizing ys with
 | nil=>intro z;cases z;rfl
 | cons r t ih=>intro z;cases z with|cons r' t'=>rw[r.inj r',ih t']
section
variable {X:Cx}{U:St}{H:Hp}{xs ys:List V}
def bJ.of(h:H a=!.lst xs):bJ K H a xs:=.inl^.inl h
def eB.of(h:H a=!.tup xs):eB K H a xs:=.inl^.inl h
theorem Inv.list(I:Inv X X1 U H s)(h:bJ dq H a xs):∃XL:List J,Vals xs XL/\PlainL ap a XL.toArray/\ab<=sizeLine:=by rcases h with h|⟨o,XL,n,hk,hc,hd,hs,hz,r⟩;let#[z,XL,n,r,e]:=h.ok I.hok;show#[XL,r,#[_,n,e,Y,Y,Y],z];show#[XL.toList,r,#[o,n,I.sr a o hk,hc,hd,by simpa using hs],?_];let e:=eC;erw[d8] at e;lia
theorem Inv.tuple(I:Inv X X1 U H s)(h:eB dq H a xs):∃XL:List J,Vals xs XL/\IsTup ap a XL.toArray/\ab<=sizeLine:=by rcases h with h|⟨o,XL,n,hk,hc,hs,hz,r⟩;let#[z,XL,r,p]:=h.ok I.hok;show#[XL,r,p,z];show#[XL.toList,r,#[o,I.sr a o hk,hc,n,by simpa using hs],?_];let e:=eC;erw[d8] at e;lia
def Inv.Oz(I:Inv X X1 U H s)(h:bJ dq H a xs)(h':bJ dq H a ys):xs=ys:=by
 let#[XL,r,#[o,n,e,_,_,d],_]:=I.list h;let#[its',r',#[o',n',e',_,_,d'],_]:=I.list h';rw[e] at e';cases e';rw[d] at d';injection d' with d1 _;have:XL=its':=by simpa using congrArg Array.toList d1
 subst this;show r.inj r'
def Inv.Bm(I:Inv X X1 U H s)(h:eB dq H a xs)(h':eB dq H a ys):xs=ys:=by
 let#[XL,r,#[o,e,_,n,d],_]:=I.tuple h;let#[its',r',#[o',e',_,n',d'],_]:=I.tuple h';rw[e] at e';cases e';rw[d] at d';injection d' with d1 _;have:XL=its':=by simpa using congrArg Array.toList d1
 subst this;show r.inj r'
end
noncomputable abbrev Cx.yN(X:Cx)(E:J->aw->O):Cx:={ X with xe:=E }
noncomputable abbrev Cx.nox(X:Cx):Cx:=X.yN λz z=>False
theorem Cx.Ok.yN(ok:X.Ok)(E:J->aw->O):(X.yN E).Ok :=
 #[ok.mod,ok.kind,ok.glob,ok.blt,ok.above,ok.inj,ok.has,ok.cab,ok.hd,ok.frames,ok.stk,ok.exf,ok.bs,ok.XM,ok.Ou,ok.Ov,ok.xE,ok.frf]
def Cx.Ok.oS(ok:(X.yN E).Ok):X.Ok :=
 #[ok.mod,ok.kind,ok.glob,ok.blt,ok.above,ok.inj,ok.has,ok.cab,ok.hd,ok.frames,ok.stk,ok.exf,ok.bs,ok.XM,ok.Ou,ok.Ov,ok.xE,ok.frf]
section
variable {X:Cx}{U:St}{H:Hp}
theorem Inv.yN(I:Inv X X1 U H s)(E:J->aw->O):Inv (X.yN E) X1 U H s:=#[I.ok.yN E,I.os,I.bare,I.base,I.loc,I.cell,I.free,I.oR,I.pin,I.hok,I.len]
theorem Inv.oS(I:Inv (X.yN E) X1 U H s):Inv X X1 U H s:=#[I.ok.oS,I.os,I.bare,I.base,I.loc,I.cell,I.free,I.oR,I.pin,I.hok,I.len]
theorem SP.oS{f:Flow}{s':aw}(h:SP (X.yN E) X1 D f s'):SP X X1 D f s':=by
 cases f with
 | next=>let#[U',H',I,q]:=h;show#[U',H',I.oS,q]
 | brk=>let#[U',H',I,q]:=h;show#[U',H',I.oS,q]
 | cont=>let#[U',H',I,q]:=h;show#[U',H',I.oS,q]
 | ret u=>let#[v,U',H',I,r,q]:=h;show#[v,U',H',I.oS,r,q]
theorem AK.nox{st:List Stmt}{t:TS}(h:AK X.nox st t):AK X st t:=λX1 s U H D I hw =>
 wpAny_mono (h X1 s U H D (I.yN _) hw) (λj j q=>q.oS) λj j z=>False.elim z
end
section
variable {X:Cx}{rest:List Stmt}{t u:TS}{te:TE}
def OA:TS:=λD U H=>D.nx U H
def OB(t u:TS):TS:=λD U H=>t { D with nx:=u D } U H
def aS:AK X [] OA:=λz z U H z I h=>wpAny_execs_nil #[U,H,I,h]
def ak(h1:PS X st t)(h2:AK X rest u):AK X (st::rest)^OB t u:=by
 intro X1 s U H D I h;show wpAny_execs_cons (cM (h1 X1 s U H { D with nx:=u D } I h) λf s1 q=>?_);cases f with
 | next =>
  let#[U',H',I',q]:=q;show h2 X1 s1 U' H' D I' q
 | ret v=>show q
 | brk=>show q
 | cont=>show q
def ao(h1:PS X st t):AK X [st] t:=by
 intro X1 s U H D I h;show wpAny_execs_cons (cM (h1 X1 s U H D I h) λf s1 q=>?_);cases f with
 | next=>show wpAny_execs_nil q
 | ret v=>show q
 | brk=>show q
 | cont=>show q
def Inv.quiet{U:St}(I:Inv X X1 U H s):interactive bi=false:=by simp[interactive,I.ok.kind]
def JK(te:TE):TS:=λD U H=>te U H λz H1=>D.nx U H1
def bD(he:PE X e te)(hs:⇑(swapsWith e bc pos.line bi=pure false)):PS X (.Expr e pos)^JK te:=by intro X1 s U H D I h;show wpAny_Expr_any (cM (he X1 s U H _ I h) λv s1 zq=>?_) I.quiet hs;let#[x,H1,I1,r1,q1]:=zq;show#[U,H1,I1,q1]
def Uu(te:TE):TS:=λD U H=>te U H D.rt
def aD(he:PE X e te):PS X (.Return (!e) pos)^Uu te:=by intro X1 s U H D I h;show wpAny_Return_some (cM (he X1 s U H _ I h) λv s1 zq=>?_);let#[x,H1,I1,r1,q1]:=zq;show#[x,U,H1,I1,r1,q1]
def XR:TS:=λD z H=>D.rt .cH H
def JL:PS X (.Return bc pos) XR:=λz z U H z I h=>wpAny_Return_none #[.cH,U,H,I,Y,h]
def aaD(c:TT)(t u:TS):TS:=λD U H=>c U H λb H1=>if b=am then t D U H1 else u D U H1
def bF{a b:List Stmt}{tc:TT}(hc:PT X c tc)(ha:AK X a t)(hb:AK X b u):PS X (.If c a b pos)^aaD tc t u:=by
 intro X1 s U H D I h;show wpAny_If (cM (hc X1 s U H _ I h) λd s1 zq=>?_);let#[H1,I1,q1]:=zq;cases d with
 | true=>show ha X1 s1 U H1 D I1 q1
 | false=>show hb X1 s1 U H1 D I1 q1
def aaE:TS:=λz z z=>False
def OC:PS X st aaE:=λz z z z z z h=>h.elim
end
abbrev TG:=V->St->Hp->(St->Hp->O)->O
abbrev Hi:=List V->St->Hp->(St->Hp->O)->O
def PG(X:Cx)(Re:dr)(t:TG):O :=
 ∀(X1:List (ae×du))(s:aw)(U:St)(H:Hp)(v:V)(u:J)(Q:St->Hp->O),Inv X X1 U H s->RelV v u->t v U H Q ->
  wpAny (model bj cr) X.A (assign Re bi u) (λz s'=>∃U' H',Inv X X1 U' H' s'/\Q U' H') X.xe s
def XS(X:Cx)(ts:List dr)(t:Hi):O :=
 ∀(X1:List (ae×du))(s:aw)(U:St)(H:Hp)(vs:List V)(us:List J)(Q:St->Hp->O),Inv X X1 U H s->Vals vs us->t vs U H Q ->
  wpAny (model bj cr) X.A (assignInOrder ((assignEach ts bi).map (·.2)) us) (λz s'=>∃U' H',Inv X X1 U' H' s'/\Q U' H') X.xe s
abbrev Uv:=V->V->V->Hp->(Hp->O)->O
def aer(X:Cx)(t:Uv):O :=
 ∀(X1:List (ae×du))(s:aw)(U:St)(H:Hp)(o i v:V)(ov iv u:J)(Q:Hp->O),Inv X X1 U H s->RelV o ov->RelV i iv->RelV v u->t o i v H Q ->
  wpAny (model bj cr) X.A (setItem ov iv u) (λz s'=>∃H',Inv X X1 U H' s'/\Q H') X.xe s
abbrev TIp:=V->V->Hp->VK->O
def PIp(X:Cx)(op:Operator)(t:TIp):O :=
 ∀(X1:List (ae×du))(s:aw)(U:St)(H:Hp)(x y:V)(v u:J)(Q:VK),Inv X X1 U H s->RelV x v->RelV y u->t x y H Q ->
  wpAny (model bj cr) X.A (inplaceOp op v u) (EP X X1 U Q) X.xe s
section
variable {X:Cx}
def gc(i:B):TG:=λv U H Q=>Q (U.set i^!v) H
def JM(hN:X.N.Nodup)(hi:X.N[i]?=!x)(hx:Loc X.env.scope x)(hf:‹X.fn x=am\/X.env.scope.names.lookup x=!.local›):PG X (.Name x pos)^gc i:=by intro X1 s U H v u Q I r h;show wpAny_assign_Name^yL I hN hi hx r (λs' I'=>#[_,H,I',h]) hf
def aes:Hi:=λvs U H Q=>vs=[]/\Q U H
def XT(t:TG)(u:Hi):Hi:=λvs U H Q=>∃v r,vs=v::r/\t v U H λU' H'=>u r U' H' Q
def jn:XS X [] aes:=by intro X1 s U H vs us Q I r h;let#[e,h]:=h;subst e;cases r;show assignInOrder_nil #[U,H,I,h]
def cj{t:TG}{u:Hi}(h1:PG X e t)(h2:XS X es u)(hs:(assignEach (e::es) bi).map (·.2)=assign e bi::(assignEach es bi).map (·.2)):XS X (e::es)^XT t u:=by
 intro X1 s U H vs us Q I r h;let#[v,vr,e1,h]:=h;subst e1;cases r with
 | cons r rr =>
  rw[hs];show assignInOrder_cons (cM (h1 X1 s U H _ _ _ I r h) λz s1 zq=>?_);let#[Fa,H1,I1,q1]:=zq;show h2 X1 s1 Fa H1 _ _ Q I1 rr q1
def OD(K:aB)(n:B)(t:Hi):TG:=λv U H Q=>∃a xs,v=¬a/\eB K H a xs/\ab=n/\t xs U H Q
def OE{t:Hi}(hc:X.calm=am)(h:XS X es t)
  (hn:⇑((assignEach es bi).length=n))(TC:⇑((assignEach es bi).findIdx? (·.1)=none)):PG X (.Tuple es k pos)^OD dq n t:=by intro X1 s U H v u Q I r hw;let#[a,xs,e1,hq,hl,hw]:=hw;subst e1;cases r;let#[XL,rv,ht,hz]:=I.tuple hq;show assign_Tuple_tuple (I.ok.hd hc) ht (by simp[hn,<- hl,rv.length]) TC λh' hx=>?_;let I1:Inv X X1 U H { s with heap:=h' }:=I.kept (t':=s.toks) λb o e=>hx b o (aU^aN e) e;show h X1 _ U H xs _ Q I1 (by simpa using rv) hw
def aet(to ti:TE)(t:Uv):TG:=λv U H Q=>to U H λo H1=>ti U H1 λi H2=>t o i v H2 λH3=>Q U H3
def aaF{o i:dr}{to ti:TE}{t:Uv}(ho:PE X o to)(hi:PE X i ti)(hs:aer X t)
  (ha:⇑(∀v,assign (.Subscript o i pos) bi v=(do
   let ov <- holding [v] (eval o bi);let iv <- holding [v,ov] (eval i bi)
   standAt pos
   holding [v,ov,iv]^setItem ov iv v
   release [v,ov,iv] []))):PG X (.Subscript o i pos)^aet to ti t:=by intro X1 s U H v u Q I r h;rw[ha];show av^wpAny_holding (cM (ho X1 s U H _ I h) λov s1 zq=>?_);let#[x,H1,I1,r1,q1]:=zq;show av^wpAny_holding (cM (hi X1 s1 U H1 _ I1 q1) λiv s2 zq=>?_);let#[y,H2,I2,r2,q2]:=zq;show av^wpAny_standAt^av^wpAny_holding (cM (hs X1 s2 U H2 x y v ov iv u _ I2 r1 r2 r q2) λz s3 zq=>?_);let#[H3,I3,q3]:=zq;show wpAny_release #[U,H3,I3,q3]
def OF(te:TE)(g:TG):TS:=λD U H=>te U H λx H1=>g x U H1 D.nx
def OG(he:PE X e te)(hg:PG X tg g)(hs:swapsWithSole [tg] e pos.line bi=pure bo)(hw:swappedStores [tg] e bi=pure bc)(h1:(assignEach [tg] bi).map (·.2)=[assign tg bi]):PS X (.Assign [tg] e pos)^OF te g:=by intro X1 s U H D I h;show wpAny_Assign_stores (cM (he X1 s U H _ I h) λv s1 zq=>?_) hs hw;let#[x,H1,I1,r1,q1]:=zq;rw[h1];show cM (hg X1 s1 U H1 x v _ I1 r1 q1) λz s2 q=>q
def aaG(hN:X.N.Nodup)(hi:X.N[i]?=!x)(hx:Loc X.env.scope x)(he:PE X e te)(hs:⇑(swapsWith e (!.Name x PQ) pos.line bi=pure false))(hf:‹X.fn x=am\/X.env.scope.names.lookup x=!.local›):
  PS X (.Assign [.Name x PQ] e pos)^OF te^gc i:=by intro X1 s U H D I h;show wpAny_Assign_Name (cM (he X1 s U H _ I h) λv s1 zq=>?_) hs;let#[y,H1,I1,r1,q1]:=zq;show yL I1 hN hi hx r1 (λs2 I2=>#[_,H1,I2,q1]) hf
def aaH(i:B)(te:TE)(ti:TIp):TS:=λD U H=>∃x,U[i]?=!!x/\te U H λy H1=>ti x y H1 λz H2=>D.nx (U.set i^!z) H2
def aaI{op:Operator}{ti:TIp}(hN:X.N.Nodup)(hi:X.N[i]?=!x)(hx:Loc X.env.scope x)(he:PE X e te)(ho:PIp X op ti)(hf:‹X.fn x=am\/X.env.scope.names.lookup x=!.local›):
  PS X (.AugAssign (.Name x PQ) op e pos)^aaH i te ti:=by
 intro X1 s U H D I h;let#[v,e1,h]:=h;let#[m,hn,hl]:=I.loc;let vis:Vis X.env.scope x:=by rcases hx with k|k;show .inl k;show .inr^.inl k
 let#[u,r,l]:=hl i x v hi e1 vis;show wpAny_AugAssign_Name ?_;let go:wpAny (model bj cr) X.A (eval e bi) (λw s₂=>wpAny (model bj cr) X.A (inplaceOp op u w) (λr s₃=>wpAny (model bj cr) X.A (storeName bi x r) (λq=>SP X X1 D .next) X.xe s₃) X.xe s₂) X.xe s:=by show cM (he X1 s U H _ I h) λw s1 zq=>?_;let#[y,H1,I1,r1,q1]:=zq;show cM (ho X1 s1 U H1 v y u w _ I1 r r1 q1) λz s2 zq=>?_;let#[zv,H2,I2,r2,q2]:=zq;show yL I2 hN hi hx r2 (λs3 I3=>#[_,H2,I3,q2]) hf
 rcases l with⟨hk,hm⟩|⟨hk,c,hc,hcell⟩;show wpAny_loadName_local I.ok.kind hk hn hm go;rcases hk with hk|hk;show wpAny_loadName_cell I.ok.kind hk hc hcell go;rcases hx with k|k;have:X.env.scope.names.lookup x=!.free:=hk;rw[k] at this;cases this;have:X.env.scope.names.lookup x=!.free:=hk;rw[k] at this;cases this
def ipI(f:Z->Z->Z):TIp:=λx y H Q=>∃i j,x=.int i/\y=.int j/\Q (.int^f i j) H
def CN:PIp X .Add (ipI λi j=>i+j):=by intro X1 s U H x y v u Q I r1 r2 h;let#[i,j,e1,e2,q]:=h;subst e1;subst e2;let#[t,Y]:=r1;let#[t',Y]:=r2;show iadd_int #[.int _,H,I.tok _,#[_,Y],q]
def aaJ:PIp X .Sub (ipI λi j=>i-j):=by intro X1 s U H x y v u Q I r1 r2 h;let#[i,j,e1,e2,q]:=h;subst e1;subst e2;let#[t,Y]:=r1;let#[t',Y]:=r2;show isub_int #[.int _,H,I.tok _,#[_,Y],q]
def Hj(c:TT)(tb:TS):TS:=λD U H=>∃W:B->St->Hp->O,(∃m,W m U H)/\∀m U H,W m U H ->
 c U H λb H1=>if b=am then ∃N:St->Hp->O,(∀U' H',N U' H'->∃m',m'<m/\W m' U' H')/\tb { D with nx:=N,ct:=N,bk:=D.nx } U H1 else D.nx U H1
def iH{tc:TT}(hp:PassesOwn (model bj cr) X.A bi X.xe)(hc:PT X c tc)(hb:AK X body tb):PS X (.While c body [] pos)^Hj tc tb:=by
 intro X1 s U H D I h;let#[W,#[m0,w0],turn]:=h;show wpAny_While^codeAny_whileLoop (λn s'=>∃U' H',Inv X X1 U' H' s'/\W n U' H') ?_ m0 #[U,H,I,w0];rintro n s1 ⟨Fa,H1,I1,w1⟩;show wpAny_passesOwn hp (cM (hc X1 s1 Fa H1 _ I1^turn n Fa H1 w1) λb s2 zq=>?_);let#[H2,I2,q2]:=zq;cases b with
 | true =>
  let#[N,hN,q2]:=q2;rw[if_pos Y];show wpAny_passesOwn hp (cM (hb X1 s2 Fa H2 _ I2 q2) λf s3 q3=>?_);cases f with
  | next =>
   let#[Fk,H3,I3,n3]:=q3;let#[m',hm,w3]:=hN Fk H3 n3;show#[m',hm,Fk,H3,I3,w3]
  | cont =>
   let#[Fk,H3,I3,n3]:=q3;let#[m',hm,w3]:=hN Fk H3 n3;show#[m',hm,Fk,H3,I3,w3]
  | brk=>show q3
  | ret v=>show q3
 | false =>
  rw[if_neg oB];show wpAny_execs_nil #[Fa,H2,I2,q2]
end
structure It where
 go:Nat->Hp->Prop
 OH:Nat->Hp->V->Hp->Prop
 stop:Nat->Hp->Prop
def lJ(X:Cx)(X1:List (ae×du))(H:Hp)(b:ae):O :=
 H b=bc/\b≠X.env.locals/\b∉X.fs/\(b∈X.ex\/eA<=b)/\(∀x c,X.env.cells.lookup x=!c->c≠b)/\∀p∈X.pn++X1,p.1≠b
def Inv.sy{U:St}{H':Hp}(I:Inv X X1 U H s)(hb:M<=b)(hn:H' b=bc):lJ X X1 H' b:=by show#[hn,jQ^cR I.lt hb,I.aem hb,.inr^aZ I.sz hb,λx c e z=>?_,λp hp z=>?_];let#[v,q]:=I.cell x c e;show absurd (cR q.lt (by rw[z];show hb))^fu _;show absurd (cR (aN (I.pin p hp).1) (by rw[z];show hb))^fu _
structure Turn (P:Program) (w:World) (K:aB) (tg:Expr) (Ya:It) (fp:List Addr) (it:Addr) (tn:Nat->Heap->Prop):Prop where
 mem:it∈fp
 obj:∀i h,tn i h->∀b∈fp,∃o,h.get? b=!o/\∀v,o.data≠.cell v
 keep:∀i h h',tn i h->(∀b∈fp,∀o,h.get? b=!o->h'.get? b=!o)->tn i h'
 item:∀(X:Cx),X.prog=P->X.w=w->X.K=K->X.calm=true->∀(i:Nat)(X1:List (Addr×Obj))(s:Shared)(U:St)(H:Hp)(E:Value->Shared->Prop),Inv X X1 U H s->(∀b∈fp,lJ X X1 H b)->tn i s.heap->Ya.go i H ->
  wpAny (model P w) X.A (pyNext^¬it) (λr s1=>∃u,r=!u /\
   wpAny (model P w) X.A (letOwnedTupleGo tg (¬it) u) (λz s2=>∃x H',Inv X X1 U H' s2/\RelV x u/\Ya.OH i H x H'/\tn (i+1) s2.heap/\∀b∈fp,H' b=none) E s1) E s
 done:∀(X:Cx),X.prog=P->X.w=w->X.K=K->X.calm=true->∀(i:Nat)(X1:List (Addr×Obj))(s:Shared)(U:St)(H:Hp)(E:Value->Shared->Prop),Inv X X1 U H s->(∀b∈fp,lJ X X1 H b)->tn i s.heap->Ya.stop i H ->
  wpAny (model P w) X.A (pyNext^¬it) (λr s1=>r=none/\Inv X X1 U H s1) E s
 self:∀(A:Around)(i:Nat)(s:Shared)(Q:Value->Shared->Prop)(E:Value->Shared->Prop),tn i s.heap->Q (¬it) s->wpAny (model P w) A (pyIter^¬it) Q E s
abbrev TI:=St->Hp->(It->Hp->O)->O
def PIE(X:Cx)(X1:List (ae×du))(U:St)(tg:dr)(R:It->Hp->O)(itv:J)(s2:aw):O :=
 ∃(it:ae)(fp:List ae)(tn:B->cv->O)(Ya:It)(H':Hp),itv=¬it/\Inv X X1 U H' s2/\Turn bj cr dq tg Ya fp it tn/\tn 0 s2.heap/\(∀b∈fp,lJ X X1 H' b)/\R Ya H'
def PI(X:Cx)(tg iter:dr)(wi:TI):O :=
 ∀(X1:List (ae×du))(s:aw)(U:St)(H:Hp)(R:It->Hp->O),Inv X X1 U H s->wi U H R ->
  wpAny (model bj cr) X.A (eval iter bi) (λv s1=>wpAny (model bj cr) X.A (pyIter v) (PIE X X1 U tg R) X.xe s1) X.xe s
def Ek{o:du}{n:String}{vs:Array J}{Q:Unit->aw->O}(ho:s.heap.get? it=!o)(hc:o.cls=.type n)(hd:o.data=.fields vs)
    (hn:["enumerate", "zip", "dict_itemiterator", "dict_reverseitemiterator", "odict_iterator", "itertools.zip_longest", "itertools.pairwise"].contains n=bo)(hQ:Q Unit.unit s):wpAny Y1 A (letOwnedTupleGo tg (¬it) u) Q E s:=by
  unfold letOwnedTupleGo;cases tg<;>first
    | show aW hQ
    | (cases u<;>first
        | show aW hQ
        | (show av (wpAny_load ho ?_)
           rw[hc,hd];change wpAny Y1 A (if(["enumerate", "zip", "dict_itemiterator", "dict_reverseitemiterator", "odict_iterator", "itertools.zip_longest", "itertools.pairwise"].contains n&&vs[0]?==!rawInt _)=am then _ else _) Q E s;rw[if_neg (by intro h;rw[hn,yw] at h;cases h)];show aW hQ))
def OI(K:aB)(a:ae):It :=
 #[λi H=>∃xs x,bJ K H a xs/\xs[i]?=!x,λi H x H'=>H'=H/\∀xs,bJ K H a xs->xs[i]?=!x,λi H=>∃xs,bJ K H a xs/\ab<=i]
def TV(K:aB)(a:ae):It :=
 #[λi H=>∃xs x,eB K H a xs/\xs[i]?=!x,λi H x H'=>H'=H/\∀xs,eB K H a xs->xs[i]?=!x,λi H=>∃xs,eB K H a xs/\ab<=i]
def yO(lo:Z)(n:B):It:=#[λi z=>i<n,λi H x H'=>H'=H/\x=.int (lo+i),λi z=>n<=i]
theorem LW(a it:ae):Turn P w K tg (OI K a) [it] it (λi h=>h.IsListIter it a i) where
 mem:=by simp
 obj:=λi h st b hb=>by
  let e:b=it:=by simpa using hb
  subst e;let#[o,e,c,d]:=st;show#[o,e,λv z=>by rw[d] at z;cases z]
 keep:=λi h h' st k=>st.at λo e=>k it (by simp) o e
 item:=by intro X hP hw hK hc i X1 s U H E I hf st hg;subst hP hw hK;let#[xs,x,hq,hx]:=hg;let#[XL,rv,p,hz]:=I.list hq;let#[u,hu,ru]:=rv.get hx;let#[f0,f1,f2,f3,f4,f5]:=hf it (by simp);show wpAny_pyNext_list_item st p.isList (x:=u) (by simpa using hu) λh' Ts sb=>?_;let I1:Inv X X1 U H { s with heap:=h' }:=I.turned (t':=s.toks) (λb o hb e=>(sb.2 b hb).trans e) f0 f1 f3 f4 f5;let#[o,e,c,d]:=id Ts;show#[u,Y,Ek (s:={ s with heap:=h' }) e c d () #[x,H,I1,ru,#[Y,λys hy=>by rw[I.Oz hy hq];show hx],Ts,λb hb=>(hf b hb).1]]
 done:=by intro X hP hw hK hc i X1 s U H E I hf st hg;subst hP hw hK;let#[xs,hq,hx]:=hg;let#[XL,rv,p,hz]:=I.list hq;let#[f0,f1,f2,f3,f4,f5]:=hf it (by simp);let hl:=rv.length;show wpAny_pyNext_list_end (I.ok.hd hc) st p.isList (by simp;lia) λh' eb=>#[Y,I.turned (t':=s.toks) (λb o hb e=>eb b o hb e) f0 f1 f3 f4 f5]
 self:=λq q q q q st h=>wpAny_pyIter_listiter st h
theorem Hl(a it:ae):Turn P w K tg (TV K a) [it] it (λi h=>h.IsTupleIter it a i) where
 mem:=by simp
 obj:=λi h st b hb=>by
  let e:b=it:=by simpa using hb
  subst e;let#[o,e,c,d]:=st;show#[o,e,λv z=>by rw[d] at z;cases z]
 keep:=λi h h' st k=>st.at λo e=>k it (by simp) o e
 item:=by intro X hP hw hK hc i X1 s U H E I hf st hg;subst hP hw hK;let#[xs,x,hq,hx]:=hg;let#[XL,rv,p,hz]:=I.tuple hq;let#[u,hu,ru]:=rv.get hx;let#[f0,f1,f2,f3,f4,f5]:=hf it (by simp);show wpAny_pyNext_tuple_item st (show s.heap.IsTuple a XL.toArray from p) (x:=u) (by simpa using hu) λh' Ts sb=>?_;let I1:Inv X X1 U H { s with heap:=h' }:=I.turned (t':=s.toks) (λb o hb e=>(sb.2 b hb).trans e) f0 f1 f3 f4 f5;let#[o,e,c,d]:=id Ts;show#[u,Y,Ek (s:={ s with heap:=h' }) e c d () #[x,H,I1,ru,#[Y,λys hy=>by rw[I.Bm hy hq];show hx],Ts,λb hb=>(hf b hb).1]]
 done:=by intro X hP hw hK hc i X1 s U H E I hf st hg;subst hP hw hK;let#[xs,hq,hx]:=hg;let#[XL,rv,p,hz]:=I.tuple hq;let#[f0,f1,f2,f3,f4,f5]:=hf it (by simp);let hl:=rv.length;show wpAny_pyNext_tuple_end (I.ok.hd hc) st (show s.heap.IsTuple a XL.toArray from p) (by simp;lia) λh' eb=>#[Y,I.turned (t':=s.toks) (λb o hb e=>eb b o hb e) f0 f1 f3 f4 f5]
 self:=λq q q q q st h=>wpAny_pyIter_tupleiter st h
theorem Ho(it:ae)(lo:Z)(n:B):Turn P w K tg (yO lo n) [it] it (λi h=>IsRangeIter h it (lo+(i:B)*1) ((n:Z)-(i:B)) 1) where
 mem:=by simp
 obj:=λi h st b hb=>by
  let e:b=it:=by simpa using hb
  subst e;show#[_,st,λv z=>by
   let z':Data.fields _=Data.cell v:=z;cases z']
 keep:=λi h h' st k=>k it (by simp) _ st
 item:=by intro X hP hw hK hc i X1 s U H E I hf st hg;subst hP hw hK;let#[f0,f1,f2,f3,f4,f5]:=hf it (by simp);let W:=Walks.range (prog:=bj) (w:=cr) (I.ok.hd hc) it lo 1 n;show W.item i s _ _ hg st λv h' tk hv Ts kk=>?_;let#[t,Y]:=hv;let I1:Inv X X1 U H { s with heap:=h',toks:=tk }:=I.turned (λb o hb e=>kk b o (by simpa using hb) e) f0 f1 f3 f4 f5;show#[_,Y,Ek (s:={ s with heap:=h',toks:=tk }) (n := "range_iterator") Ts Y rfl () #[.int (lo+i),H,I1,#[t,?_],#[Y,Y],Ts,λb hb=>(hf b hb).1]];rw[Int.mul_one]
 done:=by intro X hP hw hK hc i X1 s U H E I hf st hg;subst hP hw hK;let#[f0,f1,f2,f3,f4,f5]:=hf it (by simp);show wpAny_pyNext_range_end (I.ok.hd hc) st (by have:n<=i:=hg;lia) λh' eb=>#[Y,I.turned (t':=s.toks) (λb o hb e=>eb b o hb e) f0 f1 f3 f4 f5]
 self:=λq q q q q st h=>wpAny_pyIter_rangeiter st h
section
variable {X:Cx}
def OJ(K:aB)(tl:TE):TI:=λU H R=>tl U H λx H1=>∃a,x=¬a/\(∃xs,bJ K H1 a xs)/\R (OI K a) H1
def aeu(K:aB)(tl:TE):TI:=λU H R=>tl U H λx H1=>∃a,x=¬a/\(∃xs,eB K H1 a xs)/\R (TV K a) H1
def cC{l:dr}{tl:TE}(hl:PE X l tl):PI X tg l^OJ dq tl:=by
 intro X1 s U H R I h;show cM (hl X1 s U H _ I h) λv s1 zq=>?_;let#[x,H1,I1,r1,q1]:=zq;let#[a,e,#[xs,hq],q]:=q1;subst e;cases r1;let#[XL,rv,p,hz]:=I1.list hq;show wpAny_pyIter_list p.isList ?_;show#[bv,[bv],_,_,H1,Y,I1.kept (t':=s1.toks) λb o e=>eT _ e,LW a _,#[_,jH _ rfl,Y,Y],λb hb=>?_,q];let e:b=s1.heap.objs.size:=by simpa using hb
 subst e;show I1.sy (aq _)^I1.hok.fresh^aq _
def yP{l:dr}{tl:TE}(hl:PE X l tl):PI X tg l^aeu dq tl:=by
 intro X1 s U H R I h;show cM (hl X1 s U H _ I h) λv s1 zq=>?_;let#[x,H1,I1,r1,q1]:=zq;let#[a,e,#[xs,hq],q]:=q1;subst e;cases r1;let#[XL,rv,p,hz]:=I1.tuple hq;show wpAny_pyIter_tuple (show s1.heap.IsTuple a XL.toArray from p) ?_;show#[bv,[bv],_,_,H1,Y,I1.kept (t':=s1.toks) λb o e=>eT _ e,Hl a _,#[_,jH _ rfl,Y,Y],λb hb=>?_,q];let e:b=s1.heap.objs.size:=by simpa using hb
 subst e;show I1.sy (aq _)^I1.hok.fresh^aq _
theorem OL{U:St}{R:It->Hp->O}{lo hi:Z}{t u v:Tok}{tk:B}(I:Inv X X1 U H s)(h1:-(2 ^ 62)<=lo)(h2:lo<2 ^ 62)(h3:-(2 ^ 62)<=hi)(h4:hi<2 ^ 62)
  (q:R (yO lo (hi-lo).toNat) H):wpAny (model bj cr) X.A (pyIter^¬M) (PIE X X1 U tg R) E { s with heap:=s.heap.push { cls:=.type "range", data:=.fields #v[.int lo t,.int hi u,.int 1 v] },toks:=tk }:=by
 show wpAny_pyIter_range (IsRange.new ..) (small_one h1 h2 h3 h4) ?_;let I1:Inv X X1 U H { s with heap:=s.heap.push { cls:=.type "range", data:=.fields #v[.int lo t,.int hi u,.int 1 v] },toks:=tk }:=I.kept λb o e=>eT _ e;show#[(s.heap.push { cls:=.type "range", data:=.fields #v[.int lo t,.int hi u,.int 1 v] }).objs.size,[(s.heap.push { cls:=.type "range", data:=.fields #v[.int lo t,.int hi u,.int 1 v] }).objs.size],_,_,H,Y,
  I1.kept (t':=tk) λb o e=>eT _ e,Ho _ lo (hi-lo).toNat,?_,λb hb=>?_,q]
 .have e1:lo+((0:B):Z)*1=lo:=by simp
  let e2:(((hi-lo).toNat:B):Z)-((0:B):Z)=Builtin.Range.rangeSize lo hi 1:=by rw[rangeSize_one];split<;>lia
  change IsRangeIter _ _ (lo+((0:B):Z)*1) ((((hi-lo).toNat:B):Z)-((0:B):Z)) 1;rw[e1,e2];show jH _ rfl
 .have e:b=(s.heap.push { cls:=.type "range", data:=.fields #v[.int lo t,.int hi u,.int 1 v] }).objs.size:=by simpa using hb
  subst e;show I1.sy (aq _)^I1.hok.fresh^aq _
def XU(ta:TA):TI:=λU H R=>ta U H λvs H1=>∃j:Z,vs=[.int j] /\ -(2 ^ 62)<=j/\j<2 ^ 62/\R (yO 0 j.toNat) H1
theorem lT{a:dr}{ta:TA}{p:Pos}(hg:Gl X "range")(hm:X.mg "range" = none)(ha:PA X [a] ta)(hs:⇑(starEach [a] bi=[(false,eval a bi)])):PI X tg (.Call (.Name "range" p) [a] [] pos)^XU ta:=by
 intro X1 s U H R I h;show Call_^jL I hg hm boot_range^jS (cM (ha pos X1 s U H _ I h) λus s1 zq=>?_) hs Y;let#[vs,H1,I1,r1,q1]:=zq;let#[j,e,q1,q2,q]:=q1;subst e;cases r1 with
 | cons r rr =>
  cases rr;let#[t,Y]:=r;show call_range_1 (OL I1 ∅ ∅ q1 q2 (by simpa using q))
def aev(wi:TI)(g:TG)(tb:TS):TS:=λD U H=>wi U H λYa H1=>∃W:B->B->St->Hp->O,(∃m,W 0 m U H1)/\∀i m U H,W i m U H ->
 (Ya.stop i H/\D.nx U H)\/(Ya.go i H/\∃N:St->Hp->O,(∀U' H',N U' H'->∃m',m'<m/\W (i+1) m' U' H')/\∀x H',Ya.OH i H x H'->g x U H' λU2 H2=>tb { D with nx:=N,ct:=N,bk:=D.nx } U2 H2)
noncomputable def vp(fp:List ae)(h:cv):List (ae×du):=fp.filterMap λb=>(h.get? b).map λo=>(b,o)
def i7{o:du}(hb:b∈fp)(e:h.get? b=!o):(b,o)∈vp fp h:=List.mem_filterMap.mpr #[b,hb,by rw[e];rfl]
def Bo{p:ae×du}(hp:p∈vp fp h):p.1∈fp/\h.get? p.1=!p.2:=by
 let#[b,hb,e]:=List.mem_filterMap.mp hp;cases q:h.get? b with
 | none=>rw[q] at e;cases e
 | some o =>
  rw[q] at e;let e':(b,o)=p:=Option.some.inj e;subst e';show#[hb,q]
def Inv.pinned{U:St}(I:Inv X X1 U H s)(hf:∀b∈fp,lJ X X1 H b)(ho:∀b∈fp,∃o,s.heap.get? b=!o/\∀v,o.data≠.cell v):Inv X (X1++vp fp ap) U H s :=
 I.xW λp hp=>(aR.mp hp).elim (λz=>I.pin p^fV _ z) λz=>by let#[hb,e]:=Bo z;let#[f0,f1,f2,_]:=hf p.1 hb;let#[o,e',d]:=ho p.1 hb;rw[e] at e';cases e';show#[e,f0,f1,f2,d]
def Inv.sA{pl:List (ae×du)}{U:St}(I:Inv X (X1++pl) U H s):Inv X X1 U H s:=I.xW λp hp=>I.pin p^fV _^jK _ hp
def dZ{iter:dr}{wi:TI}(hp:PassesOwn (model bj cr) X.A bi X.xe)(hc:X.calm=am)(hi:PI X tg iter wi)(hg:PG X tg g)(hb:AK X body tb)
  (hs:⇑(∀x,foldedSetIterable iter bi x=pure x)):PS X (.For tg iter body [] pos)^aev wi g tb:=by
 intro X1 s U H D I h;show wpAny_For (cM (hi X1 s U H _ I h) λv s1 h1=>cM h1 λitv s2 h2=>?_) hs;let#[it,fp,tn,Ya,H2,e,I2,T,Kj,f2,W,#[m0,w0],turn]:=h2;subst e;let Hq:∀{H':Hp},(∀b∈fp,H' b=bc)->∀b∈fp,lJ X X1 H' b:=λhn b hb=>#[hn b hb,(f2 b hb).2];show codeAny_forLoop_any (λn s'=>∃i U' H',Inv X X1 U' H' s'/\tn i d6/\(∀b∈fp,H' b=bc)/\W i n U' H') ?_ m0 #[0,U,H2,I2,Kj,λb hb=>(f2 b hb).1,w0];rintro n s3 ⟨i,Fk,H3,I3,st3,fr3,w3⟩;rcases turn i n Fk H3 w3 with⟨stop,qn⟩|⟨go,N,hN,step⟩
 .show wpAny_passesOwn hp (cM (T.done X Y rfl rfl hc i X1 s3 Fk H3 X.xe I3 (Hq fr3) st3 stop) λr s4 zq=>?_);let#[hr,I4]:=zq;subst hr;show wpAny_execs_nil #[Fk,H3,I4,qn]
 .show wpAny_passesOwn hp (cM (T.item X Y rfl rfl hc i X1 s3 Fk H3 X.xe I3 (Hq fr3) st3 go) λr s4 zq=>?_);let#[u,hr,h4]:=zq;subst hr;show wpAny_passesOwn hp (cM h4 λz s5 zq=>?_);let#[x,H5,I5,r5,y5,Uw,fr5]:=zq;let I5':=I5.pinned (Hq fr5)^T.obj _ _ Uw;show wpAny_passesOwn hp (cM (hg _ s5 Fk H5 x u _ I5' r5^step x H5 y5) λz s6 zq=>?_);let#[Fm,H6,I6,q6]:=zq;show wpAny_passesOwn hp (cM (hb _ s6 Fm H6 _ I6 q6) λf s7 q7=>?_);let again:∀{Fh:St}{H7:Hp},Inv X (X1++vp fp s5.heap) Fh H7 s7->N Fh H7->∃m,m<n/\∃i U' H',Inv X X1 U' H' s7/\tn i s7.heap/\(∀b∈fp,H' b=bc)/\W i m U' H':=λ{Fh H7} I7 n7=>by let#[m',hm,w7]:=hN Fh H7 n7;show#[m',hm,i+1,Fh,H7,I7.sA,T.keep _ _ _ Uw λb hb o e=>(I7.pin (b,o)^fV _^fV _^i7 hb e).1,λb hb=>?_,w7];let#[o,e,d]:=T.obj _ _ Uw b hb;show(I7.pin (b,o)^fV _^fV _^i7 hb e).2.1
  cases f with
  | next=>let#[Fh,H7,I7,n7]:=q7;show again I7 n7
  | cont=>let#[Fh,H7,I7,n7]:=q7;show again I7 n7
  | brk=>let#[Fh,H7,I7,q7]:=q7;show#[Fh,H7,I7.sA,q7]
  | ret v=>let#[x7,Fh,H7,I7,r7,q7]:=q7;show#[x7,Fh,H7,I7.sA,r7,q7]
end
theorem OM{U:St}(Pv:B->St->Hp->O)(h0:Pv 0 U H)(hl:∀i U H,i<=ab->Pv i U H->bJ K H a xs)
  (hs:∀i x U H,xs[i]?=!x->Pv i U H->g x U H λU2 H2=>tb { D with nx:=Pv (i+1),ct:=Pv (i+1),bk:=D.nx } U2 H2)(hd:∀U H,Pv ab U H->D.nx U H):
  ∃W:B->B->St->Hp->O,(∃m,W 0 m U H)/\∀i m U H,W i m U H ->
   ((OI K a).stop i H/\D.nx U H)\/((OI K a).go i H/\∃N:St->Hp->O,(∀U' H',N U' H'->∃m',m'<m/\W (i+1) m' U' H')/\∀x H',(OI K a).OH i H x H'->g x U H' λU2 H2=>tb { D with nx:=N,ct:=N,bk:=D.nx } U2 H2):=by show#[λi m U H=>m=ab-i/\i<=ab/\Pv i U H,#[ab,by simp,aQ _,h0],?_];rintro i m U H ⟨rfl,hi,p⟩;let q:=hl i U H hi p;by_cases hlt:i<ab;show .inr #[#[xs,xs[i],q,by simp[hlt]],Pv (i+1),λU' H' p'=>#[xs.length-(i+1),∅,Y,hlt,p'],λx H' y=>?_];let#[e,y]:=y;subst e;show hs i x U _ (y xs q) p;let e:i=xs.length:=∅;subst e;show .inl #[#[xs,q,aq _],hd U H p]
theorem Ux{U:St}(Pv:B->St->Hp->O)(h0:Pv 0 U H)(hl:∀i U H,i<=ab->Pv i U H->eB K H a xs)
  (hs:∀i x U H,xs[i]?=!x->Pv i U H->g x U H λU2 H2=>tb { D with nx:=Pv (i+1),ct:=Pv (i+1),bk:=D.nx } U2 H2)(hd:∀U H,Pv ab U H->D.nx U H):
  ∃W:B->B->St->Hp->O,(∃m,W 0 m U H)/\∀i m U H,W i m U H ->
   ((TV K a).stop i H/\D.nx U H)\/((TV K a).go i H/\∃N:St->Hp->O,(∀U' H',N U' H'->∃m',m'<m/\W (i+1) m' U' H')/\∀x H',(TV K a).OH i H x H'->g x U H' λU2 H2=>tb { D with nx:=N,ct:=N,bk:=D.nx } U2 H2):=by show#[λi m U H=>m=ab-i/\i<=ab/\Pv i U H,#[ab,by simp,aQ _,h0],?_];rintro i m U H ⟨rfl,hi,p⟩;let q:=hl i U H hi p;by_cases hlt:i<ab;show .inr #[#[xs,xs[i],q,by simp[hlt]],Pv (i+1),λU' H' p'=>#[xs.length-(i+1),∅,Y,hlt,p'],λx H' y=>?_];let#[e,y]:=y;subst e;show hs i x U _ (y xs q) p;let e:i=xs.length:=∅;subst e;show .inl #[#[xs,q,aq _],hd U H p]
abbrev R2:=V->V->Hp->VK->O
def kO(X:Cx)(f:J->J->Sem J)(r:R2):O :=
 ∀(X1:List (ae×du))(s:aw)(U:St)(H:Hp)(x y:V)(v u:J)(Q:VK),Inv X X1 U H s->RelV x v->RelV y u->r x y H Q ->
  wpAny (model bj cr) X.A (f v u) (EP X X1 U Q) X.xe s
def UnR(X:Cx)(f:J->Sem J)(r:V->Hp->VK->O):O :=
 ∀(X1:List (ae×du))(s:aw)(U:St)(H:Hp)(x:V)(v:J)(Q:VK),Inv X X1 U H s->RelV x v->r x H Q ->
  wpAny (model bj cr) X.A (f v) (EP X X1 U Q) X.xe s
def fj(X:Cx)(f:J)(r:List V->Hp->VK->O):O :=
 ∀(X1:List (ae×du))(s:aw)(U:St)(H:Hp)(xs:List V)(us:List J)(Q:VK),Inv X X1 U H s->Vals xs us->r xs H Q ->
  wpAny (model bj cr) X.A (call f us) (EP X X1 U Q) X.xe s
def ajQ(X:Cx)(r:V->Hp->(ci->Hp->O)->O):O :=
 ∀(X1:List (ae×du))(s:aw)(U:St)(H:Hp)(x:V)(v:J)(Q:ci->Hp->O),Inv X X1 U H s->RelV x v->r x H Q ->
  wpAny (model bj cr) X.A (truthy v) (TP X X1 U Q) X.xe s
def El(r:R2)(ta tb:TE):TE:=λU H Q=>ta U H λx H1=>tb U H1 λy H2=>r x y H2 Q
def tUn(r:V->Hp->VK->O)(ta:TE):TE:=λU H Q=>ta U H λx H1=>r x H1 Q
def rI(C:Z->Z->O)(g:Z->Z->V):R2:=λx y H Q=>∃i j,x=.int i/\y=.int j/\C i j/\Q (g i j) H
def LX(g:Z->Z->V):R2:=λx y H Q=>∃i j,x=.int i/\y=.int j/\Q (g i j) H
def rU(g:Z->V):V->Hp->VK->Prop:=λx H Q=>∃i,x=.int i/\Q (g i) H
section
variable {X:Cx}{a b:dr}{ta tb tc:TE}
def aaK(ha:PE X a ta)(hb:PE X b tb){U:St}{R:V->V->Hp->O}(I:Inv X X1 U H s)
  (h:ta U H λx H1=>tb U H1 λy H2=>R x y H2)
  (hf:∀v u s2 x y H2,Inv X X1 U H2 s2->RelV x v->RelV y u->R x y H2->wpAny (model bj cr) X.A (f v u) Q X.xe s2):
  wpAny (model bj cr) X.A (eval a bi) (λv s₁=>wpAny (model bj cr) X.A (eval b bi) (λu s₂=>wpAny (model bj cr) X.A (f v u) Q X.xe s₂) X.xe s₁) X.xe s:=by show cM (ha X1 s U H _ I h) λv s1 zq=>?_;let#[x,H1,I1,r1,q1]:=zq;show cM (hb X1 s1 U H1 _ I1 q1) λu s2 zq=>?_;let#[y,H2,I2,r2,q2]:=zq;show hf v u s2 x y H2 I2 r1 r2 q2
def aO{op:Operator}(ho:kO X (binaryOp op) r)(ha:PE X a ta)(hb:PE X b tb):PE X (.BinOp a op b pos)^El r ta tb:=by intro X1 s U H Q I h;show wpAny_BinOp (aaK ha hb I h λv u s2 x y H2 I2 rx ry q=>ho X1 s2 U H2 x y v u Q I2 rx ry q)
def nS{op:UnaryOp}{r:V->Hp->VK->O}(ho:UnR X (unaryOp op) r)(ha:PE X a ta):PE X (.UnaryOp op a pos)^tUn r ta:=by intro X1 s U H Q I h;show UnaryOp_ (cM (ha X1 s U H _ I h) λv s1 zq=>?_);let#[x,H1,I1,r1,q1]:=zq;show ho X1 s1 U H1 x v Q I1 r1 q1
def opI{C:Z->Z->O}{g:Z->Z->Z}
  (rule:∀(i j:Z)(t u:Tok)(s:aw)(Q:J->aw->O)(E:J->aw->O),C i j->Q (.int (g i j) s.toks) { s with toks:=s.toks+1 }->wpAny (model bj cr) X.A (f (.int i t)^.int j u) Q E s):
  kO X f (rI C λi j=>.int^g i j):=by intro X1 s U H x y v u Q I rx ry h;let#[i,j,Y,Y,hc,q]:=h;let#[t,Y]:=rx;let#[t',Y]:=ry;show rule i j t t' s _ _ hc #[.int^g i j,H,I.tok _,#[_,Y],q]
def ON{g:Z->Z->Z}
  (rule:∀(i j:Z)(t u:Tok)(s:aw)(Q:J->aw->O)(E:J->aw->O),Q (.int (g i j) s.toks) { s with toks:=s.toks+1 }->wpAny (model bj cr) X.A (f (.int i t)^.int j u) Q E s):
  kO X f (LX λi j=>.int^g i j):=by intro X1 s U H x y v u Q I rx ry h;let#[i,j,Y,Y,q]:=h;let#[t,Y]:=rx;let#[t',Y]:=ry;show rule i j t t' s _ _ #[.int^g i j,H,I.tok _,#[_,Y],q]
def Uy{g:Z->Z->ci}
  (rule:∀(i j:Z)(t u:Tok)(s:aw)(Q:J->aw->O)(E:J->aw->O),Q (.bool^g i j) s->wpAny (model bj cr) X.A (f (.int i t)^.int j u) Q E s):
  kO X f (LX λi j=>.bl^g i j):=by intro X1 s U H x y v u Q I rx ry h;let#[i,j,Y,Y,q]:=h;let#[t,Y]:=rx;let#[t',Y]:=ry;show rule i j t t' s _ _ #[.bl^g i j,H,I,Y,q]
def aex(i j:Z):=0<=j/\j<=1000000/\i.natAbs<2 ^ 64
def aaL(i j:Z):=(-(2 ^ 64)<i/\i<2 ^ 64)\/(-(2 ^ 64)<j/\j<2 ^ 64)
def aaL.ok{i j:Z}(h:aaL i j):IntMulOk i j:=by rcases h with⟨h1,h2⟩|⟨h1,h2⟩;show .of_left^intBits_le_64 h1 h2;show .of_right^intBits_le_64 h1 h2
def Hr(k:B):(0:Z)<=2 ^ k:=by rw[two_pow_cast];show uX _
def d7:kO X (binaryOp .Add) (LX λi j=>.int (i+j)):=ON λz z z z z z z q=>add_int q
def CO:kO X (binaryOp .Sub) (LX λi j=>.int (i-j)):=ON λz z z z z z z q=>sub_int q
def i8:kO X (binaryOp .Mult) (rI aaL λi j=>.int (i*j)):=opI λz z z z z z z hc q=>mul_int q hc.ok
theorem dD:kO X (binaryOp .Mod) (rI (λz j=>0<j) λi j=>.int (i % j)):=opI λi j z z z z z hc q=>by let h1:(0:Z)<j:=hc;show mod_int' ∅ (by rw[Int.fmod_eq_emod_of_nonneg i ∅];show q)
def OO:kO X (binaryOp .Pow) (rI aex λi j=>.int^HPow.hPow i j.toNat):=opI λz z z z z z z hc q=>pow_int_small hc.1 hc.2.1 hc.2.2 q
def OP:kO X (binaryOp .LShift) (rI aex λi j=>.int (i*2 ^ j.toNat)):=opI λz z z z z z z hc q=>lshift_int_small hc.1 hc.2.1 hc.2.2 q
def aaM:kO X (binaryOp .RShift) (rI (λz j=>0<=j) λi j=>.int (i / 2 ^ j.toNat)):=opI λi j z z z z z hc q =>
 rshift_int hc (by rw[Int.fdiv_eq_ediv_of_nonneg i^Hr _];show q)
def OQ:kO X (binaryOp .BitAnd) (LX λi j=>.int^Builtin.bitAnd i j):=ON λz z z z z z z q=>and_int q
def aey:kO X (binaryOp .BitOr) (LX λi j=>.int^Builtin.bitOr i j):=ON λz z z z z z z q=>or_int q
def Hs:kO X (binaryOp .BitXor) (LX λi j=>.int^Builtin.bitXor i j):=ON λz z z z z z z q=>xor_int q
def unI{f:J->Sem J}{g:Z->Z}
  (rule:∀(i:Z)(t:Tok)(s:aw)(Q:J->aw->O)(E:J->aw->O),Q (.int (g i) s.toks) { s with toks:=s.toks+1 }->wpAny (model bj cr) X.A (f^.int i t) Q E s):
  UnR X f (rU λi=>.int^g i):=by intro X1 s U H x v Q I rx h;let#[i,Y,q]:=h;let#[t,Y]:=rx;show rule i t s _ _ #[.int^g i,H,I.tok _,#[_,Y],q]
def jM:UnR X (unaryOp .USub) (rU λi=>.int (-i)):=unI λz z z z z q=>neg_int q
end
noncomputable def aez:V->V->ci
 | .cH,.cH=>true|.cH,.int _=>true|.int _,.cH=>true|.cH,.bl _=>true|.bl _,.cH=>true|.cH,.str _=>true|.str _,.cH=>true
 | .int _,.int _=>true|.bl _,.bl _=>true|.str _,.str _=>true|.JG _,.JG _=>true
 | .int _,.str _=>true|.str _,.int _=>true|.bl _,.str _=>true|.str _,.bl _=>true
 | _,_=>false
def rEq:R2:=λx y H Q=>aez x y=am/\Q (.bl (decide (x=y))) H
def rNe:R2:=λx y H Q=>aez x y=am/\Q (.bl (not (decide (x=y)))) H
def JN{i j:Z}:decide (V.int i=V.int j)=(i==j):=by rw[Bool.eq_iff_iff];simp
def OR{i j:ci}:decide (V.bl i=V.bl j)=(i==j):=by rw[Bool.eq_iff_iff];simp
def JO{i j:ax}:decide (V.str i=V.str j)=(i==j):=by rw[Bool.eq_iff_iff];simp
def JP{i j:Array UInt8}:decide (V.JG i=V.JG j)=(i.toList==j.toList):=by rw[Bool.eq_iff_iff];cases i;cases j;simp
section
variable {X:Cx}{a b:dr}{ta tb tc:TE}
def cE{U:St}{Q:VK}{k k':ci}(I:Inv X X1 U H s)(q:Q (.bl k) H)(e:k=k'):EP X X1 U Q (.bool k') s:=by subst e;show#[.bl k,H,I,Y,q]
def bY:kO X (compareOp .Eq) rEq:=by
 intro X1 s U H x y v u Q I rx ry h;let#[hs,q]:=h;cases x with
 | cH =>
  cases rx;cases y with
  | cH=>cases ry;show PySem.EqNone.eq_none_none (cE I q^by simp)
  | bl j=>cases ry;show PySem.EqNone.eq_none_bool (cE I q^by simp)
  | int j=>let#[t',Y]:=ry;show PySem.EqNone.eq_none_int (cE I q^by simp)
  | str j=>let#[t',Y]:=ry;show PySem.EqNone.eq_none_str (cE I q^by simp)
  | _=>show absurd (show false=am from hs) oB
 | bl i =>
  cases rx;cases y with
  | cH=>cases ry;show PySem.EqNone.eq_bool_none (cE I q^by simp)
  | bl j=>cases ry;show eq_bool^cE I q OR
  | str j=>let#[t',Y]:=ry;show PySem.EqMixed.eq_bool_str (cE I q^by simp)
  | _=>show absurd (show false=am from hs) oB
 | int i =>
  let#[t,Y]:=rx;cases y with
  | cH=>cases ry;show PySem.EqNone.eq_int_none (cE I q^by simp)
  | int j=>let#[t',Y]:=ry;show eq_int^cE I q JN
  | str j=>let#[t',Y]:=ry;show PySem.EqMixed.eq_int_str (cE I q^by simp)
  | _=>show absurd (show false=am from hs) oB
 | str i =>
  let#[t,Y]:=rx;cases y with
  | cH=>cases ry;show PySem.EqNone.eq_str_none (cE I q^by simp)
  | bl j=>cases ry;show PySem.EqMixed.eq_str_bool (cE I q^by simp)
  | int j=>let#[t',Y]:=ry;show PySem.EqMixed.eq_str_int (cE I q^by simp)
  | str j=>let#[t',Y]:=ry;show eq_str^cE I q JO
  | _=>show absurd (show false=am from hs) oB
 | JG i =>
  let#[t,Y]:=rx;cases y with
  | JG j=>let#[t',Y]:=ry;show PySem.W.eq_bytes^cE I q JP
  | _=>show absurd (show false=am from hs) oB
 | _=>cases y<;>show absurd (show false=am from hs) oB
def wu:kO X (compareOp .NotEq) rNe:=by
 intro X1 s U H x y v u Q I rx ry h;let#[hs,q]:=h;cases x with
 | cH =>
  cases rx;cases y with
  | cH=>cases ry;show PySem.EqNone.ne_none_none (cE I q^by simp)
  | bl j=>cases ry;show PySem.EqNone.ne_none_bool (cE I q^by simp)
  | int j=>let#[t',Y]:=ry;show PySem.EqNone.ne_none_int (cE I q^by simp)
  | str j=>let#[t',Y]:=ry;show PySem.EqNone.ne_none_str (cE I q^by simp)
  | _=>show absurd (show false=am from hs) oB
 | bl i =>
  cases rx;cases y with
  | cH=>cases ry;show PySem.EqNone.ne_bool_none (cE I q^by simp)
  | bl j=>cases ry;show ne_bool^cE I q^congrArg not OR
  | str j=>let#[t',Y]:=ry;show PySem.EqMixed.ne_bool_str (cE I q^by simp)
  | _=>show absurd (show false=am from hs) oB
 | int i =>
  let#[t,Y]:=rx;cases y with
  | cH=>cases ry;show PySem.EqNone.ne_int_none (cE I q^by simp)
  | int j=>let#[t',Y]:=ry;show ne_int^cE I q^congrArg not JN
  | str j=>let#[t',Y]:=ry;show PySem.EqMixed.ne_int_str (cE I q^by simp)
  | _=>show absurd (show false=am from hs) oB
 | str i =>
  let#[t,Y]:=rx;cases y with
  | cH=>cases ry;show PySem.EqNone.ne_str_none (cE I q^by simp)
  | bl j=>cases ry;show PySem.EqMixed.ne_str_bool (cE I q^by simp)
  | int j=>let#[t',Y]:=ry;show PySem.EqMixed.ne_str_int (cE I q^by simp)
  | str j=>let#[t',Y]:=ry;show ne_str^cE I q^congrArg not JO
  | _=>show absurd (show false=am from hs) oB
 | JG i =>
  let#[t,Y]:=rx;cases y with
  | JG j=>let#[t',Y]:=ry;show PySem.W.ne_bytes^cE I q^congrArg not JP
  | _=>show absurd (show false=am from hs) oB
 | _=>cases y<;>show absurd (show false=am from hs) oB
def oU:kO X (compareOp .Lt) (LX λi j=>.bl (decide (i<j))):=Uy λz z z z z z z q=>lt_int q
def JQ:kO X (compareOp .LtE) (LX λi j=>.bl (decide (i<=j))):=Uy λz z z z z z z q=>le_int q
def Em:kO X (compareOp .Gt) (LX λi j=>.bl (decide (j<i))):=Uy λz z z z z z z q=>gt_int q
def XW:kO X (compareOp .GtE) (LX λi j=>.bl (decide (j<=i))):=Uy λz z z z z z z q=>ge_int q
def aaN:kO X (compareOp .Is) (λx y H Q=>y=.cH/\Q (.bl (decide (x=.cH))) H):=by
 intro X1 s U H x y v u Q I rx ry h;let#[Y,q]:=h;cases ry;show is_none_gen^cE I q ?_;cases x<;>first
  | (cases rx;rfl)
  | (let#[t,Y]:=rx;rfl)
def Uz:kO X (compareOp .IsNot) (λx y H Q=>y=.cH/\Q (.bl (not (decide (x=.cH)))) H):=by
 intro X1 s U H x y v u Q I rx ry h;let#[Y,q]:=h;cases ry;show isnot_none_gen^cE I q ?_;cases x<;>first
  | (cases rx;rfl)
  | (let#[t,Y]:=rx;rfl)
def i9(b:dr)(h:↥(op≠.In))(h2:↥(op≠.NotIn)):behindInMarks op b=false:=by
 let e1:(op==CmpOp.In)=false:=by cases op<;>first|rfl|show absurd Y h
 let e2:(op==CmpOp.NotIn)=false:=by cases op<;>first|rfl|show absurd Y h2
 cases b<;>simp[behindInMarks,e1,e2]
def gf(ho:kO X (compareOp op) r)(ha:PE X a ta)(hb:PE X b tb)(hm:behindInMarks op b=bo):PE X (.Compare a [op] [b] pos)^El r ta tb:=by intro X1 s U H Q I h;show wpAny_Compare1 (aaK ha hb I h λv u s2 x y H2 I2 rx ry q=>ho X1 s2 U H2 x y v u Q I2 rx ry q) hm
def wz(t:TE):TT:=λU H Q=>t U H λx H'=>∃k,x=.bl k/\Q k H'
def dJ(ho:kO X (compareOp op) r)(ha:PE X a ta)(hb:PE X b tb)(hm:behindInMarks op b=bo):PT X (.Compare a [op] [b] pos)^wz^El r ta tb:=by intro X1 s U H Q I h;show wpAny_isTrue_Compare1 (cM (ha X1 s U H _ I h) λv s1 zq=>?_) hm;let#[x,H1,I1,r1,q1]:=zq;show cM (hb X1 s1 U H1 _ I1 q1) λu s2 zq=>?_;let#[y,H2,I2,r2,q2]:=zq;show cM (ho X1 s2 U H2 x y v u _ I2 r1 r2 q2) λc s3 zq=>?_;let#[z,H3,I3,r3,k,e,q3]:=zq;subst e;cases r3;show wpAny_truthy_bool #[H3,I3,q3]
def Ht(r r':R2)(ta tb tc:TE):TE:=λU H Q=>ta U H λx H1=>tb U H1 λy H2=>r x y H2 λz H3=>∃k,z=.bl k /\
 (if k=am then tc U H3 λw' H4=>r' y w' H4 Q else Q (.bl bo) H3)
def OS{op':CmpOp}{r':R2}(ho:kO X (compareOp op) r)(KK:kO X (compareOp op') r')(ha:PE X a ta)(hb:PE X b tb)(hc:PE X c tc)
  (hm:lastMarks [op,op'] [b,c]=false:=by with_unfolding_all rfl):PE X (.Compare a [op,op'] [b,c] pos)^Ht r r' ta tb tc:=by
 intro X1 s U H Q I h;show Compare_chain (cM (ha X1 s U H _ I h) λv s1 zq=>?_) hm;let#[x,H1,I1,r1,q1]:=zq;show chain_link (cM (hb X1 s1 U H1 _ I1 q1) λu s2 zq=>?_);let#[y,H2,I2,r2,q2]:=zq;show cM (ho X1 s2 U H2 x y v u _ I2 r1 r2 q2) λd s3 zq=>?_;let#[z,H3,I3,r3,k,e,q3]:=zq;subst e;cases r3;show wpAny_truthy_bool ?_;cases k with
 | false=>show ite_ff #[.bl bo,H3,I3,Y,q3]
 | true=>show ite_tt^chain_last (cM (hc X1 s3 U H3 _ I3 q3) λw' s4 ⟨z',H4,I4,r4,q4⟩=>KK X1 s4 U H4 y z' u w' Q I4 r2 r4 q4)
def OT{op':CmpOp}{r':R2}(ho:kO X (compareOp op) r)(KK:kO X (compareOp op') r')(ha:PE X a ta)(hb:PE X b tb)(hc:PE X c tc)
  (hm:lastMarks [op,op'] [b,c]=false:=by with_unfolding_all rfl):PT X (.Compare a [op,op'] [b,c] pos)^wz^Ht r r' ta tb tc:=by
 intro X1 s U H Q I h;show isTrue_chain (cM (ha X1 s U H _ I h) λv s1 zq=>?_) hm;let#[x,H1,I1,r1,q1]:=zq;show test_link (cM (hb X1 s1 U H1 _ I1 q1) λu s2 zq=>?_);let#[y,H2,I2,r2,q2]:=zq;show cM (ho X1 s2 U H2 x y v u _ I2 r1 r2 q2) λd s3 zq=>?_;let#[z,H3,I3,r3,k,e,q3]:=zq;subst e;cases r3;show wpAny_truthy_bool ?_;cases k with
 | false =>
  let#[k',e',q']:=q3;cases e';show ite_ff #[H3,I3,q']
 | true =>
  show ite_tt^test_last (cM (hc X1 s3 U H3 _ I3 q3) λw' s4 zq=>?_);let#[z',H4,I4,r4,q4]:=zq;show cM (KK X1 s4 U H4 y z' u w' _ I4 r2 r4 q4) λd' s5 zq=>?_;let#[z2,H5,I5,r5,k2,e2,q5]:=zq;subst e2;cases r5;show wpAny_truthy_bool #[H5,I5,q5]
def UA(K:aB)(x:V)(H:Hp)(k:ci):O :=
 match x with
 | .cH=>k=bo
 | .bl b=>k=b
 | .int i=>k=(i != 0)
 | .str y=>y.length<=sizeLine/\k=((y.length:Z) != 0)
 | .JG y=>y.size<=sizeLine/\k=((y.size:Z) != 0)
 | .ref p=>(∃xs,bJ K H p xs/\k = not xs.isEmpty)\/(∃xs,eB K H p xs/\k = not xs.isEmpty)\/∃kvs,H p=!.dK kvs/\k = not kvs.isEmpty
 | _=>False
def Hu{κ:Type}{kvs:List (κ×V)}{vs:List (κ×J)}(r:KV kvs vs):(not vs.isEmpty) = not kvs.isEmpty:=by cases r<;>rfl
def yQ{XL:List J}(r:Vals xs XL):(not XL.toArray.isEmpty) = not xs.isEmpty:=by cases r<;>simp
def vq:(sizeLine:B)<2 ^ 63:=by rw[sizeLine_eq];decide
theorem aaO:ajQ X (λx H Q=>∃k,UA dq x H k/\Q k H):=by
 intro X1 s U H x v Q I rx h;let#[k,e,q]:=h;let hl:=vq;let hs:sizeLine=16777216:=sizeLine_eq;cases x with
 | cH =>
  cases rx;let e':k=false:=e;subst e';show truthy_none #[H,I,q]
 | bl b =>
  cases rx;let e':k=b:=e;subst e';show wpAny_truthy_bool #[H,I,q]
 | int i =>
  let#[t,Y]:=rx;let e':k=(i != 0):=e;subst e';show PySem.P.truthy_int #[H,I,q]
 | str y =>
  let#[t,Y]:=rx;obtain⟨hy,e'⟩:y.length<=sizeLine/\k=((y.length:Int) != 0):=e;subst e';show PySem.P.truthy_str ∅ #[H,I.tok _,q]
 | JG y =>
  let#[t,Y]:=rx;obtain⟨hy,e'⟩:y.size<=sizeLine/\k=((y.size:Int) != 0):=e;subst e';show PySem.W.truthy_bytes ∅ #[H,I.tok _,q]
 | ref p =>
  cases rx;let e':(∃xs,bJ dq H p xs/\k = not xs.isEmpty)\/(∃xs,eB dq H p xs/\k = not xs.isEmpty)\/∃kvs,H p=!.dK kvs/\k = not kvs.isEmpty:=e;rcases e' with⟨xs,hx,e'⟩|⟨xs,hx,e'⟩|⟨kvs,hx,e'⟩
  .subst e';let#[XL,r,pl,hz]:=I.list hx;let XB:=eC;show wpAny_truthy_list pl.isList (by erw[bC];lia) #[H,I.tok _,by rw[yQ r];show q]
  .subst e';let#[XL,r,pl,hz]:=I.tuple hx;let XB:=eC;show truthy_tuple pl (by erw[bC];lia) #[H,I.tok _,by rw[yQ r];show q]
  .subst e';obtain⟨hz,hS,vs,r,m⟩:kvs.length<=sizeLine/\(p==sysModules)=false/\∃vs,KV kvs vs/\s.heap.DictOf (bL X.prog X.w) p vs:=I.hok p _ hx;let XB:ce=vs.length:=kR r;show wpAny_truthy_dict hS m ∅ #[H,I.tok _,by rw[Hu r];show q]
 | _=>show(show False from e).elim
def OU(ha:PE X a ta)(he:∀whole,isTrue a bi whole=(do let v <- whole;standAt a.pos;holding [v]^truthy v)):
  PT X a (λU H Q=>ta U H λx H'=>∃k,UA dq x H' k/\Q k H'):=by intro X1 s U H Q I h;show isTrue_plain (cM (ha X1 s U H _ I h) λv s1 zq=>?_)^he _;let#[x,H1,I1,r1,q1]:=zq;show aaO X1 s1 U H1 x v Q I1 r1 q1
def Hv:kO X (binaryOp .Add) (λx y H Q=>∃i j,x=.str i/\y=.str j/\i.length+j.length<=sizeLine/\Q (.str (i++j)) H):=by intro X1 s U H x y v u Q I rx ry h;let#[i,j,Y,Y,hz,q]:=h;let#[t,Y]:=rx;let#[t',Y]:=ry;show add_str (λt' tk=>#[.str (i++j),H,I.tok _,#[_,Y],q]) hz
def vals1{x:V}(r:Vals [x] us):∃u,us=[u]/\RelV x u:=by
 cases r with
 | cons r1 r2=>cases r2;show#[_,Y,r1]
def vals2{x:V}(r:Vals [x,y] us):∃u w',us=[u,w']/\RelV x u/\RelV y w':=by
 cases r with
 | cons r1 r2 =>
  cases r2 with
  | cons r3 r4=>cases r4;show#[_,_,Y,r1,r3]
def LY:fj X (.type "int") (λxs H Q=>(∃i,xs=[.int i]/\Q (.int i) H)\/∃k,xs=[.bl k]/\Q (.int (if k then 1 else 0)) H):=by
 intro X1 s U H xs us Q I r h;rcases h with⟨i,rfl,q⟩|⟨k,rfl,q⟩
 .let#[u,Y,t,Y]:=vals1 r;show call_int_int #[.int i,H,I,#[_,Y],q]
 .let#[u,Y,r1]:=vals1 r;cases r1;show call_int_bool #[.int (if k then 1 else 0),H,I.tok _,#[_,Y],q]
end
structure Hw (h:Heap) (x dx C:Addr) (mA:Str->Option Value):Prop where
 obj:h.get? x=!PySem.W.instObj C dx
 ns:h.Ns1 dx mA
 ne:dx≠x
def LZ{mA:ax->Option J}(n:h.Ns1 dx mA):∃od,h.get? dx=!od/\∀name,PySem.W.lookIn name od=!mA name:=by
 let#[o,es,ep,ho,hd,hk,_,hm]:=n;show#[o,ho,λname=>?_];let e:=hm name;unfold nsFind findBy at e;rw[<- Array.find?_toList] at e;unfold PySem.W.lookIn;rw[hd];dsimp only;split;ext y q;rw[q] at e;show congrArg some e
 .rename_i q;rw[q] at e;let a:es.toList.any (·.refKey)=false:=by rw[List.any_eq_false];intro y hy;let#[z,t,hkey]:=hk y^Array.mem_toList_iff.mp hy;simp[DictEntry.refKey,hkey]
  let a':Not (es.toList.any (·.refKey)=am):=by rw[a];show oB
  rw[if_neg a'];show congrArg some e
def Hw.look{h:cv}{x dx C:ae}{mA:ax->Option J}(I:Hw h x dx C mA):∃od,PySem.W.InstAt h x (PySem.W.instObj C dx) C^!od/\∀name,PySem.W.lookIn name od=!(mA name) :=
 let⟨od,ho,hl⟩:=LZ I.ns
 #[od,#[I.obj,Y,Y,ho],hl]
section
variable {x f:ae}{mA:ax->Option J}{v:J}
def get_map{expr:ci}(X:K.In ap)(I:Hw ap x dx C mA)(hg:PySem.W.plainGet K C name=am)(hh:PySem.W.hasDictIn K C=am)
  (ha:PySem.W.findIn K (¬C) name=!none)(hv:mA name=!v)(hv':PySem.W.handedIn v=am)(h:Q v { s with toks:=s.toks+1 }):
  wpAny (model prog w) A (getAttr (¬x) name expr) Q E s:=by let#[od,Ya,hl]:=I.look;show PySem.W.get_value X Ya (PySem.W.plainGet_of hg).1 (PySem.W.findObj_own hh ha Y^by rw[hl,hv]) hv' h
def OV{Q:J×List J->aw->O}(X:K.In ap)(I:Hw ap x dx C mA)(hg:PySem.W.plainGet K C name=am)
  (hf:PySem.W.findIn K (¬C) name=!!.ref f)(ht:PySem.W.isFn K^.ref f=am)(hv:mA name=bc)(h:Q (¬f,[¬x]) s):
  wpAny (model prog w) A (getMethod (¬x) name pl) Q E s:=by let#[od,Ya,hl]:=I.look;show PySem.W.method_fn X Ya (PySem.W.plainGet_of hg).1 (PySem.W.plainGet_of hg).2 hf (beq_iff_eq.mp ht) (by change(PySem.W.lookIn name od).map (·.isSome)=!false;rw[hl,hv];rfl) h
theorem UB{ns:List ax}{Q:Unit->aw->O}(X:K.In ap)(I:Hw ap x dx C mA)
  (hs:PySem.W.findIn K (¬C) "__setattr__" = !!.builtin "object.__setattr__")(hp:PySem.W.plainOver K C=am)(ht:PySem.W.takerIn K C name=!none)(hh:PySem.W.hasDictIn K C=am)
  (hw:PySem.Within mA ns)(hsz:ns.length<=sizeLine)
  (h:∀h',Hw h' x dx C (λy=>if y=name then !v else mA y)->Heap.SameBut dx ap h'->Q Unit.unit { s with heap:=h',toks:=s.toks+2 }):
  wpAny (model prog w) A (setAttr (¬x) name v) Q E s:=by let#[od,Ya,hl]:=I.look;show PySem.W.set_plain X Ya hs (PySem.W.osa_open (s:={ s with toks:=s.toks+1 }) (r:=none) X Ya hp ht λb=>?_);let#[cd,hc,IN]:=PySem.W.any_some hh;let hx:s.heap.get? x=some #[¬C,!dx,.plain,#[]]:=I.obj;show av^aW^av^av^wpAny_loadPart hx^av^PySem.W.Looks.here (s:={ s with toks:=s.toks+1 }) (PySem.W.looks_clsIn X hc) ?_;rw[IN];show aW (a:=!dx)^av^aW^av ?_;show wpAny_nsSet1 (s:={ s with toks:=s.toks+1 }) I.ns λh' hn2 IH=>?_;let#[oD,esD,epD,hoD,hdD,hcD]:=hn2.count^PySem.Within.cons name v hw;show av^wpAny_lookBehind hoD (by rw[hdD];show pastItsLine_dict^aZ hcD (by rw[bW];lia)) ?_;show aW^h _ #[(IH.2 _^aM I.ne).trans I.obj,hn2,I.ne] IH
def OW{vs:List J}(X:K.In ap)(hm:PySem.W.makesIn K C=am)
  (hi:PySem.W.findIn K (¬C) "__init__" = !!.ref f)(hf:PySem.W.typeIn K^.ref f=!.type "function")
  (h:codeAny (model prog w) (A.under^.builtin "type.__call__" #[.ref C::vs,kw]) (.call (¬f) #[.ref (M+1)::vs,kw]) (PySem.W.InitBack (M+1) R)
   { s with heap:=(s.heap.push PySem.W.emptyDict).push (PySem.W.instObj C M) }):
  codeAny (model prog w) A (.call (¬C) #[vs,kw]) R s:=by let#[hh,g,d,t,os]:=s;show PySem.W.make_core (PySem.W.makes_of X hm) (PySem.W.looks_findIn X hi) (λself=>PySem.W.bind_fn X self hf) (.inl Y) h
end
def fW(f:ax)(v:V):List (ax×V)->List (ax×V)
 | []=>[(f,v)]
 | (g,x)::r=>if g=f then(g,v)::r else(g,x)::fW f v r
theorem wA(f g:ax)(v:V):∀fs:List (ax×V),(fW f v fs).lookup g=if g=f then !v else fs.lookup g
 | []=>by
  change List.lookup g [(f,v)]=_;by_cases h:g=f;let hb:(g==f)=true:=beq_iff_eq.mpr h;erw[List.lookup,hb,if_pos h];let hb:(g==f)=false:=beq_eq_false_iff_ne.mpr h;erw[List.lookup,hb,if_neg h]
 | (k,x)::r=>by let ih:=wA f g v r;rw[show fW f v ((k,x)::r)=(if k=f then(k,v)::r else(k,x)::fW f v r) from Y];by_cases hk:k=f;rw[if_pos hk];by_cases h:g=k;let hb:(g==k)=true:=beq_iff_eq.mpr h;erw[List.lookup,hb,if_pos^h.trans hk];let hb:(g==k)=false:=beq_eq_false_iff_ne.mpr h;erw[List.lookup,hb,if_neg (λe:g=f=>h^e.trans hk.symm)];rw[if_neg hk];by_cases h:g=k;let hb:(g==k)=true:=beq_iff_eq.mpr h;erw[List.lookup,hb,if_neg (λe:g=f=>hk^h.symm.trans e)];let hb:(g==k)=false:=beq_eq_false_iff_ne.mpr h;erw[List.lookup,hb];show ih
theorem vt(f:ax)(v:V):∀fs:List (ax×V),f∈(fW f v fs).map (·.1)/\∀g,g∈fs.map (·.1)->g∈(fW f v fs).map (·.1)
 | []=>#[by simp[fW],λg h=>by simp at h]
 | (k,x)::r=>by
  let#[i1,i2]:=vt f v r;rw[show fW f v ((k,x)::r)=(if k=f then(k,v)::r else(k,x)::fW f v r) from Y];by_cases hk:k=f;rw[if_pos hk];subst hk;show#[by simp,λg h=>by simpa using h]
  .rw[if_neg hk];show#[?_,λg h=>?_];rw[cu];show dz _ i1
   .rw[cu] at h ⊢;rcases aJ.mp h with e|e;show aJ.mpr^.inl e;show dz _^i2 g e
theorem wB(f:ax)(v:V):∀fs:List (ax×V),(fW f v fs).length<=fs.length+1
 | []=>by simp[fW]
 | (k,x)::r=>by let ih:=wB f v r;rw[show fW f v ((k,x)::r)=(if k=f then(k,v)::r else(k,x)::fW f v r) from Y];by_cases hk:k=f;rw[if_pos hk,bW,bW];lia;rw[if_neg hk,bW,bW];lia
def lG.some_of{o:Option J}(r:lG (!v) o):∃u,o=!u/\RelV v u:=by
 cases o with
 | none=>show(show False from r).elim
 | some u=>show#[u,Y,r]
def lG.none_of{o:Option J}(r:lG bc o):o=none:=by
 cases o with
 | none=>rfl
 | some u=>show(show False from r).elim
def L1(r:RelV v u):PySem.W.handedIn u=true:=by
 cases v with
 | cH=>cases(show u=Value.none from r);rfl
 | bl b=>cases(show u=Value.bool b from r);rfl
 | int i=>let#[t,e]:=(show ∃t,u=Value.int i t from r);cases e;rfl
 | str x=>let#[t,e]:=(show ∃t,u=Value.str x t from r);cases e;rfl
 | JG b=>let#[t,e]:=(show ∃t,u=Value.bytes b t from r);cases e;rfl
 | flt b=>let#[t,e]:=(show ∃t,u=Value.float b t from r);cases e;rfl
 | ref a=>cases(show u=Value.ref a from r);rfl
 | ty n=>cases(show u=Value.type n from r);rfl
section
variable {H H':Hp}{fs Hn:List (ax×V)}
def xX(hok:qZ P w H h)(e:H a=!.ins C dx fs):∃mA,Hw h a dx C mA/\(∀f,lG (fs.lookup f)^mA f)/\PySem.Within mA^fs.map (·.1)/\fs.length<=1000/\H dx=!.own a:=by let#[d,z,ne,ob,mA,n,r,q]:=(show dS P w H h a^.ins C dx fs from hok a _ e);show#[mA,#[ob,n,ne],r,q,z,d]
end
structure AL (K:aB) (C:Addr):Prop where
 pg:PySem.W.plainGet K C Str.empty=true
 hd:PySem.W.hasDictIn K C=true
 po:PySem.W.plainOver K C=true
 sa:PySem.W.findIn K (¬C) "__setattr__" = !!.builtin "object.__setattr__"
def AL.get(c:AL K C)(f:ax):PySem.W.plainGet K C f=true:=c.pg
def eX(K:aB)(C:ae)(f:ax):=PySem.W.findIn K (¬C) f=!none
def eX.aeA{f:ax}(n:eX K C f):PySem.W.takerIn K C f=!none:=by unfold PySem.W.takerIn;rw[show PySem.W.findIn K (¬C) f=!none from n];rfl
structure Meth (K:aB) (C:Addr) (m:Str) (f:Addr):Prop where
 at_:PySem.W.findIn K (¬C) m=!!.ref f
 fn:PySem.W.isFn K^.ref f=true
 kp:PySem.W.keepIn K^.ref f=true
section
variable {X:Cx}{U:St}{H:Hp}{fs:List (ax×V)}{f:ax}{v:V}
def yR{b:ci}(I:Inv X X1 U H s)(e:H a=!.ins C dx fs)(c:AL dq C)(n:eX dq C f)(l:fs.lookup f=!v)
  (h:∀u s',Inv X X1 U H s'->RelV v u->Q u s'):wpAny (model bj cr) A (getAttr (¬a) f b) Q E s:=by let#[mA,X2,r,_,_,_]:=xX I.hok e;let#[u,hu,ru]:=lG.some_of (v:=v) (o:=mA f) (by rw[<- l];show r f);show get_map I.sr X2 (c.get f) c.hd n hu (L1 ru)^h u _ (I.tok _) ru
def yS{g:ae}{Q:J×List J->aw->O}(I:Inv X X1 U H s)(e:H a=!.ins C dx fs)(c:AL dq C)(k:Meth dq C m g)(l:fs.lookup m=bc)
  (h:Q (¬g,[¬a]) s):wpAny (model bj cr) A (getMethod (¬a) m pl) Q E s:=by let#[mA,X2,r,_,_,_]:=xX I.hok e;let hn:mA m=none:=lG.none_of (by rw[<- l];show r m);show OV I.sr X2 (c.get m) k.at_ k.fn hn h
theorem yT{Q:Unit->aw->O}(I:Inv X X1 U H s)(e:H a=!.ins C dx fs)(c:AL dq C)(n:eX dq C f)(hl:fs.length<1000)(ry:RelV y u)
  (h:∀s',Inv X X1 U (upd H a^.ins C dx^fW f y fs) s'->Q Unit.unit s'):wpAny (model bj cr) A (setAttr (¬a) f u) Q E s:=by
 let#[mA,X2,r,wi,_,ho]:=xX I.hok e;let hz:(fs.map (·.1)).length<=sizeLine:=by rw[au,sizeLine_eq];lia
 show UB I.sr X2 c.sa c.po n.aeA c.hd wi hz λh' O' sb=>h _ ?_;let hd:∃o,h'.get? dx=!o:=let⟨o,_,_,e',_⟩:=O'.ns;#[o,e'];show I.write (x:=a) (e:=dx) (by rw[e];show gH) (.inr ho) (λb q hb z=>(sb.2 b hb).trans z) hd ?_;show#[by rw[bX X2.ne];show ho,?_,X2.ne,O'.obj,_,O'.ns,λg=>?_,λg hg=>?_];have:=wB f y fs;lia;change lG ((fW f y fs).lookup g) (if g=f then !u else mA g);rw[wA];by_cases q:g=f;rw[if_pos q,if_pos q];show ry;rw[if_neg q,if_neg q];show r g;by_cases q:g=f;rw[q];show(vt f y fs).1;show(vt f y fs).2 g (wi g λz=>hg ?_);change(if g=f then !u else mA g)=bc;rw[if_neg q];show z
def Inv.made(I:Inv X X1 U H s):Inv X X1 U (upd (upd H M^.own (M+1)) (M+1)^.ins C M [])
  { s with heap:=(s.heap.push PySem.W.emptyDict).push (PySem.W.instObj C M) }:=by
 let e1:(s.heap.push PySem.W.emptyDict).get? M=!PySem.W.emptyDict:=jH ap Y;let e2:((s.heap.push PySem.W.emptyDict).push^PySem.W.instObj C M).get? (M+1)=!PySem.W.instObj C s.heap.objs.size:=by have:=jH (s.heap.push PySem.W.emptyDict) (o:=PySem.W.instObj C M) Y;rwa [fM] at this
 let e3:(s.heap.push PySem.W.emptyDict).Ns M (λz=>none):=#[PySem.W.emptyDict,#[],_,e1,Y,(λe he=>absurd he^by simp),λz=>rfl];let I1:=I.laid (a:=M) (o:=.own (M+1)) (h':=s.heap.push PySem.W.emptyDict) (t':=s.toks) (λb u q=>eT _ q) (aq _) #[_,e1];show I1.laid (a:=M+1) (o:=.ins C M []) (t':=s.toks) (λb u q=>eT _ q) (Nat.le_of_eq^fM _ _) ?_;let ne:M≠M+1:=aU^f9 _;show#[by rw[bX ne,kr],aQ _,ne,e2,λz=>none,(Heap.Ns1.of_empty e3).at λo q=>eT _ q,λz=>gH,λy hy=>absurd Y hy]
def UC{env:Env}(hb:attributeBase e f env^eval e env=eval e env)
  (h:wpAny (model prog w) A (eval e env) (λo s₁=>wpAny (model prog w) A (getAttr o f am) Q E s₁) E s):wpAny (model prog w) A (eval (.Attribute e f pos) env) Q E s :=
 Attribute_any_ h (by rw[arm_eval_Attribute,hb])
end
def L3(K:aB)(ta:TE)(f:ax):TE:=λU H Q=>ta U H λx H1=>∃a C dx fs v,x=¬a/\H1 a=!.ins C dx fs/\AL K C/\eX K C f/\fs.lookup f=!v/\Q v H1
def aeB(K:aB)(ta tv:TE)(f:ax):TS:=λD U H=>tv U H λy H1=>ta U H1 λx H2=>∃a C dx fs,x=¬a/\H2 a=!.ins C dx fs/\AL K C/\eX K C f/\fs.length<1000 /\
 D.nx U^upd H2 a^.ins C dx^fW f y fs
def UD(X:Cx)(op:Operator)(rd:V->V->Hp->VK->O):O :=
 ∀(X1:List (ae×du))(s:aw)(U:St)(H:Hp)(x y:V)(u v:J)(Q:VK),Inv X X1 U H s->RelV x u->RelV y v->rd x y H Q->wpAny (model bj cr) X.A (inplaceOp op u v) (EP X X1 U Q) X.xe s
def JR(K:aB)(ta tv:TE)(rd:V->V->Hp->VK->O)(f:ax):TS:=λD U H=>ta U H λx H1=>∃a C dx fs v,x=¬a/\H1 a=!.ins C dx fs/\AL K C/\eX K C f/\fs.lookup f=!v /\
 tv U H1 λy H2=>rd v y H2 λz H3=>∃dx' Hn,H3 a=!.ins C dx' Hn/\Hn.length<1000/\D.nx U^upd H3 a^.ins C dx'^fW f z Hn
section
variable {X:Cx}{o:dr}{f:ax}{ta tv:TE}
def eF(he:PE X e ta)(hb:attributeBase e f bi^eval e bi=eval e bi):PE X (.Attribute e f pos)^L3 dq ta f:=by intro X1 s U H Q I h;show UC hb (cM (he X1 s U H _ I h) λu s1 zq=>?_);let#[x,H1,I1,rx,a,C,dx,fs,v,ex,ea,c,n,l,q]:=zq;subst ex;obtain rfl:u=Value.ref a:=rx;show yR I1 ea c n l λu' s2 I2 ru=>#[v,H1,I2,ru,q]
def ja(ha:PE X o ta)(hv:PE X value tv)(hs:swapsWith value (!.Attribute o f PQ) pos.line bi=pure bo):PS X (.Assign [.Attribute o f PQ] value pos)^aeB dq ta tv f:=by intro X1 s U H D I h;show plainObj_wpAny_Assign_Attribute (cM (hv X1 s U H _ I h) λu s1 zq=>?_) hs;let#[y,H1,I1,ry,q]:=zq;show cM (ha X1 s1 U H1 _ I1 q) λov s2 zq=>?_;let#[x,H2,I2,rx,a,C,dx,fs,ex,ea,c,n,l,q2]:=zq;subst ex;obtain rfl:ov=Value.ref a:=rx;show yT I2 ea c n l ry λs3 I3=>#[U,_,I3,q2]
def L4{op:Operator}{rd:V->V->Hp->VK->O}(ha:PE X o ta)(hv:PE X value tv)(hop:UD X op rd):PS X (.AugAssign (.Attribute o f tpos) op value pos)^JR dq ta tv rd f:=by intro X1 s U H D I h;show wpAny_AugAssign_AttributeAny (cM (ha X1 s U H _ I h) λov s1 zq=>?_);let#[x,H1,I1,rx,a,C,dx,fs,v,ex,ea,c,n,l,q]:=zq;subst ex;obtain rfl:ov=Value.ref a:=rx;show yR I1 ea c n l λu s2 I2 ru=>cM (hv X1 s2 U H1 _ I2 q) λw3 s3 zq=>?_;let#[y,H2,I3,ry,q3]:=zq;show cM (hop X1 s3 U H2 v y u w3 _ I3 ru ry q3) λw4 s4 zq=>?_;let#[z,H3,I4,rz,dx',Hn,ea',l',q4]:=zq;show yT I4 ea' c n l' rz λs5 I5=>#[U,_,I5,q4]
def aeC:V->V->Hp->VK->Prop:=λx y H Q=>∃i j,x=.int i/\y=.int j/\Q (.int (i+j)) H
def aeD:V->V->Hp->VK->Prop:=λx y H Q=>∃i j,x=.int i/\y=.int j/\Q (.int (i-j)) H
def aaP:UD X .Add aeC:=by rintro X1 s U H x y u v Q I rx ry ⟨i,j,rfl,rfl,q⟩;let#[t,Y]:=(show ∃t,u=Value.int i t from rx);let#[t',Y]:=(show ∃t',v=Value.int j t' from ry);show PyProof.Rows.iadd_int #[.int (i+j),H,I.tok _,#[_,Y],q]
def aaQ:UD X .Sub aeD:=by rintro X1 s U H x y u v Q I rx ry ⟨i,j,rfl,rfl,q⟩;let#[t,Y]:=(show ∃t,u=Value.int i t from rx);let#[t',Y]:=(show ∃t',v=Value.int j t' from ry);show PyProof.Rows.isub_int #[.int (i-j),H,I.tok _,#[_,Y],q]
end
section
variable {X:Cx}{U:St}{H:Hp}{Q:J->aw->O}{c:J}{b:ci}
inductive rf (K:aB) (H:Hp):V->Value->Prop where
 | cH:rf K H .cH^.type "NoneType"
 | bl (x:Bool):rf K H (.bl x)^.type "bool"
 | int (i:Int):rf K H (.int i)^.type "int"
 | str (x:Str):rf K H (.str x)^.type "str"
 | flt (x:UInt64):rf K H (.flt x)^.type "float"
 | lst {a:Addr} {xs:List V} (e:H a=!.lst xs):rf K H (¬a)^.type "list"
 | JH {a:Addr} {o:Obj} {xs:List V} (e:H a=!.JH o^.lst xs):rf K H (¬a)^.type "list"
 | tup {a:Addr} {xs:List V} (e:H a=!.tup xs):rf K H (¬a)^.type "tuple"
 | dK {a:Addr} {kvs:List (Key×V)} (e:H a=!.dK kvs):rf K H (¬a)^.type "dict"
 | dT {a:Addr} {kvs:List (List Key×V)} (e:H a=!.dT kvs):rf K H (¬a)^.type "dict"
 | ins {a C dx:Addr} {fs:List (Str×V)} (e:H a=!.ins C dx fs) (cl:AL K C) (ha:PySem.W.findIn K (¬C) "__class__" = !!.builtin "object.__class__")
   (hn:PySem.W.specialIn K (.builtin "object.__class__") "__get__" = !!.builtin "getset_descriptor.__get__") (KF:PySem.W.takesIn K^.builtin "object.__class__"=!true)
   (hm:PySem.W.mroIn K C^.type "object"=!true):rf K H (¬a)^¬C
def L5{x:V}{t:J}(I:Inv X X1 U H s)(rx:RelV x u)(ty:rf dq H x t)(e:PySem.W.kitOne dq t c=!b)(h:∀tk,Q (.bool b) { s with toks:=tk }):
  wpAny (model bj cr) A (call (.builtin "isinstance") [u,c]) Q E s:=by
 cases ty with
 | cH=>cases(show u=Value.none from rx);show g8 PySem.W.kitx_none I.sr gH e (λz=>nomatch z) h
 | bl y=>cases(show u=Value.bool y from rx);show g8 PySem.W.kitx_bool I.sr gH e (λz=>nomatch z) h
 | int i=>let#[t,q]:=(show ∃t,u=Value.int i t from rx);cases q;show g8 PySem.W.kitx_int I.sr gH e (λz=>nomatch z) h
 | str y=>let#[t,q]:=(show ∃t,u=Value.str y t from rx);cases q;show g8 PySem.W.kitx_str I.sr gH e (λz=>nomatch z) h
 | flt y=>let#[t,q]:=(show ∃t,u=Value.float y t from rx);cases q;show g8 PySem.W.kitx_float I.sr gH e (λz=>nomatch z) h
 | @lst a xs ea =>
  cases(show u=Value.ref a from rx);let#[_,_,n,_,h1]:=(show dS bj cr H ap a^.lst xs from I.hok a _ ea);show g8 PySem.W.kitx_list I.sr #[_,h1,Y] e (λz=>nomatch z) h
 | @JH a ob xs ea =>
  cases(show u=Value.ref a from rx);let#[_,_,_,n,_,h1]:=(show dS bj cr H ap a^.JH ob^.lst xs from I.hok a _ ea);show g8 PySem.W.kitx_list I.sr #[_,h1,Y] e (λz=>nomatch z) h
 | @tup a xs ea =>
  cases(show u=Value.ref a from rx);let#[_,_,_,p]:=(show dS bj cr H ap a^.tup xs from I.hok a _ ea);let#[o,h1,h2,_]:=p;show g8 PySem.W.kitx_tuple I.sr #[o,h1,h2] e (λz=>nomatch z) h
 | @dK a kvs ea =>
  cases(show u=Value.ref a from rx);let#[_,_,vs,_,p]:=(show dS bj cr H ap a^.dK kvs from I.hok a _ ea);let#[o,es,ep,h1,h2,_]:=p;show g8 PySem.W.kitx_dict I.sr #[o,h1,h2.1] e (λz=>nomatch z) h
 | @dT a kvs ea =>
  cases(show u=Value.ref a from rx);let#[_,_,xs,_,o,es,ep,h1,h2,_]:=(show dS bj cr H ap a^.dT kvs from I.hok a _ ea);show g8 PySem.W.kitx_dict I.sr #[o,h1,h2.1] e (λz=>nomatch z) h
 | @ins a C dx fs ea cl ha hn KF hm =>
  cases(show u=Value.ref a from rx);let#[mA,X2,_]:=xX I.hok ea;let#[od,Ya,_]:=X2.look;show g8 (PySem.W.kitx_own (cl.get _) cl.hd ha hn KF hm) I.sr Ya e (λz=>nomatch z) h
end
structure jb (k:Nat) (A:Around):Prop where
 hd:A.handled=none
 dp:A.depth+3*k+5<recursionLimit
 un:A.units+16*k+200<cLine
theorem jb.mono{j k:B}{A:Around}(r:jb k A)(h:j<=k):jb j A:=#[r.hd,by have:=r.dp;lia,by have:=r.un;lia]
theorem jb.deeper(r:jb (k+1) A)(env:Env):jb k (A.deeper env) :=
 #[r.hd,by have:=r.dp;change A.depth+1+3*k+5<_;lia,by have:=r.un;change A.units+3+16*k+200<_;lia]
def Hx:(A.under^.builtin "type.__call__" #[.ref C::us,kw]).depth=A.depth+1:=by
 first|rfl|simp[Around.under,Code.weight,Code.isCreation,Code.isGuard,Code.isCaller,Code.frames,Code.isFrame,guardIds]
def Hy:(A.under^.builtin "type.__call__" #[.ref C::us,kw]).units=A.units+1:=by
 first|rfl|simp[Around.under,Code.cUnits,Code.frames,Code.isFrame]
theorem jb.make(r:jb (k+1) A)(C:ae)(us:List J)(kw:List (ax×J)):jb k (A.under^.builtin "type.__call__" #[.ref C::us,kw]) :=
 #[r.hd,by have:=r.dp;rw[Hx];lia,by have:=r.un;rw[Hy];lia]
theorem jb.depth(r:jb k A):A.depth<recursionLimit:=by have:=r.dp;lia
theorem jb.units(r:jb k A):A.units+64<cLine:=by have:=r.un;lia
def En:TA:=λz H Q=>Q [] H
def Eo(ta:TE)(tr:TA):TA:=λU H Q=>ta U H λx H1=>tr U H1 λxs H2=>Q (x::xs) H2
section
variable {X:Cx}{te:TE}{t:TA}
def af:PA X [] En:=λz z z z H Q I h=>oG #[[],H,I,.nil,h]
def aa(ha:PE X e te)(hr:PA X es t)(hs:⇑(starEach (e::es) bi=(false,eval e bi)::starEach es X.env)):PA X (e::es)^Eo te t:=by intro pos X1 s U H Q I h;rw[hs];change wpAny _ _ (spliced ((false,eval e bi)::backTo pos^starEach es bi)) _ _ s;show mQ (cM (ha X1 s U H _ I h) λu s1 zq=>?_);let#[x,H1,I1,r1,q1]:=zq;show cM (hr pos X1 s1 U H1 _ I1 q1) λus s2 zq=>?_;let#[xs,H2,I2,r2,q2]:=zq;show#[x::xs,H2,I2,.cons r1 r2,q2]
def UE(t:TA):TE:=λU H Q=>t U H λxs H1=>ab<=sizeLine/\∀p,H1 p=bc->Q (¬p)^upd H1 p^.tup xs
def aeE(t:TA):TE:=λU H Q=>t U H λxs H1=>ab<=sizeLine/\∀p,H1 p=bc->Q (¬p)^upd H1 p^.lst xs
def aY{x1}(h:PA X es t):PE X (.Tuple es x1 pos)^UE t:=by intro X1 s U H Q I hq;show wpAny_Tuple_spliced (cM (h pos X1 s U H _ I hq) λus s1 zq=>?_);let#[xs,H1,I1,r,z,q]:=zq;show #[by rw[<- eC];show z,?_];let hf:H1 bv=none:=I1.hok.fresh^aq _;show#[¬bv,upd H1 bv^.tup xs,I1.laid (t':=s1.toks) (λb u e=>eT _ e) (aq _) ?_,Y,q _ hf];show#[z,us,r,#[_,jH _ rfl,Y,_,Y]]
def bQ(h:PA X es t):PE X (.List es pos)^aeE t:=by intro X1 s U H Q I hq;show wpAny_List_spliced (cM (h pos X1 s U H _ I hq) λus s1 zq=>?_);let#[xs,H1,I1,r,z,q]:=zq;show #[by rw[<- eC];show z,?_];let hf:H1 bv=none:=I1.hok.fresh^aq _;show#[¬bv,upd H1 bv^.lst xs,I1.laid (t':=s1.toks) (λb u e=>eT _ e) (aq _) ?_,Y,q _ hf];show#[z,us,0,r,jH _ rfl]
end
abbrev Sp:=List V->Hp->VK->XK->O
abbrev Oe:=List Env->Hp->aw->XK->J->aw->O
structure Hz (P:Program) (w:World) (K:aB) (mg:Str->Option Value) (base:Heap) (A:Around) (outer:List Env) (s:Shared) (H:Hp):Prop where
 frames:A.frames=!outer
 mod:Mod K mg base
 bs:∀b o,base.get? b=!o->s.heap.get? b=!o/\H b=none
 XM:base.objs.size<=s.heap.objs.size
 xE:s.heap.FunFrames base outer
 frf:∀b∈frs outer,H b=none
 hok:qZ P w H s.heap
 bare:AllBare s.gens
def CE(outer:List Env)(P:de)(w:cw)(H:Hp)(s:aw)(Q:VK)(u:J)(s':aw):O :=
 ∃v H',s'.os=s.os/\AllBare s'.gens/\Un (frs outer) [] H H' ap d6/\qZ P w H' d6/\RelV v u/\Q v H'
def CR(CX:Oe)(outer:List Env)(P:de)(w:cw)(H:Hp)(s:aw)(Q:VK)(E:XK)(r:Result)(s':aw):O :=
 match r with
 | .ok (.ret u)=>CE outer P w H s Q u s'
 | .ok _=>False
 | .error e=>CX outer H s E e s'
structure bK (P:Program) (w:World) (K:aB) (mg:Str->Option Value) (base:Heap) (CX:Oe) (k:Nat) (f:Addr) (fd:FuncData) (ps:List Str) (sp:Sp):Prop where
 len:∀vs H Q E,sp vs H Q E->vs.length=ps.length
 run:∀(A:Around)(outer:List Env)(s:Shared)(H:Hp)(args:Args)(us:List Value)(vs:List V)(Q:VK)(E:XK),jb k A->Hz P w K mg base A outer s H->BindsTo s fd args^ps.zip us->Vals vs us->sp vs H Q E ->
  codeAny (model P w) A (.call (¬f) args) (CR CX outer P w H s Q E) s
def bK.imp{f:ae}{sp sp':Sp}(F:bK P w K mg base CX k f fd ps sp)
  (h:∀vs H Q E,sp' vs H Q E->sp vs H Q E):bK P w K mg base CX k f fd ps sp' :=
 #[λvs H Q E q=>F.len vs H Q E^h _ _ _ _ q,λA outer s H args us vs Q E hr he hb hv hs=>F.run A outer s H args us vs Q E hr he hb hv^h _ _ _ _ hs]
def Hz.make{outer:List Env}(e:Hz P w K mg base A outer s H)(C:ae)(us:List J)(kw:List (ax×J)):
  Hz P w K mg base (A.under^.builtin "type.__call__" #[.ref C::us,kw]) outer s H:=#[by first|show e.frames|(simpa[Around.under,Code.envs,Code.isFrame,pushEnvs] using e.frames),e.mod,e.bs,e.XM,e.xE,e.frf,e.hok,e.bare]
section
variable {X:Cx}{U:St}{H:Hp}{s':aw}
def Inv.aeF(I:Inv X X1 U H s):Hz bj cr dq X.mg X.base X.A X.stack s H :=
 #[I.ok.frames,I.ok.mod,I.bs,aZ I.ok.XM I.sz,I.stack,I.JI,I.hok,I.bare]
def Inv.after{Q:VK}(I:Inv X X1 U H s)(h:CE X.stack bj cr H s Q u s'):EP X X1 U Q u s':=by let#[v,H',os,bare,un,hok,r,q]:=h;let#[hh,g,d,t,os']:=s';obtain rfl:os'=s.os:=os;show#[v,H',I.call (h':=hh) (g':=g) (d':=d) (t':=t) (ch:=[]) un hok bare (λb z=>absurd z^by simp),r,q]
end
def OX(sp:Sp)(AR:List V)(E:XK)(t:TA):TE:=λU H Q=>t U H λvs H1=>sp (vs++AR) H1 Q E
def Bp(C:ae)(m:ax)(sp:Sp)(AR:List V)(E:XK)(ta:TE)(t:TA):TE:=λU H Q=>ta U H λx H1=>∃a dx fs,x=¬a/\H1 a=!.ins C dx fs/\fs.lookup m=bc /\
 t U H1 λvs H2=>sp (x::(vs++AR)) H2 Q E
def XX(C:ae)(sp:Sp)(AR:List V)(E:XK)(t:TA):TE:=λU H Q=>t U H λvs H1=>∀x dx,H1 x=bc->H1 dx=bc->dx≠x ->
 sp (.ref x::(vs++AR)) (upd (upd H1 dx^.own x) x^.ins C dx []) (λv H2=>v=.cH/\Q (¬x) H2) E
def Binds(K:aB)(fd:FuncData)(ps:List ax)(ds:List J):O :=
 ∀(s:aw)(us:List J),K.In ap->(us++ds).length=cn->BindsTo s fd #[us,[]]^ps.zip (us++ds)
def Binds.all(h:∀us:List J,dC=cn->bindArgs fd #[us,[]]=pure^ps.zip us):Binds K fd ps []:=λs us z hl=>by rw[ck] at hl ⊢;show .of_eq^h us hl
def Passes(CX:Oe)(X:Cx)(E:XK):=∀(X1:List (ae×du))(U:St)(H:Hp)(s:aw)(e:J)(s':aw),Inv X X1 U H s->CX X.stack H s E e s'->X.xe e s'
section
variable {X:Cx}{CX:Oe}{f:ae}{sp:Sp}{AR:List V}{ds:List J}{E:XK}{p:Pos}{o:dr}{ta:TE}{t:TA}
def HA{U:St}{Q:VK}(F:bK bj cr dq X.mg X.base CX k f fd ps sp)(hr:jb k X.A)(hb:Binds dq fd ps ds)(hd:Vals AR ds)(hx:Passes CX X E)
  (I:Inv X X1 U H s)(r:Vals vs us)(h:sp (vs++AR) H Q E):wpAny (model bj cr) X.A (call (¬f) us) (EP X X1 U Q) X.xe s:=by
 let r2:Vals (vs++AR) (us++ds):=r.append hd;let hl:(us++ds).length=ps.length:=by rw[<- r2.length];show F.len _ _ _ _ h
 show wpAny_call (codeAny_mono (F.run X.A X.stack s H #[us,[]] (us++ds) (vs++AR) Q E hr I.aeF (hb s us I.sr hl) r2 h) λr s' hq=>?_);cases r with
 | error e=>show hx X1 U H s e s' I hq
 | ok fl =>
  cases fl with
  | ret u=>show I.after hq
  | next=>show False.elim hq
  | brk=>show False.elim hq
  | cont=>show False.elim hq
def sC(F:bK bj cr dq X.mg X.base CX k f fd ps sp)(hr:jb k X.A)(hg:Gl X x)(hm:X.mg x=!.ref f)(hk:PySem.W.keepIn dq^.ref f=am)(hb:Binds dq fd ps ds)(hd:Vals AR ds)(hx:Passes CX X E)
  (ha:PA X (e::es) t)(hdb:↥((x==("__debug__" : ax))=false))(he:⇑(starEach (e::es) bi=(false,eval e bi)::starEach es X.env))(WF:⇑((backTo pos^starEach es bi).any (·.1)=false)):
  PE X (.Call (.Name x p) (e::es) [] pos)^OX sp AR E t:=by intro X1 s U H Q I h;show wpAny_Call_Name_kw^CL I hg hm ?_ hdb;show PySem.W.callWith_K (h₀:=X.base) I.ok.mod.kin hk (cM (ha pos X1 s U H _ I h) λus s1 zq=>?_) he WF;let#[vs,H1,I1,r,q]:=zq;show#[I1.sr,?_];show HA F hr hb hd hx I1 r q
def jT(he:PE X o ta)(c:AL dq C)(hm:Meth dq C m f)(F:bK bj cr dq X.mg X.base CX k f fd ps sp)(hr:jb k X.A)(hb:Binds dq fd ps ds)(hd:Vals AR ds)(hx:Passes CX X E)(ha:PA X (e::es) t)
  (TC:⇑(starEach (e::es) bi=(false,eval e bi)::starEach es X.env))(WF:⇑((backTo pos^starEach es bi).any (·.1)=false))
  (ht:⇑(eval (.Call (.Attribute o m Tl) (e::es) [] pos) bi=(do
   let ov <- eval o bi
   standAt Tl.atName
   let(f,fi) <- holding [ov] (getMethod ov m pl)
   callWith pos f fi (backTo pos^starEach (e::es) bi)^backToKw pos^keywordEach [] bi))):
  PE X (.Call (.Attribute o m Tl) (e::es) [] pos)^Bp C m sp AR E ta t:=by intro X1 s U H Q I h;show PySem.W.methodCall_KW (pl:=pl) (cM (he X1 s U H _ I h) λu s1 zq=>?_) ht;let#[x,H1,I1,rx,a,dx,fs,ex,ea,l,q]:=zq;subst ex;obtain rfl:u=Value.ref a:=rx;show yS I1 ea c hm l ?_;show PySem.W.callWith_K (first:=[¬a]) (h₀:=X.base) I.ok.mod.kin hm.kp (cM (ha pos X1 s1 U H1 _ I1 q) λus s2 zq=>?_) TC WF;let#[vs,H2,I2,r,q2]:=zq;show#[I2.sr,?_];show HA (us:=.ref a::us) (vs:=.ref a::vs) F hr hb hd hx I2 (.cons Y r) q2
def yU(he:PE X o ta)(c:AL dq C)(hm:Meth dq C m f)(F:bK bj cr dq X.mg X.base CX k f fd ps sp)(hr:jb k X.A)(hb:Binds dq fd ps ds)(hd:Vals AR ds)(hx:Passes CX X E)
  (ht:⇑(eval (.Call (.Attribute o m Tl) [] [] pos) bi=(do
   let ov <- eval o bi
   standAt Tl.atName
   let(f,fi) <- holding [ov] (getMethod ov m pl)
   callWith pos f fi (backTo pos^starEach [] bi)^backToKw pos^keywordEach [] bi))):
  PE X (.Call (.Attribute o m Tl) [] [] pos)^Bp C m sp AR E ta En:=by intro X1 s U H Q I h;show PySem.W.methodCall_KW (pl:=pl) (cM (he X1 s U H _ I h) λu s1 zq=>?_) ht;let#[x,H1,I1,rx,a,dx,fs,ex,ea,l,q]:=zq;subst ex;obtain rfl:u=Value.ref a:=rx;show yS I1 ea c hm l ?_;show PySem.W.callWith_K0 (first:=[¬a]) I1.sr hm.kp^HA (us:=[¬a]) (vs:=[¬a]) F hr hb hd hx I1 (.cons Y .nil) q
structure Mk (K:aB) (C f:Addr):Prop where
 makes:PySem.W.makesIn K C=true
 init:PySem.W.findIn K (¬C) "__init__" = !!.ref f
 fn:PySem.W.isFn K^.ref f=true
 kp:PySem.W.keepIn K^.ref C=true
def OY{U:St}{Q:VK}(Y1:Mk dq C f)(F:bK bj cr dq X.mg X.base CX k f fd ps sp)(hr:jb (k+1) X.A)(hb:Binds dq fd ps ds)(hd:Vals AR ds)
  (hx:Passes CX X E)(I:Inv X X1 U H s)(r:Vals vs us)
  (h:∀x dx,H x=bc->H dx=bc->dx≠x->sp (.ref x::(vs++AR)) (upd (upd H dx^.own x) x^.ins C dx []) (λv H2=>v=.cH/\Q (¬x) H2) E):
  wpAny (model bj cr) X.A (call (¬C) us) (EP X X1 U Q) X.xe s:=by
 let hq:=h (M+1) M (I.hok.fresh^b9 _) (I.hok.fresh^aq _)^aU^f9 _;let I2:=Inv.made (C:=C) I;let r2:Vals (V.ref (M+1)::(vs++AR)) (Value.ref (M+1)::(us++ds)):=.cons Y^r.append hd;let hl:(Value.ref (M+1)::us++ds).length=ps.length:=by let e:=r2.length;rw[F.len _ _ _ _ hq] at e;show e.symm
 show wpAny_call (OW (f:=f) I.sr Y1.makes Y1.init (beq_iff_eq.mp Y1.fn) (codeAny_mono (F.run _ X.stack _ _ #[Value.ref (M+1)::us,[]] (Value.ref (M+1)::(us++ds)) _ _ E (hr.make C us [])
  (I2.aeF.make C us []) (hb _ (Value.ref (M+1)::us) I2.sr hl) r2 hq) λr s' FK=>?_))
 cases r with
 | error e=>show hx X1 U _ _ e s' I2 FK
 | ok fl =>
  cases fl with
  | ret u =>
   let#[v,H',I3,rv,ev,q3]:=I2.after FK;subst ev;show#[rv,#[V.ref (M+1),H',I3,Y,q3]]
  | next=>show False.elim FK
  | brk=>show False.elim FK
  | cont=>show False.elim FK
def UG(Y1:Mk dq C f)(F:bK bj cr dq X.mg X.base CX k f fd ps sp)(hr:jb (k+1) X.A)(hg:Gl X x)(hm:X.mg x=!.ref C)(hb:Binds dq fd ps ds)(hd:Vals AR ds)(hx:Passes CX X E)
  (ha:PA X (e::es) t)(hdb:↥((x==("__debug__" : ax))=false))(he:⇑(starEach (e::es) bi=(false,eval e bi)::starEach es X.env))(WF:⇑((backTo pos^starEach es bi).any (·.1)=false)):
  PE X (.Call (.Name x p) (e::es) [] pos)^XX C sp AR E t:=by intro X1 s U H Q I h;show wpAny_Call_Name_kw^CL I hg hm ?_ hdb;show PySem.W.callWith_K (h₀:=X.base) I.ok.mod.kin Y1.kp (cM (ha pos X1 s U H _ I h) λus s1 zq=>?_) he WF;let#[vs,H1,I1,r,q]:=zq;show#[I1.sr,?_];show OY Y1 F hr hb hd hx I1 r q
end
section
variable {X:Cx}{CX:Oe}{f:ae}{ks:List ax}{sp:Sp}{E:XK}{p kpos:Pos}{o:dr}{kws:List Keyword}{te ta:TE}{t tk:TA}{nm:Option ax}
variable {g:List J->List J->List J}{gV:List V->List V->List V}
end
structure aF (N P:List Str) (sc:Scope):Prop where
 kind:sc.kind=.function
 co:sc.isCoroutine=false
 gen:sc.isGenerator=false
 nd:N.Nodup
 pre:N.take P.length=P
 par:∀x∈P,sc.names.lookup x=!.local\/sc.names.lookup x=!.cell
 aaR:∀y∈sc.names,y.2≠.free
theorem Bq{kindOf:ax->Option NameKind}{x:ax}:∀{binds:List (ax×J)}{m:ax->Option J},(∀v,(x,v)∉binds)->bindL kindOf binds m x=m x
 | [],_,_=>rfl
 | (n,v)::r,m,h=>by
  unfold bindL;rw[Bq λw hw=>h w^dz _ hw];split
  .have:x≠n:=by rintro rfl;show h v iZ
   simp[this]
  .rfl
theorem Br{kindOf:ax->Option NameKind}{x:ax}:∀{binds:List (ax×J)}{m:ax->Option J},(∀v,(x,v)∉binds)->bindC kindOf binds m x=m x
 | [],_,_=>rfl
 | (n,v)::r,m,h=>by
  unfold bindC;rw[Br λw hw=>h w^dz _ hw];split;rfl
  .have:x≠n:=by rintro rfl;show h v iZ
   simp[this]
theorem Bs{kindOf:ax->Option NameKind}{x:ax}{v:J}:∀{P:List ax}{vs:List J}{i:B}{m:ax->Option J},P.Nodup->P[i]?=!x->vs[i]?=!v->kindOf x=!.local ->
  bindL kindOf (P.zip vs) m x=!v
 | [],_,_,_,_,h,_,_=>by simp at h
 | _::_,[],_,_,_,_,h,_=>by simp at h
 | p::P,w::vs,0,m,nd,h1,h2,hk=>by
  simp at h1 h2;subst h1;subst h2;change bindL kindOf ((p,w)::P.zip vs) m p=_;unfold bindL;rw[Bq λv hv=>(iG.mp nd).1 (List.of_mem_zip hv).1,if_pos hk];simp
 | p::P,w::vs,i+1,m,nd,h1,h2,hk=>by change bindL kindOf ((p,w)::P.zip vs) m x=_;unfold bindL;show Bs (i:=i) (iG.mp nd).2 (by simpa using h1) (by simpa using h2) hk
theorem Bt{kindOf:ax->Option NameKind}{x:ax}{v:J}:∀{P:List ax}{vs:List J}{i:B}{m:ax->Option J},P.Nodup->P[i]?=!x->vs[i]?=!v->kindOf x≠!.local ->
  bindC kindOf (P.zip vs) m x=!v
 | [],_,_,_,_,h,_,_=>by simp at h
 | _::_,[],_,_,_,_,h,_=>by simp at h
 | p::P,w::vs,0,m,nd,h1,h2,hk=>by
  simp at h1 h2;subst h1;subst h2;change bindC kindOf ((p,w)::P.zip vs) m p=_;unfold bindC;rw[Br λv hv=>(iG.mp nd).1 (List.of_mem_zip hv).1,if_neg hk];simp
 | p::P,w::vs,i+1,m,nd,h1,h2,hk=>by change bindC kindOf ((p,w)::P.zip vs) m x=_;unfold bindC;show Bt (i:=i) (iG.mp nd).2 (by simpa using h1) (by simpa using h2) hk
noncomputable def start(N:List ax)(vs:List V):St:=vs.map some++List.replicate (N.length-dv) bc
noncomputable def Ep(CX:Oe)(P:de)(w:cw)(K:aB)(mg:ax->Option J)(base:cv)(N:List ax)(qual:ax)(scope:Scope)(f:ae)(cd:J)(A:Around)(outer:List Env)(s:aw)(H:Hp)(E:XK):Cx where
 prog:=P
 w:=w
 K:=K
 mg:=mg
 base:=base
 A:=A.deeper (envOfC qual scope M f cd)
 N:=N
 s₀:=s
 H₀:=H
 env:=envOfC qual scope M f cd
 outer:=outer
 stack:=envOfC qual scope M f cd::outer
 ex:=[]
 calm:=true
 fn:=λz=>true
 pn:=[]
 xe:=λe s'=>wpAny (model P w) (A.deeper^envOfC qual scope M f cd) (leaving (envOfC qual scope M f cd) e) (λz s''=>CX outer H s E e s'') (λe' s''=>CX outer H s E e' s'') s'
def Er{sc:Scope}(h:sc.names.lookup x=!.cell):∃c,(cellsFrom n sc.names []).lookup x=!c:=by let q:=PySem.W.cellsFrom_some sc.names n []^.inl h;show Option.isSome_iff_exists.mp q
theorem L6{qual:ax}{f:ae}{outer:List Env}{s1:aw}{E:XK}
  (S:aF N ps scope)(hd:A.handled=bc)(e0:Hz P w K mg base A outer s H)(hl:dv=cn)(r:Vals vs us)
  (x:InCallC s M (bindL (envOfC qual scope M f cd).kindOf (ps.zip us) λj=>none) (cellsFrom (M+1) scope.names []) (bindC (envOfC qual scope M f cd).kindOf (ps.zip us) λj=>none) s1):
  Inv (Ep CX P w K mg base N qual scope f cd A outer s H E) [] (start N vs) H s1:=by
 let WF:cn<=N.length:=by have:=congrArg List.length S.pre;rw[bU] at this;lia
 let#[h1,tk,Y,hk]:=x.done;let noA:∀b:ae,b∉(Ep CX P w K mg base N qual scope f cd A outer s H E).ex:=λb z=>absurd (show b∈([]:List ae) from z) (by simp);show#[#[e0.mod,S.kind,Y,Y,aq _,λy z c h1 h2=>?_,λy hy=>?_,λy c j h=>?_,λj=>hd,Around.frames_deeper e0.frames,.inr #[Y,Y],λb z=>absurd z^noA b,e0.bs,e0.XM,λb j j=>noA b,λb z=>absurd z^noA b,e0.xE,e0.frf],
  rfl,e0.bare,Un.kept hk,#[_,x.toInCall.ns,λi y v h1 h2 h3=>?_],λy c h=>#[_,x.cell y c h],e0.hok.fresh^aq _,λy c h=>?_,λp hp=>absurd (show p∈([]:List (ae×du)) from hp)^by simp,e0.hok.kept hk,?_]
 .show name_of_addr x.apart (kU h1)^kU h2
 .have hy:scope.names.lookup y=!.cell\/scope.names.lookup y=!.free:=hy;rcases hy with hy|hy;show Er hy;show absurd Y^S.aaR _^kU hy
 .show f6^x.above y c^kU h
 .have hi:i<vs.length:=by unfold start at h2;by_cases hi:i<dv;show hi;rw[ko^by simpa using hi] at h2;rw[List.getElem?_replicate] at h2;split at h2<;>cases h2
  let ha:vs[i]?=!v:=by
   unfold start at h2;rw[lC^by simpa using hi,bB] at h2;cases e:vs[i]? with
   | none=>rw[e] at h2;cases h2
   | some a=>rw[e] at h2;cases h2;rfl
  let#[u,hu,rv]:=r.get ha;let hp:ps[i]?=!y:=by rw[<- S.pre,qV ∅];show h1
  let ndP:ps.Nodup:=by rw[<- S.pre];show S.nd.sublist^List.take_sublist _ _
  show#[u,rv,?_];rcases S.par y^ie hp with k|k;show .inl #[k,Bs ndP hp hu k]
  .let#[c,e]:=Er (n:=M+1) k;show .inr #[.inl k,c,e,?_];let q:=x.cell y c e;rw[Bt ndP hp hu (by change scope.names.lookup y≠_;rw[k];decide)] at q;show q
 .show e0.hok.fresh^f6^x.above y c^kU h
 .unfold start;change _=N.length;rw[aP,au,List.length_replicate];lia
def XY{f:ae}{qual:ax}{params:Arguments}{dV kV Sr cdv:J}
  {FX:Array^Option J}{sp:Sp}(lk:K.lookup f=some #[oc,od,.func^PySem.W.fnOf name qual params body scope dV kV Sr pm an cdv ct,FX])(FM:PySem.W.codeIn K cdv qual=am)(S:aF N ps scope)
  (len:∀vs H Q E,sp vs H Q E->dv=cn)
  (Ki:∀(A:Around)(outer:List Env)(s:aw)(H:Hp)(vs:List V)(Q:VK)(E:XK),jb k^A.deeper^envOfC qual scope M f cdv->sp vs H Q E ->
   ∃t,AK (Ep CX P w K mg base N qual scope f cdv A outer s H E) body t/\t { nx:=λz H'=>Q .cH H',rt:=Q } (start N vs) H):
  bK P w K mg base CX (k+1) f (PySem.W.fnOf name qual params body scope dV kV Sr pm an cdv ct) ps sp:=by
 show#[len,λA outer s H args us vs Q E hr e0 hb r TX=>?_];let hl:=len _ _ _ _ TX;let KX:K.In s.heap:=e0.mod.kin.keeps λb o e=>(e0.bs b o e).1;let lim:s.heap.NoLimit:=e0.mod.nolimit.keeps λb o e=>(e0.bs b o e).1;let hkind:∀y∈ps.zip us,scope.names.lookup y.1=!.local\/(scope.names.lookup y.1=!.cell/\((cellsFrom (M+1) scope.names []).lookup y.1).isSome=am):=λ⟨n,v⟩ hy=>by rcases S.par n (List.of_mem_zip hy).1 with q|q;show .inl q;show .inr #[q,PySem.W.cellsFrom_some _ _ _^.inl q]
 show codeAny_call_function hr.depth (KX _ _ lk) Y S.co S.gen rfl (PySem.W.codeRec_of KX FM)^hb _ _ _ _ ?_;show wpAny_newFunctionEnv_cells S.kind hkind λenv he s1 x=>?_;subst he;show#[lim.keeps x.toInCall.keep,codeAny_func ?_];let#[t,ht,hq]:=Ki A outer s H vs Q E (hr.deeper _) TX;let I:Inv (Ep CX P w K mg base N qual scope f cdv A outer s H E) [] (start N vs) H s1:=L6 S hr.hd e0 hl r x;show wpAny_mono (ht [] s1 (start N vs) H _ I hq) (λfl s' hs=>?_) λe s' hs=>hs;let fin:∀{U':St}{H':Hp}{v:V}{u:J},Inv (Ep CX P w K mg base N qual scope f cdv A outer s H E) [] U' H' s'->RelV v u->Q v H'->CE outer P w H s Q u s' :=
  λ{U' H' v u} Ya rv q=>#[v,H',Ya.os,Ya.bare,Ya.base,Ya.hok,rv,q]
 cases fl with
 | ret u =>
  let#[v,U',H',Ya,rv,q]:=hs;show fin Ya rv q
 | next =>
  let#[U',H',Ya,q]:=hs;show fin (v:=V.cH) (u:=Value.none) Ya Y q
 | brk =>
  let#[_,_,_,q]:=hs;show False.elim q
 | cont =>
  let#[_,_,_,q]:=hs;show False.elim q
section
variable {X:Cx}{p:Pos}{t:TA}{id:String}{r:List V->Hp->VK->O}
def tCB(r:List V->Hp->VK->O)(t:TA):TE:=λU H Q=>t U H λvs H1=>r vs H1 Q
def aT(hc:fj X (.builtin id) r)(hg:Gl X x)(hm:X.mg x=bc)(hv:bootBuiltins x=!.builtin id)(ha:PA X (e::es) t)(hn:↥(x ≠ "__name__"))(hdb:↥((x==("__debug__" : ax))=false))
  (he:⇑(starEach (e::es) bi=(false,eval e bi)::starEach es X.env))(WF:⇑((backTo pos^starEach es bi).any (·.1)=false)):PE X (.Call (.Name x p) (e::es) [] pos)^tCB r t:=by intro X1 s U H Q I h;show wpAny_Call_Name_kw^jL I hg hm hv ?_ hn hdb;show PyProof.Rows.callWith_builtin1 (cM (ha pos X1 s U H _ I h) λus s1 zq=>?_) he WF;let#[vs,H1,I1,r1,q1]:=zq;show hc X1 s1 U H1 vs us Q I1 r1 q1
def bN(hc:fj X (.type T) r)(hg:Gl X x)(hm:X.mg x=bc)(hv:bootBuiltins x=!.type T)(ha:PA X (e::es) t)(hn:↥(x ≠ "__name__"))(hdb:↥((x==("__debug__" : ax))=false))
  (he:⇑(starEach (e::es) bi=(false,eval e bi)::starEach es X.env))(WF:⇑((backTo pos^starEach es bi).any (·.1)=false)):PE X (.Call (.Name x p) (e::es) [] pos)^tCB r t:=by intro X1 s U H Q I h;show wpAny_Call_Name_kw^jL I hg hm hv ?_ hn hdb;show jS (cM (ha pos X1 s U H _ I h) λus s1 zq=>?_) he WF;let#[vs,H1,I1,r1,q1]:=zq;show hc X1 s1 U H1 vs us Q I1 r1 q1
end
end L2
variable {H H':L2.Hp}{Q rt:L2.VK}{X:L2.Cx}{g:L2.TG}{kvs:List (L2.Key×L2.V)}{r:L2.V->List L2.V->L2.Hp->L2.VK->O}{sp:L2.Sp}{ta tb tc td te to tv tx:L2.TE}{tt:L2.TT}{v y:L2.V}{xs:List L2.V}
namespace HT
open PySem PyProof.Rows
section
open PySem.SeqAt
open PySem.AutoSeq1 (wpAny_loadPart')
open PySem.MeetsSeq PySem.MeetsSeq2 PySem.MeetsSeq3
end
def UH{t:ae}{ws:List J}{Q:J->aw->O}(ht:IsTup ap t vs.toArray)(hb:IsTup ap b ws.toArray)(hv:vs≠[])
  (h1:ws=[]->Q (¬t) s)(h2:ws≠[]->Q (¬M) { s with heap:=s.heap.push { cls:=.type "tuple", data:=.seq (vs++ws).toArray } })
  (hsz:dv+ws.length<=sizeLine):wpAny (model prog w) A (binaryOp .Add (¬t)^¬b) Q E s:=by
 let#[#[cls,dd,data,sl],ho,hc,n,hd]:=id ht;let#[#[apS,dd2,data2,sl2],ho2,hc2,n2,PH]:=id hb;simp only at hc hd hc2 PH;subst hc hd hc2 PH;let e:vs.toArray++ws.toArray=(vs++ws).toArray:=by simp
 by_cases hw:ws=[]
 .show concat_meets #[_,ho,Y] #[_,ho2,Y] noFill_tuple_add seq_tuple_add PySem.F.slot_tuple_add PySem.F.entry_tuple_add (PySem.F.args_tuple_add_2 _ _)
   (tuple_addW1 t b vs.toArray ws.toArray n n2 dd dd2 sl sl2 (by simpa using hv)^by simp[hw]) #[ho,ho2,h1 hw]
 .show concat_meets #[_,ho,Y] #[_,ho2,Y] noFill_tuple_add seq_tuple_add PySem.F.slot_tuple_add PySem.F.entry_tuple_add (PySem.F.args_tuple_add_2 _ _)
   (tuple_addW2 t b vs.toArray ws.toArray n n2 dd dd2 sl sl2 (by simpa using hv) (by simpa using hw) (by rw[bC,bC];show hsz)) #[ho,ho2,?_]
  rw[e];show h2 hw
noncomputable def gz(n d:B):Option Z->B
 | none=>d
 | some v=>if v<0 then(v+(n:Z)).toNat else min v.toNat n
def Es(n d:B):gz n d bc=d:=rfl
theorem ql(n d k:B):gz n d^some (k:Z)=min k n:=by change(if(k:Z)<0 then((k:Z)+(n:Z)).toNat else min (k:Z).toNat n)=min k n;rw[if_neg ∅,iX]
theorem aaS(n d:B)(hd:d<=n)(o:Option Z):gz n d o<=n:=by
 cases o with
 | none=>show hd
 | some v =>
  change(if v<0 then(v+(n:Z)).toNat else min v.toNat n)<=n;by_cases hv:v<0;rw[if_pos hv];lia;rw[if_neg hv];show Nat.min_le_right _ _
theorem JS(v:Z)(n d:B):(if v<0 then max (v+(n:Z)) 0 else min v (n:Z))=((gz n d^!v:B):Z):=by change(if v<0 then max (v+(n:Z)) 0 else min v (n:Z))=(((if v<0 then(v+(n:Z)).toNat else min v.toNat n):B):Z);by_cases hv:v<0;erw[if_pos hv];lia;erw[if_neg hv];lia
theorem HB(lo hi:Option Z)(n:B):Builtin.Slice.sliceAdjust lo hi 1 (n:Z)=(((gz n 0 lo:B):Z),((gz n n hi:B):Z)):=by
 let h1:Not ((1:Z)<0):=∅;unfold Builtin.Slice.sliceAdjust;erw[h1,if_false];show Prod.ext ?_ ?_
 .cases lo with
  | none=>rfl
  | some v=>show JS v n 0
 .cases hi with
  | none=>rfl
  | some v=>show JS v n n
theorem HC(i j:B):Builtin.Slice.slicePlaces (i:Z) (j:Z) 1=j-i:=by unfold Builtin.Slice.slicePlaces;let h1:(1:Z)>0:=∅;erw[h1,if_true,Int.ediv_one];split<;>lia
def yV{v:J}{o:Option Z}{Q:Option Z->aw->O}(p:IsPart v o)(h:Q o s):wpAny (model prog w) A (Builtin.Slice.slicePartIndex v) Q E s:=by
 cases p with
 | none=>show slicePart_none h
 | int i t=>show slicePart_int h
def vz{sl:ae}{vl vu:J}{lo hi:Option Z}{Q:Z×Z×B->aw->O}(hs:s.heap.IsSliceOf sl vl vu .none)(pl:IsPart vl lo)(pu:IsPart vu hi)
  (h:Q (((gz n 0 lo:B):Z),1,gz n n hi-gz n 0 lo) s):wpAny (model prog w) A (Builtin.Slice.sliceApplied (¬sl)^pure (n:Z)) Q E s:=by let#[os,hos,hcs,FV]:=id hs;unfold Builtin.Slice.sliceApplied Builtin.Slice.sliceFields;show av^av^wpAny_field hos FV (x:=vl) Y^av^wpAny_field hos FV (x:=vu) Y^av^wpAny_field hos FV (x:=.none) Y^aW ?_;show av^slicePart_none ?_;change wpAny _ _ (if((1:Z)==0)=am then _ else _) _ _ s;rw[if_neg ()];show av^yV pl^av^yV pu^av^aW ?_;change wpAny _ _ (match Builtin.Slice.sliceAdjust lo hi 1 (n:Int) with|(lo,hi)=>pure (lo,(1:Int),Builtin.Slice.slicePlaces lo hi 1)) _ _ s;rw[HB lo hi n];change wpAny _ _ (pure (((gz n 0 lo:B):Z),(1:Z),Builtin.Slice.slicePlaces ((gz n 0 lo:B):Z) ((gz n n hi:B):Z) 1)) _ _ s;rw[HC];show aW h
theorem OZ(xs:Array J)(i k:B):((List.range k).filterMap λ(m:B)=>xs[((i:Z)+(m:Z)*1).toNat]?).toArray=((xs.toList.drop i).take k).toArray:=by
 let e:(λ(m:B)=>xs[((i:Z)+(m:Z)*1).toNat]?)=λm=>xs[i+m]?:=by funext m;have:((i:Z)+(m:Z)*1).toNat=i+m:=∅;rw[this]
 rw[e];have:=pick_run xs i k;rw[List.filterMap_map] at this;let e2:((λx=>xs[x]?)∘λx=>i+x)=λm=>xs[i+m]?:=rfl;rw[e2] at this;rw[this]
theorem sD{t sl:ae}{XV:Array J}{vl vu:J}{lo hi:Option Z}{Q:J->aw->O}(ht:IsTup ap t XV)(hs:s.heap.IsSliceOf sl vl vu .none)(pl:IsPart vl lo)(pu:IsPart vu hi)
  (hw:Not (gz XV.size 0 lo=0/\gz XV.size XV.size hi=XV.size))
  (h:Q (¬M) { s with heap:=s.heap.push { cls:=.type "tuple", data:=.seq ((XV.toList.drop (gz XV.size 0 lo)).take (gz XV.size XV.size hi-gz XV.size 0 lo)).toArray } })
  (hsz:XV.size<=sizeLine):wpAny (model prog w) A (getItem (¬t)^¬sl) Q E s:=by
 let JT:sizeOk^.seq ((XV.toList.drop^gz XV.size 0 lo).take (gz XV.size XV.size hi-gz XV.size 0 lo)).toArray:=by change((XV.toList.drop^gz XV.size 0 lo).take (gz XV.size XV.size hi-gz XV.size 0 lo)).toArray.size<=sizeLine;rw[bC,bU,uZ,d8];omega
 let hj:gz XV.size XV.size hi<=XV.size:=aaS _ _ (aq _) hi;let#[os,hos,hcs,FV]:=id hs;let hTs:s.TypeIs (¬sl) "slice" := #[os,hos,hcs];unfold getItem
 try with_reducible show wpAny_holding ?_
 first|show av (aW ?_)|skip
 show av^wpAny_sequenceKey ht.typeIs () ?_;show av (wpAny_callSpecial?_slot (name:=Str.ofString "__getitem__") ht.typeIs PyProof.Rows.slot_tuple_getitem
  (wpAny_call_entry PyProof.Rows.slot_tuple_getitem ht.typeIs entry_tuple_getitem ?_^args_tuple_getitem _ _))
 change wpAny _ _ (Builtin.Tuple.tupleItemsOf (¬t) >>= _) _ _ s;show av^tupleItemsOf_ ht ?_;show av^wpAny_typeOf hTs ?_;rw[if_pos ()];show av^vz hs pl pu ?_;let hno:Not (((((gz XV.size 0 lo:B):Z)==0&&(1:Z)==1&&(gz XV.size XV.size hi-gz XV.size 0 lo)==XV.size)=am)):=by intro q;rw[Bk,Bk] at q;let q1:((gz XV.size 0 lo:B):Z)=0:=eq_of_beq q.1.1;let q2:gz XV.size XV.size hi-gz XV.size 0 lo=XV.size:=eq_of_beq q.2;show hw #[by omega,by omega]
 change wpAny _ _ (if(((gz XV.size 0 lo:B):Z)==0&&(1:Z)==1&&(gz XV.size XV.size hi-gz XV.size 0 lo)==XV.size)=am then _ else _) _ _ s;rw[if_neg hno,OZ]
 first
  | show av (m:=Builtin.Tuple.tupleExact _)^wpAny_newObj_type (aW #[_,Y,aW h]) JT
  | show av (m:=Builtin.Tuple.tupleExact _)^wpAny_newObj_type (av^aW^aW #[_,Y,aW h]) JT
  | show av^av (m:=Builtin.Tuple.tupleExact _)^wpAny_newObj_type (aW^aW #[_,Y,aW h]) JT
  | show av^av (m:=Builtin.Tuple.tupleExact _)^wpAny_newObj_type (aW #[_,Y,aW h]) JT
end HT
namespace L2
variable {XL:List J}{x:V}{v:J}{o:Option V}{kvs:List (List Key×V)}{Q:J->aw->O}
abbrev TO:=St->Hp->(Option Z->Hp->O)->O
def PO(X:Cx)(e:Option dr)(t:TO):O :=
 ∀(X1:List (ae×du))(s:aw)(U:St)(H:Hp)(Q:Option Z->Hp->O),Inv X X1 U H s->t U H Q ->
  wpAny (model bj cr) X.A (evalPart e bi) (λu s'=>∃o H',Inv X X1 U H' s'/\IsPart u o/\Q o H') X.xe s
def xY:TO:=λz H Q=>Q bc H
def JU(t:TE):TO:=λU H Q=>t U H λx H1=>∃i,x=.int i/\Q (!i) H1
section
variable {lo hi:Option dr}{tl th:TO}{p2:Pos}
def gh:PO X bc xY:=by intro X1 s U H Q I h;rw[evalPart_none];show aW #[none,H,I,.none,h]
def dM(h:PE X e te):PO X (!e)^JU te:=by intro X1 s U H Q I hw;rw[evalPart_some];show cM (h X1 s U H _ I hw) λu s1 zq=>?_;let#[x,H1,I1,r1,q1]:=zq;let#[i,Y,q]:=q1;let#[t,Y]:=r1;show#[!i,H1,I1,.int i t,q]
def SlR(X:Cx)(r:V->Option Z->Option Z->Hp->VK->O):O :=
 ∀(X1:List (ae×du))(s:aw)(U:St)(H:Hp)(x:V)(v vl vu:J)(lo hi:Option Z)(sl:ae)(Q:VK),Inv X X1 U H s->RelV x v->s.heap.IsSliceOf sl vl vu .none->IsPart vl lo->IsPart vu hi->r x lo hi H Q ->
  ∃T id,typeLookup (.type T) "__getitem__" = pure^!.builtin id/\s.TypeIs v T/\wpAny (model bj cr) X.A (getItem v^¬sl) (EP X X1 U Q) X.xe s
def tSl(r:V->Option Z->Option Z->Hp->VK->O)(te:TE)(tl th:TO):TE:=λU H Q=>te U H λx H1=>tl U H1 λl H2=>th U H2 λu H3=>r x l u H3 Q
def dF{r:V->Option Z->Option Z->Hp->VK->O}(hr:SlR X r)(he:PE X e te)(hl:PO X lo tl)(hu:PO X hi th):PE X (.Subscript e (.Slice lo hi bc p2) pos)^tSl r te tl th:=by intro X1 s U H Q I h;show Subscript_ (cM (he X1 s U H _ I h) λv s1 zq=>?_);let#[x,H1,I1,r1,q1]:=zq;show wpAny_Slice (cM (hl X1 s1 U H1 _ I1 q1) λvl s2 zq=>?_);let#[l,H2,I2,pl,q2]:=zq;show cM (hu X1 s2 U H2 _ I2 q2) λvu s3 zq=>?_;let#[u,H3,I3,pu,q3]:=zq;rw[evalPart_none];show aW ?_;let I4:Inv X X1 U H3 { s3 with heap:=s3.heap.push { cls:=.type "slice", data:=.fields #v[vl,vu,.none] } }:=I3.kept (t':=s3.toks) λb ob q=>eT _ q;let#[T,id,hT,ht,hg]:=hr X1 { s3 with heap:=s3.heap.push { cls:=.type "slice", data:=.fields #v[vl,vu,.none] } } U H3 x v vl vu l u s3.heap.objs.size Q I4 r1 (Heap.IsSliceOf.new ..) pl pu q3;change wpAny (model bj cr) X.A (subscriptTail e (.Slice lo hi bc p2) v^¬s3.heap.objs.size) (EP X X1 U Q) X.xe { s3 with heap:=s3.heap.push { cls:=.type "slice", data:=.fields #v[vl,vu,.none] } };show tail_any (ops:=[¬s3.heap.objs.size,v]) ht hT hg (by with_unfolding_all rfl)
noncomputable def iI(xs:List V)(lo hi:Option Z):List V:=(xs.drop^HT.gz ab 0 lo).take (HT.gz ab ab hi-HT.gz ab 0 lo)
theorem ju(xs:List V)(lo hi:Option Z):(iI xs lo hi).length<=xs.length:=by unfold iI;rw[bU,uZ];lia
def UI(K:aB):V->Option Z->Option Z->Hp->VK->Prop:=λx lo hi H Q=>∃a xs,x=¬a/\eB K H a xs /\
 Not (HT.gz ab 0 lo=0/\HT.gz ab ab hi=ab)/\∀p,H p=bc->Q (¬p)^upd H p^.tup^iI xs lo hi
def mZ:SlR X^UI X.K:=by
 intro X1 s U H x v vl vu lo hi sl Q I rx hs pl pu h;let#[a,xs,Y,hx,hw,q]:=h;cases rx;let#[XL,r,ht,hz]:=I.tuple hx;let XB:XL.toArray.size=xs.length:=by rw[bC];show r.length.symm
 show#["tuple", _,PyProof.Rows.slot_tuple_getitem.lookup,ht.typeIs,?_];show HT.sD ht hs pl pu (by rw[XB];show hw) ?_ (by rw[XB];show hz);rw[XB];show#[¬M,_,I.laid (t':=s.toks) (o:=.tup^iI xs lo hi) (λb ob q=>eT _ q) (aq _) ?_,Y,q _^I.hok.fresh^aq _];show#[aZ (ju xs lo hi) hz,_,(r.drop^HT.gz ab 0 lo).take (HT.gz ab ab hi-HT.gz ab 0 lo),IsTup.new _ _]
def JV(K:aB):R2:=λx y H Q=>∃a b xs ys,x=¬a/\y=¬b/\eB K H a xs/\eB K H b ys/\xs≠[]/\ab+cf<=sizeLine /\
 (ys=[]->Q (¬a) H)/\(ys≠[]->∀p,H p=bc->Q (¬p)^upd H p^.tup (xs++ys))
def Vals.CP(r:Vals xs us):us=[]↔xs=[]:=by
 cases r with
 | nil=>simp
 | cons _ _=>simp
def qm:kO X (binaryOp .Add)^JV X.K:=by intro X1 s U H x y v u Q I rx ry h;let#[a,b,xs,ys,Y,Y,ha,hb,hx,hz,q1,q2]:=h;cases rx;cases ry;let#[XL,r1,p1,_]:=I.tuple ha;let#[Q1,r2,p2,_]:=I.tuple hb;show HT.UH p1 p2 (λz=>hx^r1.CP.mp z) (λz=>#[¬a,H,I,Y,q1^r2.CP.mp z]) (λz=>?_) (by rw[<- r1.length,<- r2.length];show hz);show#[¬M,_,I.laid (t':=s.toks) (o:=.tup (xs++ys)) (λb ob q=>eT _ q) (aq _) ?_,Y,q2 (λw=>z^r2.CP.mpr w) _^I.hok.fresh^aq _];show#[by rw[aP];show hz,_,r1.append r2,IsTup.new _ _]
end
noncomputable def TY(n:B)(i:Z):Option Nat:=if 0<=i then(if i<n then !i.toNat else none) else if -(n:Z)<=i then !(i+n).toNat else none
noncomputable def uU{α:Type}(xs:List α)(i:Z):Option α:=(TY ab i).bind λj=>xs[j]?
theorem JW{i:Z}(h:TY n i=!j):seqIndex? i n=!j/\j<n /\ -(n:Z)<=i/\i<n:=by unfold TY at h;by_cases h0:0<=i;rw[if_pos h0] at h;by_cases h1:i<n;rw[if_pos h1] at h;let e:i.toNat=j:=Option.some.inj h;show#[by rw[seqIndex_of h0 h1,e],∅,∅,h1];rw[if_neg h1] at h;cases h;rw[if_neg h0] at h;by_cases h1:-(n:Z)<=i;rw[if_pos h1] at h;let e:(i+n).toNat=j:=Option.some.inj h;show#[by rw[seqIndex_neg ∅ h1,e],∅,h1,∅];rw[if_neg h1] at h;cases h
def CQ{α:Type}{xs:List α}{i:Z}{v:α}(h:uU xs i=!v):∃j,seqIndex? i ab=!j/\xs[j]?=!v/\j<ab /\ -(ab:Z)<=i/\i<xs.length:=by
 unfold uU at h;cases e:TY xs.length i with
 | none=>rw[e] at h;cases h
 | some j =>
  rw[e] at h;let#[h1,h2,h3,h4]:=JW e;show#[j,h1,h,h2,h3,h4]
theorem dN{α:Type}{xs:List α}{v:α}(h:xs[j]?=!v):uU xs (j:Z)=!v:=by
 let hj:j<xs.length:=(fK h).1;let e:TY ab (j:Z)=!j:=by unfold TY;rw[if_pos ∅,if_pos ∅];simp
 unfold uU;rw[e];show h
def JX(b:dr):=∀o i,subscripted b bo o i=operate [o,i]^getItem o i
def IxR(X:Cx)(r:R2):O :=
 ∀(value slice:dr)(X1:List (ae×du))(s:aw)(U:St)(H:Hp)(x y:V)(v u:J)(Q:VK),Inv X X1 U H s->RelV x v->RelV y u->r x y H Q ->
  subscripted slice bo v u=operate [v,u]^getItem v u->wpAny (model bj cr) X.A (subscriptTail value slice v u) (EP X X1 U Q) X.xe s
def MtR(X:Cx)(id:String)(r:V->List V->Hp->VK->O):O :=
 ∀(X1:List (ae×du))(s:aw)(U:St)(H:Hp)(x:V)(xs:List V)(v:J)(us:List J)(Q:VK),Inv X X1 U H s->RelV x v->Vals xs us->r x xs H Q ->
  wpAny (model bj cr) X.A (call (.builtin id) (v::us)) (EP X X1 U Q) X.xe s
section
variable {a b:dr}
def aeH{r:R2}(hr:IxR X r)(ha:PE X a ta)(hb:PE X b tb)(hs:JX b):PE X (.Subscript a b pos)^El r ta tb:=by intro X1 s U H Q I h;show Subscript_ (aaK ha hb I h λv u s2 x y H2 I2 rx ry q=>hr a b X1 s2 U H2 x y v u Q I2 rx ry q^hs _ _)
def aaU(K:aB):R2:=λx y H Q=>∃p xs i v,x=¬p/\y=.int i/\bJ K H p xs/\uU xs i=!v/\Q v H
def O0(K:aB):R2:=λx y H Q=>∃p xs i v,x=¬p/\y=.int i/\eB K H p xs/\uU xs i=!v/\Q v H
def aeI:R2:=λx y H Q=>∃z i c,x=.str z/\y=.int i/\z.length<=sizeLine/\uU z.cps.toList i=!c/\Q (.str #[#v[c]]) H
theorem aV:IxR X^aaU X.K:=by
 intro value slice X1 s U H x y v u Q I rx ry h hs;let#[p,xs,i,z,Y,Y,hq,he,q]:=h;cases rx;let#[t,Y]:=ry;let#[XL,r,pl,hz]:=I.list hq;let#[j,h1,h2,h3,h4,h5]:=CQ he;let#[w,ew,Pm]:=r.get h2;let hl:=eC;let hn:=vq;let fin:EP X X1 U Q w s:=#[z,H,I,Pm,q];by_cases h0:0<=i
 .have hj:i.toNat=j:=by rw[seqIndex_of h0 h5] at h1;show Option.some.inj h1
  show item_listR pl.isList h0 ∅ (by rw[hj];simpa using ew) fin hs
 .have hj:(i+(XL.toArray.size:Z)).toNat=j:=by rw[seqIndex_neg ∅ h4] at h1;rw[bC,<- hl];show Option.some.inj h1
  show subscriptTail_builtinR (x:=w) pl.isList.typeIs slot_list_getitem.lookup
   (wpAny_getItem_list_neg (Q:=λr s'=>r=w/\EP X X1 U Q r s') pl.isList ∅ (by rw[bC]<;>lia) ∅ (by rw[hj];simpa using ew) #[Y,fin]) hs
theorem aA:IxR X^O0 X.K:=by
 intro value slice X1 s U H x y v u Q I rx ry h hs;let#[p,xs,i,z,Y,Y,hq,he,q]:=h;cases rx;let#[t,Y]:=ry;let#[XL,r,pl,hz]:=I.tuple hq;let#[j,h1,h2,h3,h4,h5]:=CQ he;let#[w,ew,Pm]:=r.get h2;let hl:=eC;let hn:=vq;let fin:EP X X1 U Q w s:=#[z,H,I,Pm,q];show subscriptTail_builtinR (x:=w) pl.typeIs slot_tuple_getitem.lookup
  (getItem_tuple (j:=j) (Q:=λr s'=>r=w/\EP X X1 U Q r s') pl ∅ ∅ (by rw[bC,<- hl];show h1) (by simpa using ew) #[Y,fin]) hs
theorem O1:IxR X aeI:=by
 intro value slice X1 s U H x y v u Q I rx ry h hs;let#[z,i,c,Y,Y,hz,he,q]:=h;let#[t,Y]:=rx;let#[t',Y]:=ry;let#[j,h1,h2,h3,h4,h5]:=CQ he;let hl:z.cps.toList.length=z.length:=by simp[Str.length]
 rw[hl] at h1 h4 h5;let hn:=vq;show tail_any (typeIs_str s z t) slot_str_getitem.lookup (getItem_str (c:=c) (by
  let e1:decide (i < -(2 ^ 63:Z))=false:=decide_eq_false ∅;let e2:decide (i>=2 ^ 63)=false:=decide_eq_false ∅;rw[e1,e2,Bool.or_false]) (by rw[h1];simpa using h2) #[.str #[#v[c]],H,I.tok _,#[_,Y],q]) hs
def HD(XL:List J)(n j:B)(u:J):Obj.mapSeq (·.setIfInBounds j u) { cls:=.type "list", data:=.seq XL.toArray n }={ cls:=.type "list", data:=.seq (XL.set j u).toArray n }:=by simp[Obj.mapSeq]
theorem Inv.lst{X1:List (ae×du)}{U:St}{H:Hp}{s:aw}{p:ae}{xs:List V}(I:Inv X X1 U H s)(h:H p=!.lst xs):
  ∃(XL:List J)(n:B),Vals xs XL/\s.heap.get? p=!{ cls:=.type "list", data:=.seq XL.toArray n }/\ab<=sizeLine:=by let#[z,XL,n,r,e]:=I.hok p _ h;show#[XL,n,r,e,z]
def Inv.aaV{U:St}{p:ae}{ys:List V}{its':List J}{n':B}{f:du->du}(I:Inv X X1 U H s)(h:H p=!.lst xs)
  (ho:s.heap.get? p=!{ cls:=.type "list", data:=.seq XL.toArray n })(hf:f { cls:=.type "list", data:=.seq XL.toArray n }={ cls:=.type "list", data:=.seq its'.toArray n' })(r:Vals ys its')(hz:cf<=sizeLine)(t:B):
  Inv X X1 U (upd H p^.lst ys) { s with heap:=s.heap.update p f,toks:=t }:=by
 let e:(s.heap.update p f).get? p=!{ cls:=.type "list", data:=.seq its'.toArray n' }:=by rw[fF f ho (by rw[hf]<;>rfl),hf]
 show I.write (x:=p) (e:=p) (by rw[h];trivial) (.inl Y) (λb u hb q=>(jI _ _^aM hb).trans q) #[_,e] ?_;show#[hz,its',n',r,e]
def XZ:V->V->V->Hp->(Hp->O)->Prop:=λo i v H Q=>∃p xs k j,o=¬p/\i=.int k/\H p=!.lst xs/\TY ab k=!j/\Q^upd H p^.lst^xs.set j v
theorem set_list:aer X XZ:=by
 intro X1 s U H o i v ov iv u Q I ro ri rv h;let#[p,xs,k,j,Y,Y,hp,hj,q]:=h;cases ro;let#[t,Y]:=ri;let#[XL,n,r,ho,hz]:=I.lst hp;let#[h1,h2,h3,h4]:=JW hj;let hl:=eC;let hn:=vq;let I':Inv X X1 U (upd H p^.lst^xs.set j v) { s with heap:=s.heap.update p (Obj.mapSeq (·.setIfInBounds j u)) } :=
  I.aaV hp ho (HD XL n j u) (r.set rv j) (by rw[List.length_set];show hz) s.toks
 by_cases h0:0<=k
 .have hk:k.toNat=j:=by rw[seqIndex_of h0 h4] at h1;show Option.some.inj h1
  show PySem.W.ki_setAt ho h0 ∅ (by rw[bC,<- hl];show h4) (by rw[hk];show#[_,I',q])
 .have hk:(k+(XL.toArray.size:Z)).toNat=j:=by rw[seqIndex_neg ∅ h3] at h1;rw[bC,<- hl];show Option.some.inj h1
  show PySem.W.ki_setBack ho ∅ (by rw[bC,<- hl];show h3) ∅ (by rw[hk];show#[_,I',q])
theorem CS(lo hi:Option Z)(n:B):(sliceBounds lo hi bc n).1=((HT.gz n 0 lo:B):Z)/\(sliceBounds lo hi bc n).2.1=((HT.gz n n hi:B):Z)/\(sliceBounds lo hi bc n).2.2=1:=by
 show#[?_,?_,Y]
 .cases lo with
  | none=>simp[sliceBounds,HT.gz]
  | some i =>
   erw[sliceBounds,HT.gz,Option.getD_none,show(1:Z)>0 by decide,if_true];by_cases h:i<0;erw[h,if_true]<;>lia;erw[h,if_false]<;>lia
 .cases hi with
  | none=>simp[sliceBounds,HT.gz]
  | some i =>
   erw[sliceBounds,HT.gz,Option.getD_none,show(1:Z)>0 by decide,if_true];by_cases h:i<0;erw[h,if_true]<;>lia;erw[h,if_false]<;>lia
def AS(XL:List J)(lo hi:Option Z):slicePick XL.toArray lo hi bc=((XL.drop^HT.gz XL.length 0 lo).take (HT.gz XL.length XL.length hi-HT.gz XL.length 0 lo)).toArray:=by let#[h1,h2,h3]:=CS lo hi XL.toArray.size;unfold slicePick;rw[h1,h2,h3];erw[sliceRange_one,pick_run,bC]<;>rfl
def aeJ(K:aB):V->Option Z->Option Z->Hp->VK->Prop:=λx lo hi H Q=>∃a xs,x=¬a/\bJ K H a xs/\∀p,H p=bc->Q (¬p)^upd H p^.lst^iI xs lo hi
theorem kW:SlR X^aeJ X.K:=by intro X1 s U H x v vl vu lo hi sl Q I rx hs pl pu h;let#[a,xs,Y,hx,q]:=h;cases rx;let#[XL,r,ht,hz]:=I.list hx;let XB:=eC;show#["list", _,slot_list_getitem.lookup,ht.isList.typeIs,?_];show wpAny_getItem_list_slice ht.isList hs pl pu .none (by simp) ?_ (by rw[bC]<;>lia);rw[AS,<- XB];show#[¬M,_,I.laid (t':=s.toks) (o:=.lst^iI xs lo hi) (λb ob q=>eT _ q) (aq _) ?_,Y,q _^I.hok.fresh^aq _];show#[aZ (ju xs lo hi) hz,_,0,(r.drop^HT.gz ab 0 lo).take (HT.gz ab ab hi-HT.gz ab 0 lo),jH _ rfl]
noncomputable def nT:V->ci
 | .cH=>true
 | .bl _=>true
 | .int _=>true
 | .str _=>true
 | _=>false
noncomputable def UJ:V->V->ci
 | .cH,.cH=>true
 | .bl a,.bl b=>a==b
 | .bl a,.int b=>(if a then 1 else 0)==b
 | .int a,.bl b=>a==(if b then 1 else 0)
 | .int a,.int b=>a==b
 | .str a,.str b=>a==b
 | _,_=>false
def aaW(ry:RelV y u)(rx:RelV x v)(fy:nT y=am)(fx:nT x=am):SeqAt.EqAt A s u v^UJ y x:=by
 cases y with
 | cH =>
  cases ry;cases x with
  | cH=>cases rx;show SeqAt.EqAt.same _
  | bl b=>cases rx;show SeqAt.EqAt.none_bool b
  | int b=>let#[t,Y]:=rx;show SeqAt.EqAt.none_int b t
  | str b=>let#[t,Y]:=rx;show SeqAt.EqAt.none_str b t
  | _=>show absurd (show false=am from fx) oB
 | bl a =>
  cases ry;cases x with
  | cH=>cases rx;show SeqAt.EqAt.bool_none a
  | bl b=>cases rx;show SeqAt.EqAt.bool_bool a b
  | int b=>let#[t,Y]:=rx;show SeqAt.EqAt.bool_int a b t
  | str b=>let#[t,Y]:=rx;show SeqAt.EqAt.bool_str a b t
  | _=>show absurd (show false=am from fx) oB
 | int a =>
  let#[t',Y]:=ry;cases x with
  | cH=>cases rx;show SeqAt.EqAt.int_none a t'
  | bl b=>cases rx;show SeqAt.EqAt.int_bool a t' b
  | int b=>let#[t,Y]:=rx;show SeqAt.EqAt.int_int a t' b t
  | str b=>let#[t,Y]:=rx;show SeqAt.EqAt.int_str a t' b t
  | _=>show absurd (show false=am from fx) oB
 | str a =>
  let#[t',Y]:=ry;cases x with
  | cH=>cases rx;show SeqAt.EqAt.str_none a t'
  | bl b=>cases rx;show SeqAt.EqAt.str_bool a t' b
  | int b=>let#[t,Y]:=rx;show SeqAt.EqAt.str_int a t' b t
  | str b=>let#[t,Y]:=rx;show SeqAt.EqAt.str_str a t' b t
  | _=>show absurd (show false=am from fx) oB
 | _=>show absurd (show false=am from fy) oB
noncomputable def HE(x:V)(u:J):Bool:=match u with
 | .none=>UJ .cH x
 | .bool b=>UJ (.bl b) x
 | .int i _=>UJ (.int i) x
 | .str z _=>UJ (.str z) x
 | _=>false
def O2(r:RelV y u)(f:nT y=am):HE x u=UJ y x:=by
 cases y with
 | cH=>cases r;rfl
 | bl b=>cases r;rfl
 | int i=>let#[t,Y]:=r;rfl
 | str z=>let#[t,Y]:=r;rfl
 | _=>show absurd (show false=am from f) oB
def xZ:∀{xs:List V}{us:List J},Vals xs us->xs.all nT=am->us.any^HE x=xs.any λy=>UJ y x:=by
 intro xs us h f;induction h with
 | nil=>rfl
 | cons r t ih =>
  rw[List.all_cons,Bk] at f;rw[lA,lA,O2 r f.1,ih f.2]
def sE(rx:RelV x v)(fx:nT x=am):∀{xs:List V}{us:List J},Vals xs us->xs.all nT=am->∀u∈us,SeqAt.EqAt A s u v^HE x u:=by
 intro xs us h f;induction h with
 | nil=>show λu hu=>nomatch hu
 | cons r t ih =>
  rw[List.all_cons,Bk] at f;intro u hu;rcases aJ.mp hu with rfl|hu;rw[O2 r f.1];show aaW r rx f.1 fx;show ih f.2 u hu
noncomputable def xF(x:V)(xs:List V):Bool:=xs.any λy=>UJ y x
def rIn(K:aB)(neg:ci):R2:=λx y H Q=>∃p xs,y=¬p/\(bJ K H p xs\/eB K H p xs)/\nT x=am/\xs.all nT=am/\Q (.bl (if neg then not (xF x xs) else xF x xs)) H
def dO:kO X (compareOp .In)^rIn dq false:=by
 intro X1 s U H x y v u Q I rx ry h;let#[p,xs,Y,hq,fx,fs,q]:=h;cases ry;rcases hq with hq|hq
 .let#[XL,r,pl,hz]:=I.list hq;show SeqAt.in_listAt (HE x) pl.isList (λw hw=>sE rx fx r fs w^by simpa using hw) #[.bl _,H,I,Y,?_];rw[show XL.toArray.any^HE x=XL.any (HE x) by simp,xZ r fs];show q
 .let#[XL,r,pl,hz]:=I.tuple hq;show SeqAt.in_tupleAt (HE x) pl (λw hw=>sE rx fx r fs w^by simpa using hw) #[.bl _,H,I,Y,?_];rw[show XL.toArray.any^HE x=XL.any (HE x) by simp,xZ r fs];show q
def sF:kO X (compareOp .NotIn)^rIn dq true:=by
 intro X1 s U H x y v u Q I rx ry h;let#[p,xs,Y,hq,fx,fs,q]:=h;cases ry;rcases hq with hq|hq
 .let#[XL,r,pl,hz]:=I.list hq;show SeqAt.notIn_listAt (HE x) pl.isList (λw hw=>sE rx fx r fs w^by simpa using hw) #[.bl _,H,I,Y,?_];rw[show XL.toArray.any^HE x=XL.any (HE x) by simp,xZ r fs];show q
 .let#[XL,r,pl,hz]:=I.tuple hq;show SeqAt.notIn_tupleAt (HE x) pl (λw hw=>sE rx fx r fs w^by simpa using hw) #[.bl _,H,I,Y,?_];rw[show XL.toArray.any^HE x=XL.any (HE x) by simp,xZ r fs];show q
theorem CU:fj X (.builtin "len") (λxs H Q=>∃p ys,xs=[¬p]/\(bJ dq H p ys\/eB dq H p ys)/\Q (.int cf) H):=by
 intro X1 s U H xs us Q I r h;let#[p,ys,Y,hq,q]:=h;let#[u,Y,rx]:=vals1 r;cases rx;let hn:=vq;rcases hq with hq|hq
 .let#[XL,r',pl,hz]:=I.list hq;let XB:=r'.length;show Calls.call_len_list pl.isList (by erw[bC]<;>lia) #[.int cf,H,I.tok _,#[s.toks+1,by rw[bC,XB]],q]
 .let#[XL,r',pl,hz]:=I.tuple hq;let XB:=r'.length;show len_tuple pl (by erw[bC]<;>lia) #[.int cf,H,I.tok _,#[s.toks+1,by rw[bC,XB]],q]
theorem CV:fj X (.type "list") (λxs H Q=>∃p ys,xs=[¬p]/\(bJ dq H p ys\/eB dq H p ys)/\∀l,H l=bc->Q (¬l)^upd H l^.lst ys):=by
 intro X1 s U H xs us Q I r h;let#[p,ys,Y,hq,q]:=h;let#[u,Y,rx]:=vals1 r;cases rx;let fin:∀(XL:List J),Vals ys XL->cf<=sizeLine->∀(h':cv)(c':B),(∀b o',s.heap.get? b=!o'->h'.get? b=!o') ->
   h'.get? M=!{ cls:=.type "list", dict:=none,data:=.seq XL.toArray c',slots:=#[] }->EP X X1 U Q (¬M) { s with heap:=h' }:=λXL r' hz h' c' kp e =>
  #[¬M,_,I.laid (t':=s.toks) kp (aq _)^show dS bj cr _ h' _^.lst ys from#[hz,XL,c',r',e],Y,q _^I.hok.fresh^aq _]
 rcases hq with hq|hq;let#[XL,r',pl,hz]:=I.list hq;let XB:=r'.length;let#[o,ho,hc,n,hd]:=pl.isList;show call_list_seq p (.inl Y) ho hc hd (λh' c' kp e=>fin XL r' hz h' c' kp e) (by erw[bC]<;>lia);let#[XL,r',pl,hz]:=I.tuple hq;let XB:=r'.length;let#[o,ho,hc,n,hd]:=pl;show call_list_seq p (.inr Y) ho hc hd (λh' c' kp e=>fin XL r' hz h' c' kp e) (by erw[bC]<;>lia)
theorem AU:fj X (.type "tuple") (λxs H Q=>∃p ys,xs=[¬p]/\((bJ dq H p ys/\∀l,H l=bc->Q (¬l)^upd H l^.tup ys)\/(eB dq H p ys/\Q (¬p) H))):=by
 intro X1 s U H xs us Q I r h;let#[p,ys,Y,h]:=h;let#[u,Y,rx]:=vals1 r;cases rx;rcases h with⟨hq,q⟩|⟨hq,q⟩
 .let#[XL,r',pl,hz]:=I.list hq;let XB:=r'.length;show call_tuple_list pl.isList (λh' kp=>?_) (by erw[bC]<;>lia);let I1:Inv X X1 U H { s with heap:=h' }:=I.kept (t':=s.toks) kp;let I2:Inv X X1 U (upd H dA^.tup ys) { s with heap:=h'.push { cls:=.type "tuple", data:=.seq XL.toArray } } :=
   I1.laid (t':=s.toks) (λb o e=>eT _ e) (aq _) (show dS bj cr _ _ _^.tup ys from#[hz,XL,r',IsTup.new _ _])
  show#[¬dA,_,I2,Y,q _^I1.hok.fresh^aq _]
 .let#[XL,r',pl,hz]:=I.tuple hq;show call_tuple_same pl #[¬p,H,I,Y,q]
def tyV(K:aB)(T:String)(x:V)(H:Hp):Prop:=match x with
 | .str _=>T = "str"
 | .int _=>T = "int"
 | .ref p=>(T = "list" /\ ∃xs,bJ K H p xs)\/(T = "tuple" /\ ∃o,K.lookup p=!o/\o.cls=.type "tuple" /\ o.dict=bc) \/
   (T = "dict" /\ ((∃kvs,H p=!.dK kvs)\/∃kvs,H p=!.dT kvs))\/(T = "set" /\ ∃S n,H p=!.set S n)
 | _=>False
def O3{U:St}(I:Inv X X1 U H s)(r:RelV x v)(ty:tyV dq T x H):
  s.TypeIs v T/\∀a,v=¬a->∃ob,s.heap.get? a=!ob/\ob.dict=none:=by
 cases x with
 | str z =>
  let#[t,Y]:=r;cases(show T = "str" from ty);show#[typeIs_str s z t,λq e=>nomatch e]
 | int i =>
  let#[t,Y]:=r;cases(show T = "int" from ty);show#[typeIs_int s i t,λq e=>nomatch e]
 | ref p =>
  cases r;rcases ty with⟨rfl,xs,hq⟩|⟨rfl,o,hk,hc,hd⟩|⟨rfl,hk⟩|⟨rfl,S,n,hk⟩
  .let#[XL,_,pl,_]:=I.list hq;show#[pl.isList.typeIs,λa e=>?_];cases e;let#[o,n,e,c,hd,_]:=pl;show#[o,e,hd]
  .show#[#[o,I.sr p o hk,hc],λa e=>?_];cases e;show#[o,I.sr _ o hk,hd]
  .have z:∃o,s.heap.get? p=!o/\o.ExactDict:=by rcases hk with⟨kvs,hk⟩|⟨kvs,hk⟩;let#[_,_,_,_,o,_,_,e,ex,_]:=I.hok p _ hk;show#[o,e,ex];let#[_,_,_,_,o,_,_,e,ex,_]:=I.hok p _ hk;show#[o,e,ex]
   let#[o,e,ex]:=z;show#[#[o,e,ex.1],λa e2=>?_];cases e2;show#[o,e,ex.2.1]
  .let#[o,_,_,_,e,ex,_]:=I.hok p _ hk;show#[#[o,e,ex.1],λa e2=>?_];cases e2;show#[o,e,ex.2.1]
 | _=>show False.elim ty
def aeK(K:aB)(T:String)(r:V->List V->Hp->VK->O)(to:TE):TE:=λU H Q=>to U H λx H1=>tyV K T x H1/\r x [] H1 Q
def tBM(K:aB)(T:String)(r:V->List V->Hp->VK->O)(to:TE)(t:TA):TE:=λU H Q=>to U H λx H1=>tyV K T x H1/\t U H1 λxs H2=>r x xs H2 Q
variable {o:dr}{t:TA}{id:String}
def yW(pa:PlainAttrs T)(slot:Slot T name id)(hty:typeOf^.builtin id=pure^.type "method_descriptor")(hm:MtR X id r)(ho:PE X o to)(Kb:attributeBase o name bi^eval o bi=eval o bi)(Jn:(Tl.endLine==Tx.line)=am):PE X (.Call (.Attribute o name Tl) [] [] Tx)^aeK dq T r to:=by intro X1 s U H Q I h;show wpAny_Call_method0_late Kb Jn (cM (ho X1 s U H _ I h) λv s1 zq=>?_);let#[x,H1,I1,r1,ty,q1]:=zq;let#[h1,h2]:=O3 I1 r1 ty;show#[T,id,pa,slot,hty,h1,h2,yx Y^PySem.evalArgs_none^hm X1 s1 U H1 x [] v [] Q I1 r1 .nil q1]
def fm(pa:PlainAttrs T)(slot:Slot T name id)(hty:typeOf^.builtin id=pure^.type "method_descriptor")(hm:MtR X id r)(ho:PE X o to)(ha:PA X (e::es) t)
  (Kb:⇑(attributeBase o name bi^eval o bi=eval o X.env))
  (hfew:⇑(((backTo Tx^starEach (e::es) bi).all (λx=>not x.1)&&(backToKw Tx^keywordEach [] bi).all (λx=>x.1.isSome)
   && decide ((e::es).length+([]:List Keyword).length+(if([]:List Keyword).isEmpty then 0 else 1)<30))=true))
  (Jn:⇑((Tl.endLine==Tx.line)=true))(hs:⇑(starEach (e::es) bi=(false,eval e bi)::starEach es X.env))(hplain:⇑((backTo Tx^starEach es bi).any (·.1)=false)):
  PE X (.Call (.Attribute o name Tl) (e::es) [] Tx)^tBM dq T r to t:=by intro X1 s U H Q I h;show wpAny_Call_method_late Kb hfew Jn Y (cM (ho X1 s U H _ I h) λv s1 zq=>?_);let#[x,H1,I1,r1,ty,q1]:=zq;let#[h1,h2]:=O3 I1 r1 ty;show#[T,id,pa,slot,hty,h1,h2,?_];let hA:=ha Tx X1 s1 U H1 _ I1 q1;rw[hs] at hA ⊢;show yx (by change(false||(backTo Tx^starEach es bi).any (·.1))=bo;rw[hplain]<;>rfl)^Calls.evalArgs_plain ?_;show cM hA λus s2 zq=>?_;let#[vs,H2,I2,r2,q2]:=zq;show hm X1 s2 U H2 x vs v us Q I2 r1 r2 q2
end
def MtM(X:Cx)(id:String)(r:V->List V->Hp->VK->O):O :=
 ∀(X1:List (ae×du))(s:aw)(U:St)(H:Hp)(x:V)(xs:List V)(v:J)(us:List J)(Q:VK),Inv X X1 U H s->RelV x v->Vals xs us->r x xs H Q ->
  wpAny (model bj cr) X.A (call (.builtin id) (v::us)) (EP X X1 U Q) X.xe s
theorem Vals.one(h:Vals [x] us):∃u,us=[u]/\RelV x u:=by cases h with | cons r t=>cases t;show#[_,Y,r]
theorem Vals.zero:∀{us:List J},Vals [] us->us=[]
 | _,.nil=>rfl
theorem Vals.dropLast(h:Vals xs us):Vals xs.dropLast us.dropLast:=by
 induction h with
 | nil=>show .nil
 | cons r t ih =>
  cases t with
  | nil=>show .nil
  | cons q t'=>show .cons r ih
theorem Vals.reverse(h:Vals xs us):Vals xs.reverse us.reverse:=by
 induction h with
 | nil=>show .nil
 | cons r t ih=>rw[qX,qX];show Vals.append ih^.cons r .nil
theorem HF{α:Type}(l:List α):l.eraseIdx (d4-1)=l.dropLast:=by
 induction l with
 | nil=>rfl
 | cons a r ih =>
  cases r with
  | nil=>rfl
  | cons b r =>
   let e:(a::b::r).length-1=((b::r).length-1)+1:=by let h1:(a::b::r).length=eC+2:=rfl;let h2:(b::r).length=eC+1:=rfl;lia
   rw[e,List.eraseIdx_cons_succ,ih]
   all_goals rfl
section
variable {U:St}{ys zs:List V}
def Inv.aaX{its':List J}{f:Array J->Array J}(I:Inv X X1 U H s)(hH:H l=!.lst xs)
  (e:s.heap.get? l=!{ cls:=.type "list", data:=.seq XL.toArray n })(hf:f XL.toArray=its'.toArray)(hv:Vals ys its')(hz:cf<=sizeLine):
  Inv X X1 U (upd H l^.lst ys) { s with heap:=s.heap.update l (Obj.mapSeq f),toks:=t' }:=by let q:=PySem.IsL.update e f;rw[hf] at q;show I.write (x:=l) (e:=l) (by rw[hH];show trivial) (.inl Y) (λb' u hb hu=>(jI ap (Obj.mapSeq f)^aM hb).trans hu) #[_,q] ?_;show#[hz,its',_,hv,q]
def Inv.ajU(I:Inv X X1 U H s)(hv:Vals ys XL)(hz:cf<=sizeLine):
  Inv X X1 U (upd H M^.lst ys) { s with heap:=s.heap.push { cls:=.type "list", data:=.seq XL.toArray },toks:=t' } :=
 I.laid (λz z q=>eT _ q) (aq _) #[hz,XL,0,hv,jH _ rfl]
theorem Inv.fresh(I:Inv X X1 U H s):H M=none:=I.hok.fresh^aq _
def Inv.L7(I:Inv X X1 U H s)(hH:H l=!.lst xs):ab<=sizeLine/\∃(XL:List J)(n:B),Vals xs XL/\ab=XL.length/\s.heap.get? l=!{ cls:=.type "list", data:=.seq XL.toArray n }:=by let#[z,XL,n,r,e]:=I.hok l _ hH;show#[z,XL,n,r,eC,e]
theorem O4(h:n<=sizeLine):Builtin.List.listTooLong n=false:=by unfold Builtin.List.listTooLong;show decide_eq_false ∅
end
def JY:V->List V->Hp->VK->Prop:=λx vs H Q=>∃l xs y,x=¬l/\vs=[y]/\H l=!.lst xs/\ab<sizeLine/\Q .cH^upd H l^.lst (xs++[y])
theorem bS:MtM X "list.append" JY:=by intro X1 s U H x vs v us Q I rx rv h;let#[l,xs,y,Y,Y,hH,hz,q]:=h;cases rx;let#[u,Y,ru]:=rv.one;let#[z,XL,n,r,hl,e]:=I.L7 hH;show call_meets F.slot_list_append #[_,e,Y] F.entry_list_append (F.args_list_append_2 _ _) (PySem.list_append l XL.toArray n u (by rw[bC];lia)) #[e,?_];show#[.cH,_,I.aaX (its':=XL++[u]) hH e (by simp) (r.append^.cons ru .nil) ?_,Y,q];rw[aP,jJ];lia
def JZ:V->List V->Hp->VK->Prop:=λx vs H Q=>∃l b xs zs,x=¬l/\vs=[¬b]/\H l=!.lst xs/\H b=!.lst zs/\ab+zs.length<=sizeLine/\Q .cH^upd H l^.lst (xs++zs)
theorem jc:MtM X "list.extend" JZ:=by
 intro X1 s U H x vs v us Q I rx rv h;let#[l,b,xs,zs,Y,Y,hH,hB,hz,q]:=h;cases rx;let#[u,Y,ru]:=rv.one;cases ru;let#[z,XL,n,r,hl,e]:=I.L7 hH;let#[z2,Q1,n2,r2,N0,e2]:=I.L7 hB;let hsz:XL.toArray.size+Q1.toArray.size<=sizeLine:=by rw[bC,bC];lia
 let aeL:Not ((not XL.toArray.isEmpty&&Builtin.List.listTooLong (XL.toArray.size+Q1.toArray.size))=am):=by rw[O4 hsz,Bool.and_false];show oB
 show call_meets F.slot_list_extend #[_,e,Y] F.entry_list_extend (F.args_list_extend_2 _ _)
  (AutoSeq1.list_extend_list_list_0 l XL.toArray n b Q1.toArray n2 aeL (by rw[bC];lia) ∅) #[e,e2,?_]
 show#[.cH,_,I.aaX (its':=XL++Q1) hH e (by simp) (r.append r2) ?_,Y,q];rw[aP];lia
def aeM:V->List V->Hp->VK->Prop:=λx vs H Q=>∃l xs y,x=¬l/\vs=[]/\H l=!.lst xs/\xs[ab-1]?=!y/\Q y^upd H l^.lst xs.dropLast
theorem yX:MtM X "list.pop" aeM:=by
 intro X1 s U H x vs v us Q I rx rv h;let#[l,xs,y,Y,Y,hH,hy,q]:=h;cases rx;let xH:=rv.zero;subst xH;let#[z,XL,n,r,hl,e]:=I.L7 hH;let#[u,hu,ru]:=r.get hy;let hy':XL.toArray[XL.toArray.size-1]?=!u:=by change XL.toArray[XL.length-1]?=!u;rw[<- gR,<- hl];show hu
 show call_meets F.slot_list_pop #[_,e,Y] F.entry_list_pop (F.args_list_pop_1 _) (MeetsSeq.list_pop_last l XL.toArray n u hy' (by rw[bC];lia)) #[e,?_];show#[y,_,I.aaX (its':=XL.dropLast) hH e ?_ r.dropLast ?_,ru,q];change XL.toArray.eraseIdxIfInBounds (XL.toArray.size-1)=XL.dropLast.toArray;rw[bC,List.eraseIdxIfInBounds_toArray,HF];rw[List.length_dropLast];lia
def aeN:R2:=λx y H Q=>∃l b xs zs,x=¬l/\y=¬b/\H l=!.lst xs/\H b=!.lst zs/\ab+zs.length<=sizeLine/\∀p,H p=bc->Q (¬p)^upd H p^.lst (xs++zs)
theorem yY:kO X (binaryOp .Add) aeN:=by
 intro X1 s U H x y v u Q I rx ry h;let#[l,b,xs,zs,Y,Y,hH,hB,hz,q]:=h;cases rx;cases ry;let#[z,XL,n,r,hl,e]:=I.L7 hH;let#[z2,Q1,n2,r2,N0,e2]:=I.L7 hB;show PySem.P.add_list e e2 ?_ (by rw[bC,bC];lia);let ea:XL.toArray++Q1.toArray=(XL++Q1).toArray:=by simp
 rw[ea];show#[¬_,_,I.ajU (t':=s.toks) (r.append r2) (by rw[aP];lia),Y,q _ I.fresh]
section
variable {κ:Type} [DecidableEq κ]
noncomputable def dI(kvs:List (κ×V))(k:κ):Option V:=(kvs.find? λkv=>decide (kv.1=k)).map (·.2)
noncomputable def putK(kvs:List (κ×V))(k:κ)(v:V):List (κ×V) :=
 if(kvs.any λkv=>decide (kv.1=k))=am then kvs.map (λkv=>if kv.1=k then(kv.1,v) else kv) else kvs++[(k,v)]
def gE{p:κ×V}{r:List (κ×V)}{k:κ}(e:p.1=k):dI (p::r) k=!p.2:=by simp[dI,kj,e]
def gF{p:κ×V}{r:List (κ×V)}{k:κ}(e:Not (p.1=k)):dI (p::r) k=dI r k:=by simp[dI,kj,e]
theorem kB(k:κ):∀kvs:List (κ×V),(kvs.any λkv=>decide (kv.1=k))=(dI kvs k).isSome
 | []=>rfl
 | p::r=>by rw[lA];by_cases e:p.1=k;erw[gE e,decide_eq_true e,Bool.true_or,Option.isSome_some];rw[gF e,decide_eq_false e,Bool.false_or];show kB k r
theorem Et(k j:κ)(y:V):∀kvs:List (κ×V),dI (kvs.map λkv=>if kv.1=k then(kv.1,y) else kv) j=(dI kvs j).map λx=>if j=k then y else x
 | []=>rfl
 | p::r=>by let ih:=Et k j y r;rw[cu];by_cases h:p.1=k;rw[if_pos h];by_cases e:p.1=j;rw[gE (p:=(p.1,y)) e,gE e,Option.map_some,if_pos^e.symm.trans h];rw[gF (p:=(p.1,y)) e,gF e,ih];rw[if_neg h];by_cases e:p.1=j;rw[gE (p:=p) e,gE e,Option.map_some,if_neg (λz=>h^e.trans z)];rw[gF (p:=p) e,gF e,ih]
theorem Bu(k j:κ)(y:V):∀kvs:List (κ×V),dI kvs k=bc->dI (kvs++[(k,y)]) j=if j=k then !y else dI kvs j
 | [],_=>by
  by_cases e:k=j;rw[if_pos e.symm];show gE (p:=(k,y)) e;rw[if_neg (λz=>e z.symm)];show gF (p:=(k,y)) e
 | p::r,hn=>by
  rw[ki];let hk:Not (p.1=k):=λz=>by rw[gE z] at hn;cases hn
  rw[gF hk] at hn;let ih:=Bu k j y r hn;by_cases e:p.1=j;rw[gE e,gE e,if_neg (λz=>hk^e.trans z)];rw[gF e,gF e,ih]
def lU(kvs:List (κ×V))(k j:κ)(y:V):dI (putK kvs k y) j=if j=k then !y else dI kvs j:=by
 unfold putK;by_cases a:(kvs.any λkv=>decide (kv.1=k))=am
 .rw[if_pos a,Et];rw[kB] at a;by_cases e:j=k;let#[x,hx]:=Option.isSome_iff_exists.mp a;rw[if_pos e,e,hx,Option.map_some,if_pos Y]
  .rw[if_neg e];cases dI kvs j with
   | none=>rfl
   | some x=>rw[Option.map_some,if_neg e]
 .rw[if_neg a];show Bu k j y kvs ?_;rw[kB] at a;cases q:dI kvs k with
  | none=>rfl
  | some x=>rw[q] at a;show(a Y).elim
theorem iz(kvs:List (κ×V))(k:κ)(v:V):(putK kvs k v).length<=ce+1:=by unfold putK;split;rw[au];lia;rw[aP,bW,u0];lia
def O5{kvs:List (κ×V)}{k:κ}(v:V)(h:dI kvs k=bc):putK kvs k v=kvs++[(k,v)]:=by unfold putK;rw[kB,h];show if_neg ()
def lG.j4{u:Option J}(r:lG o u):o.isSome=u.isSome:=by
 cases o with
 | none=>cases u with
  | none=>rfl
  | some _=>show(show False from r).elim
 | some _=>cases u with
  | none=>show(show False from r).elim
  | some _=>rfl
theorem lG.getD{u:Option J}{d:V}{d':J}(r:lG o u)(rd:RelV d d'):RelV (o.getD d)^u.getD d':=by
 cases o with
 | none=>cases u with
  | none=>show rd
  | some _=>show(show False from r).elim
 | some _=>cases u with
  | none=>show(show False from r).elim
  | some _=>show r
def KV.val{kvs:List (κ×V)}{vs:List (κ×J)}(r:KV kvs vs)(k:κ):lG (dI kvs k)^valueAt vs k:=by
 unfold KV at r;induction r with
 | nil=>show gH
 | @cons p q ps qs h t ih =>
  let#[h1,h2]:=h;by_cases e:p.1=k
  .have e':q.1=k:=h1.symm.trans e;let b:valueAt (q::qs) k=!q.2:=by simp[valueAt,kj,e']
   rw[gE e,b];show h2
  .have e':Not (q.1=k):=λz=>e^h1.trans z;let b:valueAt (q::qs) k=valueAt qs k:=by simp[valueAt,kj,e']
   rw[gF e,b];show ih
theorem KV.any{kvs:List (κ×V)}{vs:List (κ×J)}(r:KV kvs vs)(k:κ):(kvs.any λkv=>decide (kv.1=k))=vs.any λkv=>decide (kv.1=k):=by
 unfold KV at r;induction r with
 | nil=>rfl
 | cons h t ih=>rw[lA,lA,ih,h.1]
def KV.repl{kvs:List (κ×V)}{vs:List (κ×J)}(r:KV kvs vs)(k:κ)(ry:RelV y u):
  KV (kvs.map λkv=>if kv.1=k then(kv.1,y) else kv) (vs.map λkv=>if kv.1=k then(kv.1,u) else kv):=by
 unfold KV at r ⊢;induction r with
 | nil=>show .nil
 | @cons p q ps qs h t ih =>
  rw[cu,cu];show .cons ?_ ih;let#[h1,h2]:=h;by_cases e:p.1=k;rw[if_pos e,if_pos^h1.symm.trans e];show#[h1,ry];rw[if_neg e,if_neg (λz=>e^h1.trans z)];show#[h1,h2]
def KV.put{kvs:List (κ×V)}{vs:List (κ×J)}(r:KV kvs vs)(k:κ)(ry:RelV y u):KV (putK kvs k y)^stored vs k u:=by unfold putK stored;rw[r.any k];by_cases e:(vs.any λkv=>decide (kv.1=k))=am;rw[if_pos e,if_pos e];show r.repl k ry;rw[if_neg e,if_neg e];show dY r #[Y,ry]
theorem KV.length{kvs:List (κ×V)}{vs:List (κ×J)}(r:KV kvs vs):ce=vs.length:=kR r
end
def qG{k:Key}(r:RelV (kV k) u):(bL P w).is k u=true:=by
 cases k with
 | inl i=>let#[t,e]:=(show ∃t,u=Value.int i t from r);subst e;show Eh P w i t
 | inr x=>let#[t,e]:=(show ∃t,u=Value.str x t from r);subst e;show oQ P w x t
theorem Bv{P:de}{w:cw}:∀{ks:List Key}{us:List J},Vals (ks.map kV) us->ItemsAre (bL P w) ks us
 | [],_,r=>by rw[List.map_nil] at r;cases r;show .nil
 | k::ks,_,r=>by
  rw[cu] at r;cases r with
  | cons h t=>show .cons (qG h)^Bv t
abbrev KT(H:Hp):List (List Key×V)->List (List Key×ae×J)->Prop:=Paired λp q=>p.1=q.1/\H q.2.1=!.tup^p.1.map kV/\RelV p.2 q.2.2
def KT.val{xs:List (List Key×ae×J)}(r:KT H kvs xs)(k:List Key):lG (dI kvs k)^(atKey xs k).map (·.2):=by
 induction r with
 | nil=>show gH
 | @cons p q ps qs h t ih =>
  let#[h1,_,h2]:=h;by_cases e:p.1=k
  .have e':q.1=k:=h1.symm.trans e;let b:atKey (q::qs) k=!q.2:=by simp[atKey,kj,e']
   rw[gE e,b];show h2
  .have e':Not (q.1=k):=λz=>e^h1.trans z;let b:atKey (q::qs) k=atKey qs k:=by simp[atKey,kj,e']
   rw[gF e,b];show ih
def KT.repl{xs:List (List Key×ae×J)}(r:KT H kvs xs)(k:List Key)(ry:RelV y u):
  KT H (kvs.map λkv=>if kv.1=k then(kv.1,y) else kv)^xs.map^putAt k u:=by
 induction r with
 | nil=>show .nil
 | @cons p q ps qs h t ih =>
  rw[cu,cu];show .cons ?_ ih;let#[h1,h2,h3]:=h;unfold putAt;by_cases e:p.1=k;rw[if_pos e,if_pos^h1.symm.trans e];show#[h1,h2,ry];rw[if_neg e,if_neg (λz=>e^h1.trans z)];show#[h1,h2,h3]
def KT.put{xs:List (List Key×ae×J)}(r:KT H kvs xs)(k:List Key)(hb:H b=!.tup^k.map kV)(ry:RelV y u):
  KT H (putK kvs k y)^storedH xs k b u:=by
 let e:(kvs.any λkv=>decide (kv.1=k))=(atKey xs k).isSome:=by rw[kB,(r.val k).j4,Option.isSome_map]
 unfold putK storedH;rw[e];by_cases q:(atKey xs k).isSome=am;rw[if_pos q,if_pos q];show r.repl k ry;rw[if_neg q,if_neg q];show dY r #[Y,hb,ry]
def KT.keeps{xs:List (List Key×ae×J)}(r:KT H kvs xs)(ht:∀b ys,H b=!.tup ys->H' b=!.tup ys):KT H' kvs xs :=
 Paired.LU r λq q z=>#[z.1,ht _ _ z.2.1,z.2.2]
def X0{u:HO}(ok:qZ P w H h)(e:Rd H a u):dS P w H h a u:=e.ok ok
def wC{kvs:List (Key×V)}(ok:qZ P w H h)(e:Rd H a^.dK kvs):ce<=sizeLine/\(a==sysModules)=bo/\∃vs,KV kvs vs/\h.DictOf (bL P w) a vs :=
 show dS P w H h a^.dK kvs from X0 ok e
def X3{kvs:List (Key×V)}(ok:qZ P w H h)(e:H a=!.dK kvs):ce<=sizeLine/\(a==sysModules)=bo/\∃vs,KV kvs vs/\h.DictOf (bL P w) a vs:=wC ok^.inl e
def vA{ks:List Key}(ok:qZ P w H h)(e:H a=!.tup^ks.map kV):(tupleKind^bL P w).is h ks a:=by let#[_,XL,r,o,h1,h2,n,h3]:=(show dS P w H h a^.tup^ks.map kV from ok a _ e);show#[o,XL.toArray,n,h1,h2,h3,by simpa using Bv r]
def yZ(ok:qZ P w H h)(e:Rd H a^.dT kvs):ce<=sizeLine/\(a==sysModules)=bo /\
  ∃xs,KT H kvs xs/\h.DictOfH (tupleKind^bL P w) a xs:=by
 let#[z,y,xs,r,o,es,ep,h1,h2,h3,h4,h5]:=(show dS P w H h a^.dT kvs from X0 ok e);show#[z,y,xs,r,o,es,ep,h1,h2,h3,h4,λx hx=>?_,h5];let all:∀{l:List (List Key×V)}{m:List (List Key×ae×J)},KT H l m->∀x∈m,(tupleKind^bL P w).is h x.1 x.2.1:=by
  intro l m q;induction q with
  | nil=>intro x hx;show nomatch hx
  | @cons p q ps qs hq t ih =>
   intro x hx;rcases aJ.mp hx with e|hx
   .subst e;show vA ok (by rw[<- hq.1];show hq.2.1)
   .show ih x hx
 show all r x hx
def aeO(ok:qZ P w H h)(e:H a=!.dT kvs):ce<=sizeLine/\(a==sysModules)=bo /\
  ∃xs,KT H kvs xs/\h.DictOfH (tupleKind^bL P w) a xs:=yZ ok^.inl e
def sG(H:Hp)(a:ae)(y:V)(r:Option V):O :=
 (∃kvs k,Rd H a^.dK kvs/\y=kV k/\r=dI kvs k)\/∃kvs k b,Rd H a^.dT kvs/\y=¬b/\H b=!.tup^k.map kV/\r=dI kvs k
def L8(H:Hp)(a:ae)(y v:V)(H':Hp):O :=
 (∃kvs k,H a=!.dK kvs/\y=kV k/\ce<sizeLine/\H'=upd H a^.dK^putK kvs k v) \/
 ∃kvs k b,H a=!.dT kvs/\y=¬b/\H b=!.tup^k.map kV/\ce<sizeLine/\H'=upd H a^.dT^putK kvs k v
def L8.t{k:List Key}{v:V}(e:H a=!.dT kvs)(eb:H b=!.tup^k.map kV)(hl:ce<sizeLine):
  L8 H a (¬b) v^upd H a^.dT^putK kvs k v:=.inr #[kvs,k,b,e,Y,eb,hl,Y]
section
variable {U:St}{v:V}{r:J}{o:Option V}
def Inv.big(I:Inv X X1 U H s):sysModules<s.heap.objs.size:=by let h:mainGlobals<s.heap.objs.size:=(I.mod.glob.keeps I.bk).lt;show Nat.lt_trans () h
def Ma(hu:A.units+1<cLine)(I:Inv X X1 U H s)(g:sG H a y^!v)(ry:RelV y u)(h:∀w' s',Inv X X1 U H s'->RelV v w'->Q w' s'):
  wpAny (model bj cr) A (getItem (¬a) u) Q E s:=by rcases g with⟨kvs,k,e,ey,l⟩|⟨kvs,k,b,e,ey,eb,l⟩;subst ey;let#[z,hd,vs,WP,dd]:=wC I.hok e;let#[w',hw,Pm]:=lG.some_of (v:=v) (o:=valueAt vs k) (by rw[l];show WP.val k);show wpAny_getItem_of (qG ry) dd.mapOf hw^h w' _ (I.tok _) Pm;subst ey;cases(show u=Value.ref b from ry);let#[z,hd,xs,WP,dd]:=yZ I.hok e;let#[w',hw,Pm]:=lG.some_of (v:=v) (o:=(atKey xs k).map (·.2)) (by rw[l];show WP.val k);let#[p,hp,FC]:=cL.mp hw;show wpAny_getItem_heap (tupleKind_room_in1 hu) (vA I.hok eb) dd hp ?_;rw[FC];show h w' _ (I.tok _) Pm
def ajV(hu:A.units+1<cLine)(I:Inv X X1 U H s)(g:sG H a y o)(ry:RelV y u)(h:∀s',Inv X X1 U H s'->Q (.bool o.isSome) s'):
  wpAny (model bj cr) A (compareOp .In u^¬a) Q E s:=by rcases g with⟨kvs,k,e,ey,l⟩|⟨kvs,k,b,e,ey,eb,l⟩;subst ey;let#[z,hd,vs,WP,dd]:=wC I.hok e;show wpAny_in_of (qG ry) hd dd.mapOf ?_;rw[<- (WP.val k).j4,<- l];show h _^I.tok _;subst ey;cases(show u=Value.ref b from ry);let#[z,hd,xs,WP,dd]:=yZ I.hok e;show wpAny_in_heap (tupleKind_room_in1 hu) (vA I.hok eb) hd dd ?_;let q:=(WP.val k).j4;rw[Option.isSome_map] at q;rw[<- q,<- l];show h _^I.tok _
def UK(hu:A.units+1<cLine)(I:Inv X X1 U H s)(g:sG H a y o)(ry:RelV y u)(h:∀s',Inv X X1 U H s'->Q (.bool (not o.isSome)) s'):
  wpAny (model bj cr) A (compareOp .NotIn u^¬a) Q E s:=by rcases g with⟨kvs,k,e,ey,l⟩|⟨kvs,k,b,e,ey,eb,l⟩;subst ey;let#[z,hd,vs,WP,dd]:=wC I.hok e;show wpAny_notIn_of (qG ry) hd dd.mapOf ?_;rw[<- (WP.val k).j4,<- l];show h _^I.tok _;subst ey;cases(show u=Value.ref b from ry);let#[z,hd,xs,WP,dd]:=yZ I.hok e;show wpAny_notIn_heap (tupleKind_room_in1 hu) (vA I.hok eb) hd dd ?_;let q:=(WP.val k).j4;rw[Option.isSome_map] at q;rw[<- q,<- l];show h _^I.tok _
def CW{ob:HO}(I:Inv X X1 U H s)(mu:Mut^H a)(hs:Heap.SameBut a ap h')(he:∃q,h'.get? a=!q)(new:dS bj cr (upd H a ob) h' a ob):
  Inv X X1 U (upd H a ob) { s with heap:=h',toks:=t' } :=
 I.write (x:=a) (e:=a) mu (.inl Y) (λb q hb z=>(hs.2 b hb).trans z) he new
def aaY{kvs:List (Key×V)}{vs:List (Key×J)}(z:ce<=sizeLine)(hd:(a==sysModules)=bo)(WP:KV kvs vs)(dd:h'.DictOf (bL P w) a vs):
  dS P w H' h' a^.dK kvs:=#[z,hd,vs,WP,dd]
theorem Mb{Q:Unit->aw->O}(hu:A.units+1<cLine)(I:Inv X X1 U H s)(g:L8 H a y v H')(ry:RelV y u)(rv:RelV v r)(h:∀s',Inv X X1 U H' s'->Q Unit.unit s'):
  wpAny (model bj cr) A (setItem (¬a) u r) Q E s:=by
 rcases g with⟨kvs,k,e,ey,l,eH⟩|⟨kvs,k,b,e,ey,eb,l,eH⟩
 .subst ey eH;let#[z,hd,vs,WP,dd]:=X3 I.hok e;let hz:dv<=sizeLine:=by rw[<- WP.length];show z
  let hl:(putK kvs k v).length<=sizeLine:=by have:=iz kvs k v;lia
  show wpAny_setItem_pairs (hsz:=hz) (qG ry) dd λh' dd' hs=>h _ ?_;let he:∃q,h'.get? a=!q:=let⟨q,_,_,hq,_⟩:=dd';#[q,hq];show CW I (by rw[e];show gH) hs he^aaY hl hd (WP.put k rv) dd'
 .subst ey eH;cases(show u=Value.ref b from ry);let#[z,hd,xs,WP,dd]:=aeO I.hok e;let hz:ab<=sizeLine:=by rw[<- kR WP];show z
  let hl:(putK kvs k v).length<=sizeLine:=by have:=iz kvs k v;lia
  show wpAny_setItem_heap (hsz:=hz) (tupleKind_room_in1 hu) (vA I.hok eb) dd λh' dd' hs=>h _ ?_;let#[q,es,ep,hq,h2,h3,h4,_,h5]:=dd';show CW I (by rw[e];show gH) hs #[q,hq] #[hl,hd,_,(WP.put k eb rv).keeps λc ys ec=>?_,q,es,ep,hq,h2,h3,h4,h5];rw[bX^cB ec e (λz=>nomatch z)];show ec
end
section
variable {U:St}{kvs:List (Key×V)}{k:Key}
theorem aeP(I:Inv X X1 U H s)(e:Rd H a^.dK kvs)(h:∀t s',Inv X X1 U H s'->Q (.int ce t) s'):wpAny (model bj cr) A (call (.builtin "len") [¬a]) Q E s:=by let#[z,hd,vs,WP,dd]:=wC I.hok e;show call_len_dict hd dd (by rw[<- WP.length];rw[sizeLine_eq] at z;lia) ?_;rw[<- WP.length];show h _ _^I.tok _
end
def O6(i:dr):=∀ov iv,subscripted i bo ov iv=operate [ov,iv]^getItem ov iv
def CY{env:Env}{slice:dr}{id:String}
  (hl:typeLookup (.type T) "__getitem__" = pure^!.builtin id)(hs:O6 slice)
  (h:wpAny (model prog w) A (eval value env) (λo s₁=>wpAny (model prog w) A (eval slice env) (λi s₂=>s₂.TypeIs o T/\wpAny (model prog w) A (getItem o i) Q E s₂) E s₁) E s):
  wpAny (model prog w) A (eval (.Subscript value slice pos) env) Q E s:=by
 show Subscript_ (wpAny_mono h (λo s₁ h₁=>wpAny_mono h₁ (λi s₂ h₂=>?_) λz z x=>x) λz z x=>x);let#[hT,h₂]:=h₂;unfold subscriptTail;show av ?_;rw[getitemInPython_of_ne hT.not_modules];show av^wpAny_specialOf hT hl ?_;let fin:wpAny (model prog w) A (subscripted slice bo o i) (λr s₃=>wpAny (model prog w) A (letTemporaryGo value o r >>= λz=>pure r) Q E s₃) E s₂:=by rw[hs o i];show wpAny_operating (wpAny_mono h₂ (λr s₃ h₃=>av^wpAny_letTemporaryGo^aW h₃) λz z x=>x)
 first
  | show aW^av fin
  | show av^aW^av fin
  | show av fin
def Eu{U:St}(I:Inv X X1 U H s)(g:sG H a y o):s.TypeIs (¬a) "dict" := by rcases g with⟨kvs,k,e,_,_⟩|⟨kvs,k,b,e,_,_,_⟩;let#[_,_,vs,_,dd]:=wC I.hok e;show dd.typeIs;let#[_,_,xs,_,dd]:=yZ I.hok e;show dd.typeIs
def O7(td ty:TE):TE:=λU H Q=>td U H λx H1=>ty U H1 λy H2=>∃a v,x=¬a/\sG H2 a y^!v/\Q v H2
def aaZ(ty td:TE):TE:=λU H Q=>ty U H λy H1=>td U H1 λx H2=>∃a o,x=¬a/\sG H2 a y o/\Q (.bl o.isSome) H2
def J0(ty td:TE):TE:=λU H Q=>ty U H λy H1=>td U H1 λx H2=>∃a o,x=¬a/\sG H2 a y o/\Q (.bl (not o.isSome)) H2
def X4(td ty tv:TE):TS:=λD U H=>tv U H λv H1=>td U H1 λx H2=>ty U H2 λy H3=>∃a H4,x=¬a/\L8 H3 a y v H4/\D.nx U H4
section
variable {o i:dr}{ty:TE}
def iJ(hu:X.A.units+1<cLine)(ho:PE X o td)(hi:PE X i ty)(hs:O6 i):PE X (.Subscript o i pos)^O7 td ty:=by intro X1 s U H Q I h;show CY PySem.F.slot_dict_getitem.lookup hs (cM (ho X1 s U H _ I h) λu s1 zq=>?_);let#[x,H1,I1,rx,q1]:=zq;show cM (hi X1 s1 U H1 _ I1 q1) λiv s2 zq=>?_;let#[y,H2,I2,ry,a,v,ex,g,q2]:=zq;subst ex;obtain rfl:u=Value.ref a:=rx;show#[Eu I2 g,Ma hu I2 g ry λw' s3 I3 Pm=>#[v,H2,I3,Pm,q2]]
def HG(hu:X.A.units+1<cLine)(hi:PE X i ty)(ho:PE X o td):PC X .In i o^aaZ ty td:=by intro X1 s U H Q I h;show cM (hi X1 s U H _ I h) λiv s1 zq=>?_;let#[y,H1,I1,ry,q1]:=zq;show cM (ho X1 s1 U H1 _ I1 q1) λu s2 zq=>?_;let#[x,H2,I2,rx,a,ov,ex,g,q2]:=zq;subst ex;obtain rfl:u=Value.ref a:=rx;show ajV hu I2 g ry λs3 I3=>#[.bl ov.isSome,H2,I3,Y,q2]
def Mc(hu:X.A.units+1<cLine)(hi:PE X i ty)(ho:PE X o td):PC X .NotIn i o^J0 ty td:=by intro X1 s U H Q I h;show cM (hi X1 s U H _ I h) λiv s1 zq=>?_;let#[y,H1,I1,ry,q1]:=zq;show cM (ho X1 s1 U H1 _ I1 q1) λu s2 zq=>?_;let#[x,H2,I2,rx,a,ov,ex,g,q2]:=zq;subst ex;obtain rfl:u=Value.ref a:=rx;show UK hu I2 g ry λs3 I3=>#[.bl (not ov.isSome),H2,I3,Y,q2]
def jU(hu:X.A.units+1<cLine)(ho:PE X o td)(hi:PE X i ty)(hv:PE X value tv)(hs:swapsWith value (!.Subscript o i PQ) pos.line bi=pure bo):
  PS X (.Assign [.Subscript o i PQ] value pos)^X4 td ty tv:=by intro X1 s U H D I h;show wpAny_Assign_Subscript (cM (hv X1 s U H _ I h) λr s1 zq=>?_) hs;let#[v,H1,I1,rv,q1]:=zq;show cM (ho X1 s1 U H1 _ I1 q1) λu s2 zq=>?_;let#[x,H2,I2,rx,q2]:=zq;show cM (hi X1 s2 U H2 _ I2 q2) λiv s3 zq=>?_;let#[y,H3,I3,ry,a,H4,ex,g,q3]:=zq;subst ex;obtain rfl:u=Value.ref a:=rx;show Mb hu I3 g ry rv λs4 I4=>#[U,H4,I4,q3]
end
def O8(h:cv)(hb:sysModules<dE):dS P w H (h.push { cls:=.type "dict", data:=.dict #[] }) dE (.dK []) :=
 #[aQ _,beq_eq_false_iff_ne.mpr^aM^aU hb,[],.nil,Heap.DictOf.new h]
def O9(h:cv)(hb:sysModules<dE):dS P w H (h.push { cls:=.type "dict", data:=.dict #[] }) dE (.dT []) :=
 #[aQ _,beq_eq_false_iff_ne.mpr^aM^aU hb,[],.nil,_,#[],0,jH _ rfl,#[Y,Y,Y],Y,Y,mT]
def Pa:TE:=λz H Q=>∀p,H p=bc->Q (¬p)^upd H p^.dK []
def Pb:TE:=λz H Q=>∀p,H p=bc->Q (¬p)^upd H p^.dT []
def sI:PE X (.Dict [] [] pos) Pa:=λX1 s U H Q I h =>
 wpAny_Dict_empty #[¬M,_,I.laid (a:=M) (o:=.dK []) (t':=s.toks) (λz z q=>eT _ q) (aq _)^O8 ap I.big,Y,h _^I.hok.fresh^aq _]
def Pc:PE X (.Dict [] [] pos) Pb:=λX1 s U H Q I h =>
 wpAny_Dict_empty #[¬M,_,I.laid (a:=M) (o:=.dT []) (t':=s.toks) (λz z q=>eT _ q) (aq _)^O9 ap I.big,Y,h _^I.hok.fresh^aq _]
structure M2 (X:Cx) (o:Expr) (m:Str) (Tl:Pos) (e f:Expr) (Tx:Pos):Prop where
 base:attributeBase o m X.env^eval o X.env=eval o X.env
 few:((backTo Tx^starEach [e,f] X.env).all (λx=>not x.1)&&(backToKw Tx^keywordEach [] X.env).all (λx=>x.1.isSome)
  && decide (([e,f]:List Expr).length+([]:List Keyword).length+(if([]:List Keyword).isEmpty then 0 else 1)<30))=true
 line:(Tl.endLine==Tx.line)=true
 trees:backTo Tx^starEach [e,f] X.env=[(false,eval e X.env),(false,eval f X.env)]
def IsD(H:Hp)(a:ae):=(∃kvs,Rd H a^.dK kvs)\/∃kvs,Rd H a^.dT kvs
def aa0{U:St}(I:Inv X X1 U H s)(d:IsD H a):
  s.TypeIs (¬a) "dict" /\ (∀b,Value.ref a=¬b->∃ob,s.heap.get? b=!ob/\ob.dict=bc)/\(a==sysModules)=false:=by rcases d with⟨kvs,e⟩|⟨kvs,e⟩;let#[_,hd,vs,_,dd]:=wC I.hok e;show#[dd.typeIs,λb q=>?_,hd];cases q;let#[ob,_,_,h1,h2,_]:=dd;show#[ob,h1,h2.2.1];let#[_,hd,xs,_,dd]:=yZ I.hok e;show#[dd.typeIs,λb q=>?_,hd];cases q;let#[ob,_,_,h1,h2,_]:=dd;show#[ob,h1,h2.2.1]
section
variable {U:St}{d:V}{r:J}{o:Option V}
def aa1(hu:A.units+1<cLine)(I:Inv X X1 U H s)(g:sG H a y o)(ry:RelV y u)(rd:RelV d r)(h:∀w' s',Inv X X1 U H s'->RelV (o.getD d) w'->Q w' s'):
  wpAny (model bj cr) A (call (.builtin "dict.get") [¬a,u,r]) Q E s:=by rcases g with⟨kvs,k,e,ey,l⟩|⟨kvs,k,b,e,ey,eb,l⟩;subst ey;let#[z,hd,vs,WP,dd]:=wC I.hok e;show call_meetsIn r6 dd.typeIs PySem.F.entry_dict_get (PySem.F.args_dict_get_3 _ _ _) (meets_dict_get_default (bL bj cr) a (qG ry) hd r) #[_,dd.mapOf,h _ _ (I.tok _) ?_];rw[l];show(WP.val k).getD rd;subst ey;cases(show u=Value.ref b from ry);let#[z,hd,xs,WP,dd]:=yZ I.hok e;show call_meetsIn r6 dd.typeIs PySem.F.entry_dict_get (PySem.F.args_dict_get_3 _ _ _) (meetsH_dict_get_default (tupleKind^bL bj cr) a b hd r) #[tupleKind_room_in1 hu,k,xs,vA I.hok eb,dd,h _ _ (I.tok _) ?_];rw[l];show(WP.val k).getD rd
end
def Pd(td ty tx:TE):TE:=λU H Q=>td U H λx H1=>∃a,x=¬a/\IsD H1 a/\ty U H1 λy H2=>tx U H2 λz H3=>∃o,sG H3 a y o/\Q (o.getD z) H3
section
variable {o f:dr}{ty:TE}
def jv(hu:X.A.units+1<cLine)(ho:PE X o td)(he:PE X e ty)(hf:PE X f tx)(m:M2 X o "get" Tl e f Tx):PE X (.Call (.Attribute o "get" Tl) [e,f] [] Tx)^Pd td ty tx:=by intro X1 s U H Q I h;show wpAny_Call_method m.base m.few m.line PySem.F.plainAttrs_dict r6 PySem.F.type_dict_get (cM (ho X1 s U H _ I h) λu s1 zq=>?_);let#[x,H1,I1,rx,a,ex,d,q1]:=zq;subst ex;obtain rfl:u=Value.ref a:=rx;let#[t1,t2,_]:=aa0 I1 d;show#[t1,t2,?_];rw[m.trees];show yx Y^Calls.evalArgs_plain^mQ (cM (he X1 s1 U H1 _ I1 q1) λiv s2 zq=>?_);let#[y,H2,I2,ry,q2]:=zq;show mQ (cM (hf X1 s2 U H2 _ I2 q2) λfv s3 zq=>?_);let#[z,H3,I3,rz,ov,g,q3]:=zq;show oG ?_;show aa1 hu I3 g ry rz λw' s4 I4 Pm=>#[_,H3,I4,Pm,q3]
end
section
variable {U:St}{kvs:List (Key×V)}
end
section
variable {U:St}
end
end L2
namespace Att
open PySem PySem.W PySem.Calls PyProof.Rows
def xJ{P:Params}:∀(ns:List Z)(vs:List J),WellAll P h vs^ns.map WData.int->IntsAre vs ns:=by
 intro ns;induction ns with
 | nil =>
  intro vs w;rw[List.map_nil] at w;cases w;show .nil
 | cons n ns ih =>
  intro vs w;rw[cu] at w;cases w with
  | cons a b =>
   cases a;show .cons _ _^ih _ b
theorem Me{l:OpenLaw}(hn:l.most=!n){P:Params}{args:List WData}{vals:List J}
  (hpre:l.row.toRowW.claim.pre args=am)(hwl:WellAll P h vals args):
  ∃a vs ns,vals=[Value.ref a]/\args=[WData.list^ns.map WData.int]/\h.get? a=!{ cls:=.type "list", data:=.seq vs.toArray }/\IntsAre vs ns/\ns.length<=n:=by
 let hsh:WShape.hasAll [] args [.list .int]=true:=(pre_splitW hpre).1;let hc:l.pre.holds [] { args:=args }=true:=(pre_splitW hpre).2;let#[d,r,Y,h1,h2]:=hasAllW_cons hsh;obtain rfl:=hasAllW_nil h2;let#[xs,Y,h3]:=hasW_list h1;let#[ns,Y]:=items_int h3;let XB:ns.length<=n:=by
  unfold OpenLaw.pre at hc;let h4:(WTm.not^.lt (.lit^.int (n:Z))^.len^.arg 0).holds [] { args:=[.list^ns.map .int] }=true:=by let h4:=(holds_andW hc).1;rw[hn] at h4;show h4
  let h5:=condW_of h4^w_not^w_lt w_lit^w_len_list^w_arg Y;rw[au] at h5;show Nat.le_of_not_lt λq=>?_;let q':(n:Z)<((ns.length:B):Z):=∅
  first
   | (rw[decide_eq_true q'] at h5;show absurd h5 ())
   | (simp at h5;lia)
 cases hwl with
 | cons w1 w2 =>
  cases w2;cases w1 with
  | list ho U2=>show#[_,_,ns,Y,Y,ho,xJ ns _ U2,XB]
def Mf(l:OpenLaw)(args:List WData):l.row.toRowW.claim.post args (.bool am) args=am :=
 postW_of (r:=l.row.toRowW) (X:=(true==am))
  (show WShape.has [] (.bool am) .bool=am by first|rfl|decide|simp[WShape.has,WShape.arms,WShape.armsAll])
  (show(WTm.eq .res^.lit^.bool am).value [] { args:=args,res:=!.bool am,after:=args }=!.bool (true==am) from w_eq_bool (w_res Y) w_lit) Y
def Ew{l:OpenLaw}{q:de}{NA:List ax}{XP:(ax->Option J)->cv->O}{YP:cw->cv->O}{d:DefRec}
  (hn:l.most=!n)(hdf:d.params.defaults=[])
  (call:∀(w:cw)(s₀ s₁:aw)(mg mb:ax->Option J)(fa:ae)(o:du)(pm cd Sr:J)(a:ae)(vs:List J)(ns:List Z),
   Ground q NA [] XP w s₀ mg mb s₁.heap->YP w s₁.heap ->
   s₁.heap.get? fa=!o->o.data=.func^docDef d.name d.params d.body d.scope pm cd Sr->s₁.heap.CodeRec cd d.name->mg d.name=!(¬fa) ->
   s₁.heap.get? a=!{ cls:=.type "list", data:=.seq vs.toArray }->IntsAre vs ns->ns.length<=n->s₁.gens=#[] ->
   codeAny (model l.prog w) callerA (.call (¬fa) #[[¬a],[]]) (λr s'=>r=.ok^.ret^.bool am/\OldK s₁.heap d6/\s'.os=s₁.os/\AllBare s'.gens) s₁):
  WalkO q NA XP YP l.row.toRowW d [] (λf vs=>PySem.call f vs):=by intro w s₀ s₁ mg mb G ZB fa o pm cd Sr dV kV ho hd FM hD hmg hg args vals as hpre hlay hrd hwl hlo;obtain rfl:dV=.none:=Dflts.none hD hdf;obtain rfl:kV=.none:=Dflts.noKw hD;let#[a,vs,ns,Y,Y,hobj,hints,XB]:=Me hn hpre hwl;show enter_call (codeAny_mono (call w s₀ s₁ mg mb fa o pm cd Sr a vs ns G ZB ho (fd_plain hd) FM hmg hobj hints XB hg) λr s' hq=>?_);let#[Y,h2,h3,h4]:=hq;show#[.inl #[.bool am,.bool am,[],Y,λz=>rfl,.bool am,Mf l _,λz=>#[List.Pairwise.nil,λz hm=>(nomatch hm)]],h2,h3,h4]
section
variable {K:Frag}
end
end Att
namespace L2
variable {qual:ax}
def Mg:∀{vs:List J}{ns:List Z},IntsAre vs ns->Vals (ns.map V.int) vs:=by
 intro vs ns h;induction h with
 | nil=>show .nil
 | cons n t h ih=>show .cons #[t,Y] ih
def aa2(H:Hp):=∀b,H b=bc\/∃o xs,H b=!.JH o^.lst xs
def Pe{mb:ax->Option J}{CX:Oe}{fa:ae}{s₁:aw}
  (KX:K.In s₁.heap)(PP:s₁.heap.Ns mainGlobals mg)(hb:s₁.heap.Ns builtinsNs mb)(hbb:∀x:ax,x ≠ "__name__" -> mb x=bootBuiltins x)(hlim:s₁.heap.NoLimit)(hg:s₁.gens=#[])
  (ha:s₁.heap.get? a=!{ cls:=.type "list", data:=.seq vs.toArray })(hi:IntsAre vs ns)(hl:ns.length<=sizeLine)(hr:jb k callerA)
  (F:∀base:cv,K.In base->base.Ns mainGlobals mg->bK P w K mg base CX k fa fd [x] sp)(hbind:∀(s:aw)(u:J),BindsTo s fd #[[u],[]] [(x,u)])
  (TX:∀H:Hp,aa2 H->bJ K H a^ns.map V.int->sp [¬a] H (λv j=>v=.bl am) λj j j=>False)
  (hCX:∀H e s',CX [] H s₁ (λj j j=>False) e s'->False):
  codeAny (model P w) callerA (.call (¬fa) #[[¬a],[]]) (λr s'=>r=.ok^.ret^.bool am/\OldK s₁.heap d6/\s'.os=s₁.os/\AllBare s'.gens) s₁:=by
 let rv:=Mg hi;let ajY:=hi.length;let core:∀H:Hp,aa2 H->bJ K H a^ns.map V.int->qZ P w H s₁.heap->(∀b,H b≠none->b=a)->(H a≠none->K.lookup a=bc) ->
   codeAny (model P w) callerA (.call (¬fa) #[[¬a],[]]) (λr s'=>r=.ok^.ret^.bool am/\OldK s₁.heap d6/\s'.os=s₁.os/\AllBare s'.gens) s₁:=by
  intro H hO hS hok hA hK;let J1:∀{b:ae}{o:du},s₁.heap.get? b=!o->H b=bc->(CK s₁.heap H).get? b=!o:=λe n=>Ot e n;let noA:∀{b:ae}{o:du}{es:Array DictEntry}{ep:B},s₁.heap.get? b=!o->o.data=.dict es ep->H b=none:=λ{b o es ep} e d=>by
   cases q:H b with
   | none=>rfl
   | some u =>
    let e':b=a:=hA b (by rw[q];simp);subst e';rw[ha] at e;cases e;let d':Data.seq vs.toArray _=Data.dict es ep:=d;cases d'
  let nsK:∀{b:ae}{m:ax->Option J},s₁.heap.Ns b m->(CK s₁.heap H).Ns b m:=λ{b m} ⟨o,es,ep,e,d,r⟩=>#[o,es,ep,J1 e^noA e d,d,r];let hKb:K.In^CK s₁.heap H:=λb o e=>J1 (KX b o e) (by
   cases q:H b with
   | none=>rfl
   | some u =>
    let e':b=a:=hA b (by rw[q];simp);subst e';rw[hK (by rw[q];simp)] at e;cases e)
  let hM:Mod K mg^CK s₁.heap H:=#[hKb,nsK PP,#[mb,nsK hb,hbb],let⟨mc,h1,h2⟩:=hlim;#[mc,nsK h1,h2]];let e0:Hz P w K mg (CK s₁.heap H) callerA [] s₁ H:=#[Y,hM,λb o e=>Ur e,Nat.le_of_eq^LV _ _,trivial,λb hb=>absurd (show b∈([]:List ae) from hb)^by simp,hok,.of_eq hg];show codeAny_mono ((F _ hKb^nsK PP).run callerA [] s₁ H #[[¬a],[]] [¬a] [¬a] _ _ hr e0 (hbind s₁^¬a) (.cons Y .nil)^TX H hO hS) λr s' h=>?_;cases r with
  | error e=>show(hCX H e s' h).elim
  | ok fl =>
   cases fl with
   | next=>show False.elim h
   | brk=>show False.elim h
   | cont=>show False.elim h
   | ret u =>
    let#[v,H',os,bare,un,ajZ,r',q]:=h;let q':v=.bl true:=q;subst q';obtain rfl:u=Value.bool true:=r';show#[Y,OldK.of_keep λb o e=>?_,os,bare];cases q:H b with
    | none=>show un.keep b o e q (by intro z;show absurd (show b∈([]:List ae) from z)^by simp) (by simp)
    | some u =>
     rcases hO b with z|⟨ob,xs,z⟩;rw[q] at z;cases z;let z2:=un.CJ b ob _ z;let#[e1,_]:=hok b _ z;let#[e2,_]:=ajZ b _ z2;rw[e] at e1;cases e1;show e2
 cases hk:K.lookup a with
 | some o =>
  let e:=KX a o hk;rw[ha] at e;cases e;show core (λj=>none) (λj=>.inl Y) (.inr #[_,vs.toArray,_,hk,Y,Y,Y,by rw[bC,ajY];show hl,by simpa using rv]) (λb u z=>by let z':(none:Option HO)=!u:=z;cases z') (λb z=>absurd rfl z) λz=>absurd rfl z
 | none =>
  show core (λb=>if b=a then !(.JH { cls:=.type "list", data:=.seq vs.toArray } (.lst^ns.map V.int)) else none) (λb=>?_) (.inl^.inr #[{ cls:=.type "list", data:=.seq vs.toArray },if_pos Y]) (λb u z=>?_) (λb z=>?_) λj=>hk;by_cases hb:b=a;show .inr #[_,_,if_pos hb];show .inl^if_neg hb;by_cases hb:b=a;let z':=(if_pos hb).symm.trans z;cases z';subst hb;show#[ha,by rw[au];show hl,vs,_,rv,ha];let z':=(if_neg hb).symm.trans z;cases z';by_cases hb:b=a;show hb;show absurd (if_neg hb) z
noncomputable abbrev KOf(_:K.In h):aB:=K
def UL{l:PySem.W.OpenLaw}{q:de}{NA:List ax}{XP:(ax->Option J)->cv->O}{YP:cw->cv->O}{d:DefRec}{K:Params->aB}{CX:cw->Oe}{sp:cw->Sp}
  (hn:l.most=!n)(hn2:n<=sizeLine)(hdf:d.params.defaults=[])(hr:jb k callerA)
  (hY:∀(w:cw)(h:cv),YP w h->(K w.params).In h)
  (F:∀(w:cw)(mg:ax->Option J)(fa:ae)(h:cv),(K w.params).In h->h.Ns mainGlobals mg->mg d.name=!(¬fa) ->
   ∃fd:FuncData,(∀(s:aw)(u:J),BindsTo s fd #[[u],[]] [(x,u)]) /\
    ∀base:cv,(K w.params).In base->base.Ns mainGlobals mg->bK l.prog w (K w.params) mg base (CX w) k fa fd [x]^sp w)
  (TX:∀(w:cw)(H:Hp)(a:ae)(ns:List Z),ns.length<=n->aa2 H->bJ (K w.params) H a^ns.map V.int->sp w [¬a] H (λv z=>v=.bl am) λz z z=>False)
  (hCX:∀(w:cw)(H:Hp)(s:aw)(e:J)(s':aw),CX w [] H s (λz z z=>False) e s'->False):
  PySem.W.WalkO q NA XP YP l.row.toRowW d [] (λf vs=>PySem.call f vs):=by show Att.Ew hn hdf λw s₀ s₁ mg mb fa o pm cd Sr a vs ns G ZB ho hd FM hmg hobj hints XB hg=>?_;let KX:=hY w _ ZB;let#[fd,hb,hF]:=F w mg fa _ KX G.T.g hmg;show Pe KX G.T.g G.T.b G.T.builtins G.T.nolimit hg hobj hints (aZ XB hn2) hr hF hb (λH hO hS=>TX w H a ns XB hO hS) λH e s'=>hCX w H s₁ e s'
def inClass(s:Stmt)(j:B):Stmt:=match s with
 | .ClassDef _ _ _ body _ _ _ _ _ _ _=>body.getD j^.Pass #[0,0,0,0]
 | _=>.Pass #[0,0,0,0]
noncomputable def gI(s:Stmt):Arguments:=match s with
 | .FunctionDef _ a _ _ _ _ _ _ _ _=>a
 | _=>{ posonlyargs:=[],args:=[],vararg:=none,kwonlyargs:=[],kw_defaults:=[],kwarg:=none,defaults:=[] }
noncomputable def fO(s:Stmt):List Stmt:=match s with
 | .FunctionDef _ _ b _ _ _ _ _ _ _=>b
 | _=>[]
noncomputable def ay(s:Stmt):Scope:=match s with
 | .FunctionDef _ _ _ _ _ _ sc _ _ _=>sc
 | _=>{ kind:=.function,names:=[],isGenerator:=false,isCoroutine:=false }
abbrev fX:Oe:=λz z z z z z=>False
abbrev E0:XK:=λz z z=>False
def iV:Passes fX X E0:=λz z z z z z z h=>h.elim
structure Fun (K:aB) (x qual:Str) (st:Stmt) (f:Addr) (fd:FuncData):Prop where
 ex:∃(oc:Value)(od:Option Addr)(kV Sr pm:Value)(an:Option Addr)(cdv ct:Value)(FX:Array^Option Value),
  fd=PySem.W.fnOf x qual (gI st) (fO st) (ay st) .none kV Sr pm an cdv ct/\K.lookup f=some #[oc,od,.func fd,FX]/\PySem.W.codeIn K cdv qual=true
 kp:PySem.W.keepIn K^.ref f=true
def Fun.ok{N:List ax}(F:Fun K x qual st f fd)(S:aF N ps^ay st)(len:∀vs H Q E,sp vs H Q E->dv=cn)
  (Ki:∀(cdv:J)(A:Around)(outer:List Env)(s:aw)(H:Hp)(vs:List V)(Q:VK)(E:XK),jb k^A.deeper^envOfC qual (ay st) M f cdv->sp vs H Q E ->
   ∃t,AK (Ep fX P w K mg base N qual (ay st) f cdv A outer s H E).nox (fO st) t/\t { nx:=λz H'=>Q .cH H',rt:=Q } (start N vs) H):bK P w K mg base fX (k+1) f fd ps sp:=by let#[oc,od,kV,Sr,pm,an,cdv,ct,FX,Y,lk,FM]:=F.ex;show XY lk FM S len λA outer s H vs Q E hr TX=>?_;let#[t,h,q]:=Ki cdv A outer s H vs Q E hr TX;show#[t,h.nox,q]
def Fun.binds(F:Fun K x qual st f fd)
  (h:∀(kV Sr pm:J)(an:Option ae)(cdv ct:J)(us:List J),dC=cn->bindArgs (PySem.W.fnOf x qual (gI st) (fO st) (ay st) .none kV Sr pm an cdv ct) #[us,[]]=pure^ps.zip us):Binds K fd ps []:=by let#[oc,od,kV,Sr,pm,an,cdv,ct,FX,Y,lk,FM]:=F.ex;show .all^h kV Sr pm an cdv ct
def CZ{FX:Array^Option J}{kV Sr cdv:J}(l:K.lookup f=some #[oc,od,.func^PySem.W.fnOf x qual (gI st) (fO st) (ay st) .none kV Sr pm an cdv ct,FX])
  (c:PySem.W.codeIn K cdv qual=am)(k:PySem.W.keepIn K^.ref f=am):Fun K x qual st f^PySem.W.fnOf x qual (gI st) (fO st) (ay st) .none kV Sr pm an cdv ct:=#[#[oc,od,kV,Sr,pm,an,cdv,ct,FX,Y,l,c],k]
def d9(hr:jb k A):A.units+1<cLine:=mU (Nat.add_le_add_left (by decide:1<=64) _) hr.units
def pv(i:B)(hN:⇑(X.N[i]?=!x))(hv:Vis X.env.scope x:=by walk_at "vi")(hd:↥((x==("__debug__" : ax))=false))
  (FM:↥((x==("__classdict__" : ax))=false)):PE X (.Name x pos)^gT i:=aaA hN hv hd FM
def aj0{A Yf:O}(h:Yf):if false=am then A else Yf:=by rw[if_neg oB];show h
def UM{A Yf:O}(h:A):if true=am then A else Yf:=by rw[if_pos Y];show h
def az(H H':Hp):=∀b o,H b=!o->H' b=!o
def az.refl(H:Hp):az H H:=λz z h=>h
def az.trans{H1 H2:Hp}(a:az H H1)(b:az H1 H2):az H H2:=λc o h=>b c o^a c o h
def az.free(e:az H H')(h:H' l=Option.none):H l=Option.none:=by
 cases q:H l with
 | none=>rfl
 | some o =>
  rw[e l o q] at h;cases h
def az.seq(e:az H H')(h:bJ K H a xs):bJ K H' a xs:=by rcases h with(h|⟨o,h⟩)|h;show .inl^.inl^e _ _ h;show .inl^.inr #[o,e _ _ h];show .inr h
def Mh:fj X (.builtin "len") (λxs H Q=>∃a kvs,xs=[V.ref a]/\H a=!.dK kvs/\Q (.int ce) H):=by intro X1 s U H xs us Q I r h;let#[a,kvs,Y,ha,q]:=h;let#[u,Y,ru]:=vals1 r;cases ru;show aeP I (.inl ha) λt s' I'=>#[.int ce,H,I',#[t,Y],q]
section
variable {κ:Type} [DecidableEq κ]
end
end L2
namespace BT
open PySem
def eG:bootBuiltins "len" = !.builtin "len":=()
def iK:bootBuiltins "isinstance" = !.builtin "isinstance":=()
def aeQ:bootBuiltins "str" = !.type "str":=()
def X5:bootBuiltins "int" = !.type "int":=()
def aa4:bootBuiltins "bool" = !.type "bool":=()
def m8:bootBuiltins "list" = !.type "list":=()
def kX:bootBuiltins "tuple" = !.type "tuple":=()
def y9:bootBuiltins "dict" = !.type "dict":=()
def J2:bootBuiltins "set" = !.type "set":=()
def za:bootBuiltins "reversed" = !.type "reversed":=()
end BT
namespace L2
variable {px:Pos}{ST iter:dr}{ifs:List dr}{fr:List ax}
def Mi(t u:TS):TS:=λD U H=>∃Ya:St->Hp->O,t { D with nx:=Ya } U H/\∀U' H',Ya U' H'->u D U' H'
def iL{rest:List Stmt}{t u:TS}(h1:PS X st t)(h2:AK X rest u):AK X (st::rest)^Mi t u:=by
 intro X1 s U H D I h;let#[Ya,h,k]:=h;show wpAny_execs_cons (cM (h1 X1 s U H _ I h) λf s1 q=>?_);cases f with
 | next =>
  let#[Fa,H1,I1,j]:=q;show h2 X1 s1 Fa H1 D I1^k Fa H1 j
 | brk=>show q
 | cont=>show q
 | ret u=>show q
def aeR(c:TT)(t u:TS):TS:=λD U H=>∃Jt Jf:Hp->O,(c U H λb H1=>if b=am then Jt H1 else Jf H1)/\(∀H1,Jt H1->t D U H1)/\∀H1,Jf H1->u D U H1
def zc{a b:List Stmt}{tc:TT}{t u:TS}(hc:PT X c tc)(ha:AK X a t)(hb:AK X b u):PS X (.If c a b pos)^aeR tc t u:=by
 intro X1 s U H D I h;let#[Jt,Jf,h,h1,h2]:=h;show wpAny_If (cM (hc X1 s U H _ I h) λv s1 zq=>?_);let#[H1,I1,q1]:=zq;cases v with
 | true=>show ha X1 s1 U H1 D I1^h1 H1 q1
 | false=>show hb X1 s1 U H1 D I1^h2 H1 q1
theorem C0{Re:dr}{it Xt:J}{env:Env}(I:B->aw->O)
  (turn:∀n s,I n s->wpAny (model prog w) A (pyNext it) (λr s₁=>match r with
   | none=>R (.ok .next) s₁
   | some v=>wpAny (model prog w) A (letOwnedTupleGo Re it v) (λz s₀=>wpAny (model prog w) A (assign Re env v) (λz s₂ =>
     wpAny (model prog w) A (forIn ifs am λc r=>if r=am then do let ok <- isTrue c env (eval c env);pure^ForInStep.yield ok else pure^ForInStep.yield r) (λok s₃ =>
      if ok=am then wpAny (model prog w) A (eval ST env) (λx s₄ =>
       wpAny (model prog w) A (call (.builtin "list.append") [Xt,x]) (λz s₅=>∃m,m<n/\I m s₅) (notedBy (model prog w) A env λe s'=>R (.error e) s') s₄) (notedBy (model prog w) A env λe s'=>R (.error e) s') s₃
      else ∃m,m<n/\I m s₃) (notedBy (model prog w) A env λe s'=>R (.error e) s') s₂) (notedBy (model prog w) A env λe s'=>R (.error e) s') s₀) (notedBy (model prog w) A env λe s'=>R (.error e) s') s₁) (notedBy (model prog w) A env λe s'=>R (.error e) s') s)
  (n:B)(h:I n s):
  codeAny (model prog w) A (.compLoop (.ListComp ST [#[Re,iter,ifs,0]] scope pos) 0 it Xt env) R s:=by
 show codeAny_loop Y I (λn s hI=>?_) n h;change wpAny _ A ((compTurn (.ListComp ST [#[Re,iter,ifs,0]] scope pos) 0 it Xt env).onRaise (λx=>do noteFrame x env;theTreesLotGoes x)) _ _ s;show wpAny_noted ?_;rw[compTurn_list];show av^wpAny_standAt^av (wpAny_mono (turn n s hI) (λr s₁ h₁=>?_) λz z h'=>h');cases r with
 | none=>show aW h₁
 | some v =>
  show av (wpAny_mono h₁ (λz s₀ h₀=>?_) λz z h'=>h');show av (wpAny_mono h₀ (λz s₂ h₂=>av (wpAny_mono h₂ (λok s₃ h₃=>?_) λz z h'=>h')) λz z h'=>h');cases ok with
  | false=>show aW #[Y,h₃]
  | true =>
   show av^av (wpAny_mono h₃ (λx s₄ h₄=>av (wpAny_mono h₄ (λz s₅ h₅=>aW^aW #[Y,h₅]) λz z h'=>h')) λz z h'=>h')
noncomputable def uV(X:Cx)(N:List ax)(scope:Scope)(cl:List (ax×ae))(C:ae)(fp:List ae)(s:aw)(H:Hp):Cx where
 prog:=bj
 w:=cr
 K:=dq
 mg:=X.mg
 base:=X.base
 A:=X.A
 N:=N
 s₀:=s
 H₀:=H
 env:=compEnvC scope cl C bi
 outer:=X.stack
 stack:=X.stack
 ex:=fp
 fn:=λz=>false
 calm:=X.calm
 pn:=[]
 xe:=λz z=>False
structure bG (X:Cx) (scope:Scope) (cl:List (Str×Addr)) (x:Str) (fr:List Str) (ix:List Nat):Prop where
 calm:X.calm=true
 clos:closureFor scope X.env=pure cl
 cell:∀y∈scope.names,y.2≠.cell
 kind:scope.kind=.function
 names:∀y∈scope.names,y.2=.local->scope.names.lookup y.1=!.local
 loc:scope.names.lookup x=!.local
 nd:(x::fr).Nodup
 cl1:∀y c,cl.lookup y=!c->X.env.cells.lookup y=!c
 cl2:∀y,((relabel scope X.env).names.lookup y=!.cell\/(relabel scope X.env).names.lookup y=!.free)->∃c,cl.lookup y=!c
 fx:∀(j:Nat) y,fr[j]?=!y->∃i:Nat,ix[j]?=!i/\X.N[i]?=!y/\(X.env.kindOf y=!.cell\/X.env.kindOf y=!.free)/\((relabel scope X.env).names.lookup y=!.cell\/(relabel scope X.env).names.lookup y=!.free)
 len:fr.length=ix.length
def PF(X:Cx)(ifs:List dr)(t:TT):O :=
 ∀(X1:List (ae×du))(s:aw)(U:St)(H:Hp)(Q:ci->Hp->O),Inv X X1 U H s->t U H Q ->
  wpAny (model bj cr) X.A (forIn ifs am λc r=>if r=am then do let ok <- isTrue c bi (eval c bi);pure^ForInStep.yield ok else pure^ForInStep.yield r) (TP X X1 U Q) X.xe s
def UN:TT:=λz H Q=>Q am H
def fG:PF X [] UN:=λz z z H z I h=>wpAny_tests_nil #[H,I,h]
def rg{t:TT}(h:PT X c t):PF X [c] t:=λX1 s U H Q I q=>wpAny_tests_one^h X1 s U H Q I q
noncomputable def cut(ix:List B)(U:St):St:=ix.map λi=>(U[i]?).join
section
variable {U:St}
def Inv.Bw{D:ae}{o:HO}(I:Inv X X1 U H s)(f:lJ X X1 H D)(new:dS bj cr (upd H D o) ap D o):Inv X X1 U (upd H D o) s:=by
 let hn:H D=none:=f.1;let ne:∀b u,H b=!u->b≠D:=λb u e=>aE e hn;let hok:qZ bj cr (upd H D o) s.heap:=λb u e=>by
  by_cases hb:b=D;subst hb;rw[kr] at e;cases e;show new
  .rw[bX hb] at e;show(I.hok b u e).stay (λj j j q=>q) (λc q=>by rw[bX^ne _ _ q];show q) λc xs q=>by rw[bX^ne _ _ q];show q
 show I.step (H':=upd H D o) (h':=ap) (g':=s.gens) (t':=s.toks) (d':=s.drawn) (ch:=[D]) (λb hb=>by
   let e:b=D:=by simpa using hb
   subst e;show#[f.2.2.2.1,f.2.1,f.2.2.2.2.1,f.2.2.2.2.2])
  (λb o j j j e j=>e) (λb o j j j e j=>#[o.slots,e]) (λb o hb e n=>by rw[bX (λz=>hb^by simp[z])];show n)
  (λb o j e=>#[o,e]) (λb xs e=>by rw[bX^ne _ _ e];show e) (λb o u e=>by rw[bX^ne _ _ e];show e) (λb ps e=>#[#[],by rw[bX^ne _ _ e,e];simp])
  (λm hm=>hm) hok I.bare
structure gk (X:Cx) (scope:Scope) (cl:List (Str×Addr)) (xs fr:List Str) (ix:List Nat):Prop where
 calm:X.calm=true
 clos:closureFor scope X.env=pure cl
 cell:∀y∈scope.names,y.2≠.cell
 kind:scope.kind=.function
 names:∀y∈scope.names,y.2=.local->scope.names.lookup y.1=!.local
 nd:(xs++fr).Nodup
 cl1:∀y c,cl.lookup y=!c->X.env.cells.lookup y=!c
 cl2:∀y,((relabel scope X.env).names.lookup y=!.cell\/(relabel scope X.env).names.lookup y=!.free)->∃c,cl.lookup y=!c
 fx:∀(j:Nat) y,fr[j]?=!y->∃i:Nat,ix[j]?=!i/\X.N[i]?=!y/\(X.env.kindOf y=!.cell\/X.env.kindOf y=!.free)/\((relabel scope X.env).names.lookup y=!.cell\/(relabel scope X.env).names.lookup y=!.free)
 len:fr.length=ix.length
def gk.of{xs:List ax}(X2:bG X scope cl x fr ix)(nd:(xs++fr).Nodup):gk X scope cl xs fr ix:=#[X2.calm,X2.clos,X2.cell,X2.kind,X2.names,nd,X2.cl1,X2.cl2,X2.fx,X2.len]
theorem oW{xs:List ax}{RR:J->ae->Result->aw->O}
  (X2:gk X scope cl xs fr ix)(hg:∀C fp s H,PG (uV X (xs++fr) scope cl C fp s H) tg g)(ht:∀C fp s H,PF (uV X (xs++fr) scope cl C fp s H) ifs tt)(he:∀C fp s H,PE (uV X (xs++fr) scope cl C fp s H) ST te)
  {tn:B->cv->O}{Ya:It}{H2:Hp}{s2:aw}(I2:Inv X X1 U H2 s2)(T:Turn bj cr dq tg Ya fp it tn)(Kj:tn 0 s2.heap)(f2:∀b∈fp,lJ X X1 H2 b)
  (Y2:List V->Hp->O)(W:B->B->List V->St->Hp->O)(m0:B)(w0:W 0 m0 [] (List.replicate ab bc++cut ix U) H2)
  (turn:∀i m ys τ H,W i m ys τ H->(Ya.stop i H/\Y2 ys H)\/(Ya.go i H/\cf<sizeLine/\∃N:List V->St->Hp->O,(∀RF τ' H',N RF τ' H'->∃m',m'<m/\W (i+1) m' RF τ' H') /\
   ∀v H',Ya.OH i H v H'->g v τ H' λτ2 H2=>tt τ2 H2 λb H3=>if b=am then te τ2 H3 λy H4=>N (ys++[y]) τ2 H4 else N ys τ2 H3))
  (hRR:∀D C s' ys H',Inv X X1 U (upd H' D^.lst ys) s'->(∃m,s'.heap.Ns C m)->lJ X X1 (upd H' D^.lst ys) C->H' D=bc->Y2 ys H'->RR (¬D) C (.ok .next) s'):
  wpAny (model bj cr) X.A (newList []) (λXt s₃=>wpAny (model bj cr) X.A (newFunctionEnv scope X.env.globals cl [] X.env.qual bc .none^!X.env) (λcenv s₄ =>
   codeAny (model bj cr) X.A (.compStart (.ListComp ST [#[tg,iter,ifs,0]] scope pos) 0 (¬it) Xt { cenv with scope:=relabel scope bi }) (RR Xt cenv.locals) s₄) E s₃) E s2:=by
 show wpAny_newObj_type^wpAny_newFunctionEnv X2.cell (by intro y hy;simp at hy) (λh₁ aa5 UO=>?_) X2.kind;dsimp only at aa5 UO ⊢;generalize hG:s2.heap.push { cls:=.type "list", dict:=none,data:=.seq ([]:List J).toArray }=G at aa5 UO ⊢;let hC:dL=dt+1:=by rw[<- hG,fM]
 let hDC:dt≠G.objs.size:=by rw[hC];show aU^f9 _
 let aa6:dt<=G.objs.size:=by rw[hC];show b9 _
 let below:∀b,b<dt->b≠dL/\b≠s2.heap.objs.size:=λb hb=>#[by rw[hC];show aU^jl hb,aU hb];let Tm:∀b o,s2.heap.get? b=!o->h₁.get? b=!o:=λb o e=>UO.extBut b o (below b^aN e).1^eT _ (hG▸eT _ e);let TB:h₁.get? dt=!{ cls:=.type "list", data:=.seq ([]:List J).toArray }:=UO.extBut _ _ hDC^eT _ (hG▸jH _ rfl);let hD2:H2 dt=none:=I2.hok.fresh^aq _;let hC2:H2 dL=none:=I2.hok.fresh aa6;let fD:lJ X X1 H2 s2.heap.objs.size:=I2.sy (aq _) hD2;let fC:lJ X X1 H2 G.objs.size:=I2.sy aa6 hC2;let aa7:∀b∈fp,b<s2.heap.objs.size:=λb hb=>by let#[o,e,_]:=T.obj _ _ Kj b hb;show aN e
 let X6:∀b∈frs X.stack,b∈X.env.locals::X.fs:=I2.Hh;let oX:=X2.cl1;let ok:(uV X (xs++fr) scope cl dL fp s2 H2).Ok:=by show#[I2.ok.mod,X2.kind,I2.ok.glob,I2.ok.blt,aa6,λy z c h1 h2=>I2.ok.inj y z c (oX y c h1)^oX z c h2,λy hy=>X2.cl2 y hy,λy c h x=>absurd h oB,λh=>I2.ok.hd h,I2.ok.frames,.inl Y,λb hb=>?_,I2.bs,aZ I2.ok.XM I2.sz,λb o e hb=>?_,λb hb hs=>?_,I2.stack,I2.JI];show#[(below b^aa7 b hb).1,λy c e=>(f2 b hb).2.2.2.2.1 y c^oX y c e];rcases(f2 b hb).2.2.2.1 with z|z;show I2.ok.Ou b o e z;show absurd (cR (aN (I2.ok.bs b o e).1) z)^fu _;rcases aJ.mp^X6 b hs with z|z;show(f2 b hb).2.1 z;show(f2 b hb).2.2.1 z
 let nfs:∀b,dt<=b->b∉frs X.stack:=λb hb hs=>by rcases aJ.mp^X6 b hs with z|z;show absurd (cR I2.lt (z▸hb))^fu _;show I2.aem hb z
 let Ic:Inv (uV X (xs++fr) scope cl dL fp s2 H2) [(dt,{ cls:=.type "list", data:=.seq ([]:List J).toArray })] (List.replicate ab bc++cut ix U) H2 { s2 with heap:=h₁,toks:=s2.toks+([]:List (ax×J)).length }:=by
  show#[ok,Y,I2.bare,Un.kept Tm,#[_,aa5,λi y v h1 h2 h3=>?_],λy c e=>?_,hC2,λy c e=>I2.oR y c^oX y c e,λp hp=>?_,I2.hok.kept Tm,?_]
  .have hk:ab<=i:=by rcases bR i xs.length with q|q;rw[lC^by simpa using q,List.getElem?_replicate,if_pos q] at h2;cases h2;show q
   .obtain⟨j,rfl⟩:∃j,i=xs.length+j:=#[i-xs.length,∅];let h1:fr[j]?=!y:=by let h1:(xs++fr)[ab+j]?=!y:=h1;rwa [ko ∅,CH] at h1
    let h2:(cut ix U)[j]?=!!v:=by rwa [ko^by simp,List.length_replicate,CH] at h2
    let#[i,e1,e2,k,kc]:=X2.fx j y h1;let#[c,e3]:=X2.cl2 y kc;let e4:U[i]?=!!v:=by
     unfold cut at h2;rw[bB,e1] at h2;let h2:some ((U[i]?).join)=!!v:=h2;let h2:=Option.some.inj h2;cases q:U[i]? with
     | none=>rw[q] at h2;cases h2
     | some z=>rw[q] at h2;show congrArg some h2
    let#[m,_,hl]:=I2.loc;let#[u,r,l]:=hl i y v e2 e4 (k.elim (λz=>.inr^.inl z) λz=>.inr^.inr z);show#[u,r,.inr #[kc,c,e3,?_]];rcases l with⟨l1,_⟩|⟨_,c',l2,l3⟩;rcases k with k|k<;>(rw[k] at l1;cases l1);let e5:=oX y c e3;rw[l2] at e5;cases e5;let#[o,ho,hd]:=l3;show#[o,Tm _ _ ho,hd]
  .let#[v,o,ho,hd]:=I2.cell y c^oX y c e;show#[v,o,Tm _ _ ho,hd]
  .have e:p=(dt,{ cls:=.type "list", data:=.seq ([]:List J).toArray }):=by simpa[uV] using hp
   subst e;show#[TB,hD2,hDC,nfs _^aq _,λv z=>by cases z]
  .change(List.replicate ab bc++cut ix U).length=(xs++fr).length;unfold cut;simp[X2.len]
 let aa8:∀b∈fp,b≠s2.heap.objs.size:=λb hb=>(below b^aa7 b hb).2;let Hq:∀{pl:List (ae×du)}{H':Hp},(∀p∈pl,p.1=dt)->(∀b∈fp,H' b=bc)->∀b∈fp,lJ (uV X (xs++fr) scope cl dL fp s2 H2) pl H' b:=λ{pl H'} hp hn b hb =>
  #[hn b hb,(below b^aa7 b hb).1,λhs=>ok.Ov b hb hs,.inl hb,λy c e=>(f2 b hb).2.2.2.2.1 y c^oX y c e,λp hp' z=>aa8 b hb^z.symm.trans^hp p hp']
 let one:∀{o:du},∀p∈[(dt,o)],p.1=s2.heap.objs.size:=λp hp=>by let e:=aC.mp hp;rw[e]
 let loop:codeAny (model bj cr) X.A (.compLoop (.ListComp ST [#[tg,iter,ifs,0]] scope pos) 0 (¬it) (¬dt)^compEnvC scope cl dL bi) (RR (¬dt) dL)
   { s2 with heap:=h₁,toks:=s2.toks+([]:List (ax×J)).length }:=by
  show C0 (λn s'=>∃(i:B)(ys:List V)(XL:List J)(c:B)(τ:St)(H':Hp),Inv (uV X (xs++fr) scope cl dL fp s2 H2) [(dt,{ cls:=.type "list", data:=.seq XL.toArray c })] τ H' s'/\tn i d6/\(∀b∈fp,H' b=bc)/\Vals ys XL/\cf<=sizeLine/\W i n ys τ H') ?_ m0
   #[0,[],[],0,_,H2,Ic,T.keep _ _ _ Kj (λb x o e=>Tm b o e),λb hb=>(f2 b hb).1,.nil,aQ _,w0]
  rintro n s3 ⟨i,ys,XL,c,τ,H3,I3,st3,fr3,rv,Iy,w3⟩;rcases turn i n ys τ H3 w3 with⟨stop,zz⟩|⟨go,hlt,N,hN,step⟩;show wpAny_mono (T.done (uV X (xs++fr) scope cl dL fp s2 H2) Y rfl rfl X2.calm i _ s3 _ H3 _ I3 (Hq one fr3) st3 stop) (λr s4 h4=>?_) λx x e=>e;let#[hr,I4]:=h4;subst hr;let pD:=I4.pin _^fV _^aC.mpr Y;let IX:Inv X X1 U H3 s4:=I2.aep I4.os I4.base I4.hok I4.bare λb hb=>#[(f2 b hb).2.2.2.1,(f2 b hb).2.1,(f2 b hb).2.2.2.2.1,(f2 b hb).2.2.2.2.2];let#[mC,hmC,_]:=I4.loc;show hRR _ _ s4 ys H3 (IX.Bw #[pD.2.1,fD.2] #[Iy,XL,c,rv,pD.1]) #[mC,hmC] #[by rw[bX^aM hDC];show I4.free,fC.2] pD.2.1 zz
  .show wpAny_mono (T.item (uV X (xs++fr) scope cl dL fp s2 H2) Y rfl rfl X2.calm i _ s3 _ H3 _ I3 (Hq one fr3) st3 go) (λr s4 h4=>?_) λx x e=>e;let#[u,hr,h4]:=h4;subst hr;show wpAny_mono h4 (λx s5 h5=>?_) λx x e=>e;let#[v,H5,I5,r5,y5,Uw,fr5]:=h5;let I5':=I5.pinned (Hq one fr5)^T.obj _ _ Uw;show wpAny_mono (hg _ _ _ _ _ s5 τ H5 v u _ I5' r5^step v H5 y5) (λx s6 h6=>?_) λx x f=>False.elim f;let#[τ2,H6,I6,q6]:=h6;show wpAny_mono (ht _ _ _ _ _ s6 _ H6 _ I6 q6) (λok s7 h7=>?_) λx x f=>False.elim f;let#[H7,I7,q7]:=h7;cases ok with
   | true =>
    rw[if_pos Y] at q7 ⊢;show wpAny_mono (he _ _ _ _ _ s7 _ H7 _ I7 q7) (λuy s8 h8=>?_) λx x f=>False.elim f;let#[y,H8,I8,r8,n8]:=h8;let pD:=I8.pin _^fV _^jK _^aC.mpr Y;let rl:=rv.length;show append_at (hsz:=by rw[bC];lia) pD.1 λh9 hs9 hD9=>?_;let#[m',hm,w9]:=hN _ _ _ n8;let Ia:Inv (uV X (xs++fr) scope cl dL fp s2 H2) (vp fp s5.heap) τ2 H8 s8:=I8.xW λp hp=>I8.pin p^fV _^fV _ hp;let Ib:=Ia.turned (h':=h9) (t':=s8.toks) (it:=dt) (λb o hb e=>hs9.extBut b o hb e) pD.2.1 hDC (.inr^aq _) (λy c e=>fD.2.2.2.2.1 y c^oX y c e)
     λp hp=>by let#[hb,_]:=Bo (fp:=fp) (h:=s5.heap) (show p∈vp fp s5.heap from hp);show aa8 p.1 hb
    show#[m',hm,i+1,ys++[y],XL++[uy],c+1,τ2,H8,Ib.xW λp hp=>?_,T.keep _ _ _ Uw λb hb o e=>?_,λb hb=>?_,rv.append^.cons r8 .nil,by rw[aP,jJ];lia,w9]
    .have e:=aC.mp hp;subst e;show#[?_,pD.2.1,hDC,pD.2.2.2.1,λv z=>by cases z];let q:XL.toArray.push uy=(XL++[uy]).toArray:=by simp
     rw[<- q];show hD9
    .show hs9.extBut b o (aa8 b hb) (I8.pin (b,o)^fV _^fV _^i7 hb e).1
    .let#[o,e,d]:=T.obj _ _ Uw b hb;show(I8.pin (b,o)^fV _^fV _^i7 hb e).2.1
   | false =>
    rw[if_neg oB] at q7 ⊢;let#[m',hm,w9]:=hN _ _ _ q7;show#[m',hm,i+1,ys,XL,c,τ2,H7,I7.sA,T.keep _ _ _ Uw λb hb o e=>?_,λb hb=>?_,rv,Iy,w9];show(I7.pin (b,o)^fV _^fV _^i7 hb e).1;let#[o,e,d]:=T.obj _ _ Uw b hb;show(I7.pin (b,o)^fV _^fV _^i7 hb e).2.1
 show codeAny_compStart_list loop^T.self _ 0 _ _ _ (T.keep _ _ _ Kj λb x o e=>Tm b o e) loop
def ze{RR:J->ae->Result->aw->O}
  (X2:bG X scope cl x fr ix)(ht:∀C fp s H,PF (uV X (x::fr) scope cl C fp s H) ifs tt)(he:∀C fp s H,PE (uV X (x::fr) scope cl C fp s H) ST te)
  {tn:B->cv->O}{Ya:It}{H2:Hp}{s2:aw}(I2:Inv X X1 U H2 s2)(T:Turn bj cr dq (.Name x px) Ya fp it tn)(Kj:tn 0 s2.heap)(f2:∀b∈fp,lJ X X1 H2 b)
  (Y2:List V->Hp->O)(W:B->B->List V->Hp->O)(m0:B)(w0:W 0 m0 [] H2)
  (turn:∀i m ys H,W i m ys H->(Ya.stop i H/\Y2 ys H)\/(Ya.go i H/\cf<sizeLine/\∃N:List V->Hp->O,(∀RF H',N RF H'->∃m',m'<m/\W (i+1) m' RF H') /\
   ∀v H',Ya.OH i H v H'->tt (some v::cut ix U) H' λb H3=>if b=am then te (some v::cut ix U) H3 λy H4=>N (ys++[y]) H4 else N ys H3))
  (hRR:∀D C s' ys H',Inv X X1 U (upd H' D^.lst ys) s'->(∃m,s'.heap.Ns C m)->lJ X X1 (upd H' D^.lst ys) C->H' D=bc->Y2 ys H'->RR (¬D) C (.ok .next) s'):
  wpAny (model bj cr) X.A (newList []) (λXt s₃=>wpAny (model bj cr) X.A (newFunctionEnv scope X.env.globals cl [] X.env.qual bc .none^!X.env) (λcenv s₄ =>
   codeAny (model bj cr) X.A (.compStart (.ListComp ST [#[.Name x px,iter,ifs,0]] scope pos) 0 (¬it) Xt { cenv with scope:=relabel scope bi }) (RR Xt cenv.locals) s₄) E s₃) E s2:=by
 show oW (xs:=[x]) (g:=gc 0) (gk.of X2 X2.nd) (λC fp s H=>?_) ht he I2 T Kj f2 Y2 (λi m ys τ H=>(∃y,τ=y::cut ix U)/\W i m ys H) m0 #[#[none,Y],w0] (λi m ys τ H h=>?_) hRR;show JM X2.nd Y (.inl^lookup_relabel_local X2.loc)^.inr^lookup_relabel_local X2.loc
 .let#[#[y,Y],h]:=h;rcases turn i m ys H h with h|⟨h1,h2,N,h3,h4⟩;show .inl h
  .show .inr #[h1,h2,λys τ H=>(∃y,τ=y::cut ix U)/\N ys H,λRF τ' H' ⟨e,n⟩=>let⟨m',a,b⟩:=h3 RF H' n;#[m',a,e,b],λv H' hy=>?_];let e:(∃z,some v::cut ix U=z::cut ix U)=True:=eq_true #[_,Y];change tt (some v::cut ix U) H' λb H3=>if b=am then te (some v::cut ix U) H3 λy1 H4=>(∃z,some v::cut ix U=z::cut ix U)/\N (ys++[y1]) H4 else(∃z,some v::cut ix U=z::cut ix U)/\N ys H3
   erw[e,true_and];show h4 v H' hy
def J3(wi:TI)(tt:TT)(te:TE)(ix:List B):TE:=λU H Q=>wi U H λYa H1=>∃W:B->B->List V->Hp->O,(∃m,W 0 m [] H1)/\∀i m ys H,W i m ys H ->
 (Ya.stop i H/\∀p,H p=bc->Q (¬p)^upd H p^.lst ys)\/(Ya.go i H/\cf<sizeLine/\∃N:List V->Hp->O,(∀RF H',N RF H'->∃m',m'<m/\W (i+1) m' RF H') /\
  ∀v H',Ya.OH i H v H'->tt (some v::cut ix U) H' λb H3=>if b=am then te (some v::cut ix U) H3 λy H4=>N (ys++[y]) H4 else N ys H3)
def fP{wi:TI}(X2:bG X scope cl x fr ix)(hi:PI X (.Name x px) iter wi)
  (ht:∀C fp s H,PF (uV X (x::fr) scope cl C fp s H) ifs tt)(he:∀C fp s H,PE (uV X (x::fr) scope cl C fp s H) ST te)
  (hs:⇑(∀v,foldedSetIterable iter bi v=pure v)):PE X (.ListComp ST [#[.Name x px,iter,ifs,0]] scope pos)^J3 wi tt te ix:=by intro X1 s U H Q I h;rw[eval_ListComp];show wpAny_comprehension_free (use:=none) Y hs X2.clos X2.kind X2.names (cM (hi X1 s U H _ I h) λv s1 h1=>cM h1 λitv s2 h2=>?_);let#[it,fp,tn,Ya,H2,e,I2,T,Kj,f2,W,#[m0,w0],turn]:=h2;subst e;show ze X2 ht he I2 T Kj f2 (λys H=>∀p,H p=bc->Q (¬p)^upd H p^.lst ys) W m0 w0 turn λD C s' ys H' I' hm fC hD z=>?_;let#[m,hm]:=hm;show#[m,hm,λh' Ix=>?_];show#[¬D,_,I'.turned (t':=s'.toks) (it:=C) (λb o hb e=>Ix.extBut b o hb e) fC.1 fC.2.1 fC.2.2.2.1 fC.2.2.2.2.1 fC.2.2.2.2.2,Y,z D hD]
def Ex(te:TE)(i:B):TS:=λD U H=>te U H λv H1=>D.nx (U.set i^!v) H1
def UP{y:ax}{py Pi:Pos}{wi:TI}(hN:X.N.Nodup)(hiy:X.N[i]?=!y)(hy:Loc X.env.scope y)
  (X2:bG X scope cl x fr ix)(hi:PI X (.Name x px) iter wi)
  (ht:∀C fp s H,PF (uV X (x::fr) scope cl C fp s H) ifs tt)(he:∀C fp s H,PE (uV X (x::fr) scope cl C fp s H) ST te)
  (hsw:⇑(swapsWith (.ListComp ST [#[.Name x px,iter,ifs,0]] scope pos) (!.Name y py) Pi.line bi=pure true))
  (hs:⇑(∀v,foldedSetIterable iter bi v=pure v))(hf:‹X.fn y=am\/X.env.scope.names.lookup y=!.local›):
  PS X (.Assign [.Name y py] (.ListComp ST [#[.Name x px,iter,ifs,0]] scope pos) Pi)^Ex (J3 wi tt te ix) i:=by
 intro X1 s U H D I h;rw[exec_Assign_Name_used _ _ _ _ hsw];show av^wpAny_standAt^av ?_;change wpAny _ X.A (do let _ <- comprehension (.ListComp ST [#[.Name x px,iter,ifs,0]] scope pos) scope bi _ (newList []) bo (eval iter bi) (!assign (.Name y py) bi)) _ _ s;show av (wpAny_mono (wpAny_comprehension_free (use:=!assign (.Name y py) bi) (Q:=λq s'=>SP X X1 D .next s') Y hs X2.clos X2.kind X2.names
  (cM (hi X1 s U H _ I h) λv s1 h1=>cM h1 λitv s2 h2=>?_)) (λq s' hq=>aW^aW hq) λq q e=>e)
 let#[it,fp,tn,Ya,H2,e,I2,T,Kj,f2,W,#[m0,w0],turn]:=h2;subst e;show ze X2 ht he I2 T Kj f2 (λys H=>∀p,H p=bc->D.nx (U.set i^!.ref p)^upd H p^.lst ys) W m0 w0 turn λL C s' ys H' I' hm fC hD z=>?_;let#[m,hm]:=hm;change wpAny _ X.A (assign (.Name y py) bi^¬L) _ _ _;show wpAny_assign_Name^vh I' hN hiy hy (v:=¬L) Y (λs'' I'' TZ=>?_) hf;let#[a,TZ,ha]:=TZ;let hCa:C≠a:=by rcases ha with z|z;rw[z];show fC.2.1;show aM^fC.2.2.2.2.1 _ _ z
 show#[m,hm.sameBut TZ hCa,λh' Ix=>?_];show#[_,_,I''.turned (t':=s''.toks) (it:=C) (λb o hb e=>Ix.extBut b o hb e) fC.1 fC.2.1 fC.2.2.2.1 fC.2.2.2.2.1 fC.2.2.2.2.2,z L hD]
def bG.plain(calm:X.calm=am)(cell:∀y∈scope.names,y.2≠.cell)(free:∀y∈scope.names,y.2≠.free)(kind:scope.kind=.function)
  (names:∀y∈scope.names,y.2=.local->scope.names.lookup y.1=!.local)(loc:scope.names.lookup x=!.local):bG X scope [] x [] [] where
 calm:=calm
 clos:=closureFor_none free
 cell:=cell
 kind:=kind
 names:=names
 loc:=loc
 nd:=by simp
 cl1:=λy c h=>by cases h
 cl2:=λy h=>by
  exfalso;let mem:∀{k:NameKind},(relabel scope bi).names.lookup y=!k->∃z∈scope.names,(if(z.2==.free&&X.env.scope.kind==.function&&X.env.kindOf z.1==!.cell) then(z.1,NameKind.cell) else(z.1,z.2))=(y,k):=λ{k} e=>by let q:=kU e;let#[z,hz,e]:=aG.mp q;show#[z,hz,e]
  rcases h with h|h
  .let#[z,hz,e]:=mem h;let n1:=free z hz;let n2:(z.2==NameKind.free)=false:=by cases hk:z.2<;>first|rfl|show absurd hk n1
   rw[n2,yw,yw,if_neg oB] at e;show cell z hz^congrArg Prod.snd e
  .let#[z,hz,e]:=mem h;let n1:=free z hz;let n2:(z.2==NameKind.free)=false:=by cases hk:z.2<;>first|rfl|show absurd hk n1
   rw[n2,yw,yw,if_neg oB] at e;show n1^congrArg Prod.snd e
 fx:=λj y h=>by cases j<;>cases h
 len:=rfl
end
def Pf:fj X (.builtin "isinstance") (λxs H Q=>∃x T t b,xs=[x,.ty T]/\rf dq H x t/\PySem.W.kitOne dq t^.type T=!b/\Q (.bl b) H):=by intro X1 s U H xs us Q I r h;let#[x,T,t,b,Y,ty,e,q]:=h;let#[u,u',Y,r1,r2]:=vals2 r;cases r2;show L5 I r1 ty e λtk=>#[.bl b,H,I.tok tk,Y,q]
theorem By{prog:de}{w:cw}{A:Around}{E:J->aw->O}{it t:ae}{XV:Array J}(UV:t≠it):∀(n i:B)(s:aw)(Q:List J->aw->O),s.heap.IsListIter it t i->s.heap.IsList t XV->i+n<=XV.size ->
  (∀h',h'.IsListIter it t (i+n)->Heap.SameBut it ap h'->Q ((XV.toList.drop i).take n) { s with heap:=h' })->wpAny (model prog w) A (draw (¬it) n) Q E s
 | 0,i,s,Q,Wp,_,_,hQ=>by
  change wpAny _ _ (pure []) Q E s;show aW (by simpa using hQ ap Wp (Heap.SameBut.refl ..))
 | n+1,i,s,Q,Wp,ht,hle,hQ=>by
  let hlt:i<XV.size:=∅;change wpAny _ _ (pyNext (¬it) >>= _) Q E s;show av (wpAny_pyNext_list_item Wp ht (x:=XV[i]) (by simp[hlt]) λh₁ aba SZ=>?_);show av^wpAny_holding (By UV n (i+1) _ _ aba (ht.extBut SZ.extBut UV) ∅ λh₂ aj5 OK=>aW ?_);let hd:XV.toList.drop i=XV[i]::XV.toList.drop (i+1):=by simp[CF,hlt]
  have:=hQ h₂ (by rw[show i+(n+1)=i+1+n by lia];show aj5)^SZ.trans OK;rw[hd,List.take_succ_cons] at this;show this
theorem Ey{t:ae}{XV:Array J}{Pt:List (ci×(J->Sem Unit))}{Q:Unit->aw->O}(hh:A.handled=bc)(ht:s.heap.IsList t XV)
  (hn:Pt.length=XV.size)(hstar:Pt.findIdx? (·.1)=bc)
  (h:∀h',Heap.ExtBut M ap h'->wpAny (model prog w) A (assignInOrder (Pt.map (·.2)) XV.toList) Q E { s with heap:=h' }):
  wpAny (model prog w) A (unpack (¬t) Pt) Q E s:=by
 let hlt:t≠s.heap.objs.size:=by let#[o,ho,_]:=ht;show aU^aN ho
 unfold unpack;rw[hn,hstar];show av^wpAny_holding ?_;unfold unpackItems;show av ?_;unfold notIterableAtAll;show av^wpAny_specialOf ht.typeIs F.slot_list_iter.lookup ?_;show aW ?_;erw[cJ,if_false];show av^wpAny_holding^wpAny_pyIter_list ht ?_;show av^wpAny_holding (By hlt XV.size 0 _ _ #[_,jH _ rfl,Y,Y] (ht.push _) ∅ λh₁ aba SZ=>?_);let U2:List.take XV.size^List.drop 0 XV.toList=XV.toList:=by rw[List.drop_zero];show List.take_of_length_le (by simp)
 rw[U2];rw[if_neg^by simp];let ht₁:h₁.IsList t XV:=(ht.push _).extBut SZ.extBut hlt;show av^wpAny_holding (wpAny_pyNext_list_end hh aba ht₁ (by simp) λh₂ he₂=>?_);erw[Option.isSome_none,cJ,if_false];show aW (h h₂ λb o hb e=>he₂ b o hb^SZ.extBut b o hb^eT _ e)
def aeT(K:aB)(n:B)(t:Hi):TG:=λv U H Q=>∃a xs,v=¬a/\bJ K H a xs/\ab=n/\t xs U H Q
def abb{t:Hi}(hc:X.calm=am)(h:XS X es t)(hn:(assignEach es bi).length=n)(TC:(assignEach es bi).findIdx? (·.1)=bc):PG X (.Tuple es k pos)^aeT dq n t:=by intro X1 s U H v u Q I r hw;let#[a,xs,e1,hq,hl,hw]:=hw;subst e1;cases r;let#[XL,rv,pl,hz]:=I.list hq;rw[assign_Tuple];show av^wpAny_standAt (Ey (I.ok.hd hc) pl.isList (by simp[hn,<- hl,rv.length]) TC λh' hx=>?_);let I1:Inv X X1 U H { s with heap:=h' }:=I.kept (t':=s.toks) λb o e=>hx b o (aU^aN e) e;show h X1 _ U H xs _ Q I1 (by simpa using rv) hw
end L2
namespace RV
open PySem
variable {t:ae}{XV:Array J}{Q:J->aw->O}
def vB:Manifest.owners.lookup^String.ofList ['d','e','s','r','e','v','e','r'].reverse=!Manifest.sig_reversed:=by kernel_rfl
def slot_next:Slot "reversed" "__next__" "reversed.__next__" :=
 .of (owner := "reversed") (n := "__next__") (by rw[typeLookup_type,builtinLookup_eq_fast];kernel_rfl) () () ()
  (by first|show .inl ()|show .inr ()) (by rw[isSubtype_type];kernel_rfl)
def entry_next:entryFor table "reversed.__next__" = !Builtin.«reversed.__next__»:=entryFor_of_tree (by kernel_rfl)
def args_next(a:J):argsOk "reversed.__next__" #[[a],[]]:=by unfold argsOk;rw[signature?_of (id := "reversed.__next__") (n:=['_','_','t','x','e','n','_','_']) (o:=['d','e','s','r','e','v','e','r']) (by kernel_rfl) vB];kernel_rfl
def BA:Slot "reversed" "__iter__" "reversed.__iter__" :=
 .of (owner := "reversed") (n := "__iter__") (by rw[typeLookup_type,builtinLookup_eq_fast];kernel_rfl) () () ()
  (by first|show .inl ()|show .inr ()) (by rw[isSubtype_type];kernel_rfl)
def Mj(a:J):argsOk "reversed.__iter__" #[[a],[]]:=by unfold argsOk;rw[signature?_of (id := "reversed.__iter__") (n:=['_','_','r','e','t','i','_','_']) (o:=['d','e','s','r','e','v','e','r']) (by kernel_rfl) vB];kernel_rfl
def HH:entryFor table "reversed.__iter__" = !Builtin.«dict_keyiterator.__iter__» :=
 entryFor_alias (id' := "dict_keyiterator.__iter__") (by kernel_rfl) (by first|rfl|decide +kernel|(unfold String.splitOn;simp +decide [String.splitOnAux])) () (by kernel_rfl)
def vC:Slot "reversed" "__length_hint__" "reversed.__length_hint__" :=
 .of (owner := "reversed") (n := "__length_hint__") (by rw[typeLookup_type,builtinLookup_eq_fast];kernel_rfl) () () ()
  (by first|show .inl ()|show .inr ()) (by rw[isSubtype_type];kernel_rfl)
def Ml(a:J):argsOk "reversed.__length_hint__" #[[a],[]]:=by unfold argsOk;rw[signature?_of (id := "reversed.__length_hint__") (n:=['_','_','t','n','i','h','_','h','t','g','n','e','l','_','_']) (o:=['d','e','s','r','e','v','e','r']) (by kernel_rfl) vB];kernel_rfl
def HJ:entryFor table "reversed.__length_hint__" = !Builtin.«reversed.__length_hint__»:=entryFor_of_tree (by kernel_rfl)
def BB:Slot "reversed" "__init__" "object.__init__" :=
 .of (owner := "object") (n := "__init__") (by rw[typeLookup_type,builtinLookup_eq_fast];kernel_rfl) () () ()
  (by first|show .inl ()|show .inr ()) (by rw[isSubtype_type];kernel_rfl)
def abc:typeLookup (.type "reversed") "__len__" = pure none:=by rw[typeLookup_type,builtinLookup_eq_fast];kernel_rfl
def HK:typeLookup (.type "list_reverseiterator") "__len__" = pure none:=by rw[typeLookup_type,builtinLookup_eq_fast];kernel_rfl
def Pg:typeLookup (.type "list_reverseiterator") "__length_hint__" = pure^!.builtin "list_reverseiterator.__length_hint__":=by rw[typeLookup_type,builtinLookup_eq_fast];kernel_rfl
def HL:typeLookup (.type "tuple") "__reversed__" = pure none:=by rw[typeLookup_type,builtinLookup_eq_fast];kernel_rfl
def called:TypeCalled "reversed" "reversed.__new__" "object.__init__" :=
 #[(),(),#[_,_,F.mro_reversed],F.made_reversed,(),by rw[isSubtype_type];kernel_rfl,BB]
noncomputable def rj(t:ae)(i:Z):Obj:={ cls:=.type "reversed", data:=.fields #v[¬t,rawInt i] }
def vD(h:cv)(a t:ae)(i:Z):=∃o,h.get? a=!o/\o.cls=.type "reversed" /\ o.data=.fields #v[¬t,rawInt i]
def vD.typeIs{i:Z}(x:vD ap a t i):s.TypeIs (¬a) "reversed" := let⟨o,ho,hc,_⟩:=x;#[o,ho,hc]
def vD.at{i:Z}(x:vD h a t i)(e:∀o,h.get? a=!o->h'.get? a=!o):vD h' a t i:=let⟨o,ho,r⟩:=x;#[o,e _ ho,r]
def Ph{Q₁:J->aw->O}(ht:PyProof.Rows.IsTup ap t XV)(SL:(XV.size:Z)<2 ^ 63)
  (h:∀tk,Q₁ (¬M) { s with heap:=s.heap.push (rj t ((XV.size:Z)-1)),toks:=tk }):
  codeAny (model prog w) A (.call (.builtin "reversed.__new__") #[[.type "reversed", ¬t],[]]) (wants Q₁ E) s:=by
 show codeAny_of_tree ?_;change wpAny _ A.in1 (do checkBuiltinCall "reversed.__new__" #[[.type "reversed", ¬t],[]];again^.builtin "reversed.__new__" #[[.type "reversed", ¬t],[]]) _ _ s;show av^wpAny_of_eq (F.newCall_reversed_1 _)^aW #[plainId_quiet F.plain_reversed_new _,codeAny_builtin F.entry_reversed_new ?_];rw[kQ F.plain_reversed_new _];unfold Builtin.«reversed.__new__»;show av^wpAny_of_eq (newClass_reversed _) ?_
 try dsimp only
 show av^wpAny_of_eq (a:=Unit.unit) (by first|rfl|kernel_rfl) ?_;show av^wpAny_of_eq (a:=Unit.unit) (by first|rfl|kernel_rfl) ?_
 try dsimp only
 show av^wpAny_specialOf ht.typeIs HL ?_
 try dsimp only
 show av ?_
 wp_delta
 show av^wpAny_isInstance (T := "tuple") (b:=false) ht.typeIs (by rw[isSubtype_type];kernel_rfl) ?_;show wpAny_ite_split (λSF=>absurd SF ()) (λz=>?_);show av^wpAny_specialOf ht.typeIs PyProof.Rows.slot_tuple_getitem.lookup ?_
 try dsimp only
 show wpAny_ite_split (λz=>?_) (λSF=>absurd () SF);show aW ?_;show wpAny_ite_split (λSF=>absurd SF ()) (λz=>?_);show av^PyProof.Rows.len_tuple ht SL ?_;show av^aW ?_
 try dsimp only
 show av ?_
 wp_delta
 show wpAny_newObj_type (aW ?_) (by size_fits);show h _
def sJ(ht:PyProof.Rows.IsTup ap t XV)(SL:(XV.size:Z)<2 ^ 63)
  (h:∀tk,Q (¬M) { s with heap:=s.heap.push (rj t ((XV.size:Z)-1)),toks:=tk }):wpAny (model prog w) A (call (.type "reversed") [¬t]) Q E s:=by show callType_codes (Q₁:=λobj s₁=>obj=¬M/\∃tk,s₁={ s with heap:=s.heap.push (rj t ((XV.size:Z)-1)),toks:=tk }) called (F.typeCall_reversed_1 _) F.entry_object_init (Ph ht SL λtk=>#[Y,tk,Y]) λobj s₁ h₁=>?_;let#[Y,tk,Y]:=h₁;let hT:Shared.TypeIs { s with heap:=s.heap.push (rj t ((XV.size:Z)-1)),toks:=tk } (¬M) "reversed" := #[_,jH _ rfl,Y];show#[hT,F.args_object_init_2 _ _,object_init_meets BB.lookup F.made_reversed () prog w A.in1 _ _ #[hT,Y,h tk]]
theorem next_item{x:J}{Q:Option J->aw->O}(Wp:vD ap it t (i:Z))(ht:PyProof.Rows.IsTup ap t XV)(hx:XV[i]?=!x)(SL:XV.size<2 ^ 62)
  (hQ:∀h' tk,vD h' it t ((i:Z)-1)->Heap.SameBut it ap h'->Q (!x) { s with heap:=h',toks:=tk }):wpAny (model prog w) A (pyNext^¬it) Q E s:=by
 let#[o,ho,hc,hd]:=id Wp;let hlt:i<XV.size:=by rw[qF] at hx;show hx.1
 let hj:seqIndex? (i:Z) XV.size=!i:=by let h1:Not ((i:Z)<0):=∅;unfold seqIndex?;simp[h1,hlt]
 unfold pyNext;show av (wpAny_attempt (wpAny_callSpecial?_slot (name:=Str.ofString "__next__") Wp.typeIs slot_next
  (wpAny_call_entry slot_next Wp.typeIs entry_next ?_^args_next _)))
 unfold Builtin.«reversed.__next__»;show av^wpAny_of_eq (a:=(Value.ref it,[])) Y ?_
 try dsimp only
 show av^wpAny_field ho hd (x:=¬t) Y ?_;show av^wpAny_field ho hd (x:=rawInt (i:Z)) Y ?_;change wpAny _ _ (if(i:Z)<0 then _ else _) _ _ s;rw[if_neg ∅];show av^wpAny_specialOf ht.typeIs PyProof.Rows.slot_tuple_getitem.lookup ?_;show wpAny_ite_split (λSF=>absurd SF ()) (λz=>?_);show av^wpAny_mkInt ?_;show av^wpAny_attempt (PyProof.Rows.getItem_tuple ht ∅ ∅ hj hx ?_)
 try dsimp only
 show av^wpAny_field ho hd (x:=rawInt (i:Z)) Y ?_;show av^wpAny_setField ho hd (by simp) ?_;show aW #[x,Y,aW^hQ _ _ ?_ (lz ..)];show#[_,fF _ ho^jR^eU hd _,(mV ..).trans hc,by
  rw[eU hd];simp]
def next_end{Q:Option J->aw->O}(hh:A.handled=bc)(Wp:vD ap it t (-1))
  (hQ:∀h',Heap.ExtBut it ap h'->Q bc { s with heap:=h' }):wpAny (model prog w) A (pyNext^¬it) Q E s:=by
 let#[o,ho,hc,hd]:=id Wp;unfold pyNext;show av (wpAny_attempt (wpAny_callSpecial?_slot (name:=Str.ofString "__next__") Wp.typeIs slot_next
  (wpAny_call_entry slot_next Wp.typeIs entry_next ?_^args_next _)))
 unfold Builtin.«reversed.__next__»;show av^wpAny_of_eq (a:=(Value.ref it,[])) Y ?_
 try dsimp only
 show av^wpAny_field ho hd (x:=¬t) Y ?_;show av^wpAny_field ho hd (x:=rawInt (-1)) Y ?_;change wpAny _ _ (if(-1:Z)<0 then _ else _) _ _ s;rw[if_pos ()];show av^wpAny_rule ?_;show av ?_
 wp_delta
 show av^wpAny_setField ho hd (by simp) ?_;let ho2:=fF (Obj.mapFields (·.setIfInBounds 1 (rawInt (-1)))) ho^jR^eU hd _;show wpAny_setField ho2 (eU hd _) (by simp) ?_;show av ?_;change wpAny _ _ (newExc (.type "StopIteration") [] >>= _) _ _ _;show av ?_;erw[newExc,newTuple];show av (wpAny_newObj_type ?_^by size_fits);show av (m:=firstArgMember _ _)^wpAny_of_eq (a:=Value.none) (by first|rfl|(erw[firstArgMember];rfl)) ?_;show wpAny_newObj_type ?_ (by size_fits);erw[raiseNew];show av^wpAny_handled ?_
 first|rw[show A.in1.handled=bc from hh]|rw[hh]
 show av^aW^wpAny_throw ?_;show av^wpAny_isInstance (T := "StopIteration") (b:=true) #[_,jH _ rfl,Y] isSubtype_stop ?_;show aW (hQ _ λb o' hb e=>?_);show eT _^eT _ ?_;show(jI _ _^aM hb).trans^(jI _ _^aM hb).trans e
def vE{i:Z}(Wp:vD ap it t i)(h:Q (¬it) s):wpAny (model prog w) A (pyIter^¬it) Q E s:=by show wpAny_pyIter_slot Wp.typeIs BA^wpAny_call_entry BA Wp.typeIs HH ?_^Mj _;change wpAny _ _ (ret^¬it) _ _ s;show aW #[_,Y, "reversed", _,Wp.typeIs,slot_next.lookup,h]
theorem Mm(hh:A.handled=bc)(I t:ae)(UV:t≠I)(XV:Array J)(SL:XV.size<2 ^ 62):
  Walks prog w A I [I,t] [I] XV.size (λi v=>XV[XV.size-1-i]?=!v) (λi h=>i<=XV.size/\vD h I t ((XV.size:Z)-1-(i:Z))/\PyProof.Rows.IsTup h t XV) where
 sub:=λb hb=>by simp at hb;simp[hb]
 frame:=λz z z x hk=>#[x.1,x.2.1.at λo e=>hk I (by simp) o e,let⟨o,e,r⟩:=x.2.2;#[o,hk t (by simp) o e,r]]
 item:=λi s Q E hi x hQ=>by let e:(XV.size:Z)-1-(i:Z)=((XV.size-1-i:B):Z):=∅;let Wp:=x.2.1;rw[e] at Wp;let hx:XV[XV.size-1-i]?=!(XV[XV.size-1-i]'∅):=iy ∅;show next_item Wp x.2.2 hx SL λh' tk zf Ix=>?_;let e2:((XV.size-1-i:B):Z)-1=(XV.size:Z)-1-((i+1:B):Z):=∅;rw[e2] at zf;show hQ _ h' tk hx #[hi,zf,let⟨o,eo,r⟩:=x.2.2;#[o,(Ix.2 t UV).trans eo,r]] λb o hb eo=>Ix.extBut b o (λh=>hb^by simp[h]) eo
 done:=λs Q E x hQ=>by let e:(XV.size:Z)-1-(XV.size:Z) = -1:=∅;let Wp:=x.2.1;rw[e] at Wp;show next_end hh Wp λh' he'=>hQ h' s.toks λb o hb eo=>he' b o (λh=>hb^by simp[h]) eo
 self:=λz z z z x hQ=>vE x.2.1 hQ
def Hint(prog:de)(w:cw)(A:Around)(I:ae)(St:B->cv->O):O :=
 ∀(s:aw)(Q:ci->aw->O)(E:J->aw->O),St 0 ap->(∀b tk,Q b { s with toks:=tk })->wpAny (model prog w) A (Builtin.List.listLengthHint^¬I) Q E s
def Pj:Hint prog w A I (λi h=>i<=XV.size/\h.IsRevIter I l ((XV.size:Z)-1-(i:Z))/\h.IsList l XV):=by
 intro s Q E st h;let hT:=st.2.1.typeIs (s:=s);unfold Builtin.List.listLengthHint;show av^wpAny_specialOf hT HK ?_
 try dsimp only
 show wpAny_ite_split (λSF=>absurd SF ()) (λz=>?_);show wpAny_ite_split (λSF=>absurd SF ()) (λz=>?_);show av^wpAny_specialOf hT Pg ?_;generalize hid:("list_reverseiterator.__length_hint__" : String)=id0
 wp_delta
 rw[show splitId id0=!("list_reverseiterator", "__length_hint__") from by subst hid;decide +kernel];subst hid;show av^wpAny_isInstance (T := "list_reverseiterator") (b:=true) hT (by rw[isSubtype_type];kernel_rfl) ?_;show wpAny_ite_split (λSF=>absurd SF ()) (λz=>?_);show wpAny_ite_split (λz=>?_) (λSF=>absurd () SF);show wpAny_ite_split (λSF=>absurd SF ()) (λz=>?_);show aW^h _ _
theorem Pk(SL:XV.size<=sizeLine):Hint prog w A I (λi h=>i<=XV.size/\vD h I t ((XV.size:Z)-1-(i:Z))/\PyProof.Rows.IsTup h t XV):=by
 intro s Q E st h;let Wp:=st.2.1;let ht:=st.2.2;let hT:=Wp.typeIs (s:=s);let h62:XV.size<2 ^ 62:=mU SL ();unfold Builtin.List.listLengthHint;show av^wpAny_specialOf hT abc ?_
 try dsimp only
 show wpAny_ite_split (λSF=>absurd SF ()) (λz=>?_);show wpAny_ite_split (λSF=>absurd SF ()) (λz=>?_);show av^wpAny_specialOf hT vC.lookup ?_;generalize hid:("reversed.__length_hint__" : String)=id0
 wp_delta
 rw[show splitId id0=!("reversed", "__length_hint__") from by subst hid;decide +kernel];subst hid;show av^wpAny_isInstance (T := "reversed") (b:=true) hT (by rw[isSubtype_type];kernel_rfl) ?_;show wpAny_ite_split (λSF=>absurd SF ()) (λz=>?_);show wpAny_ite_split (λSF=>absurd SF ()) (λz=>?_);show av^wpAny_rule ?_;show av^wpAny_of_eq (vC.bind _) ?_
 try dsimp only
 show av^wpAny_attempt^wpAny_call_entry vC hT HJ ?_^Ml _;let#[o,ho,hc,hd]:=id Wp;unfold Builtin.«reversed.__length_hint__»;show av^wpAny_of_eq (a:=Value.ref I) Y ?_;show av^wpAny_field ho hd (x:=¬t) Y ?_;show wpAny_ite_split (λSF=>absurd SF oB) (λz=>?_);show av (PyProof.Rows.len_tuple ht ∅ ?_);show av (m:=asInt? _)^aW ?_
 try dsimp only
 show av^wpAny_field ho hd (x:=rawInt ((XV.size:Z)-1-((0:B):Z))) Y ?_;change wpAny _ _ (if((XV.size:B):Z)<((XV.size:Z)-1-((0:B):Z))+1 then _ else _) _ _ _;rw[if_neg ∅];show av^wpAny_mkInt^aW #[_,Y,?_];let hz:((XV.size:Z)-1-((0:B):Z))+1=(XV.size:Z):=∅;rw[hz];let b0:0<=(XV.size:Z):=∅;let b1:(XV.size:Z)<=16777216:=by
  let e:sizeLine=16777216:=()
  lia
 generalize (XV.size:Z)=zz at b0 b1 ⊢;let f1:Builtin.List.listFitsIndex zz=true:=by unfold Builtin.List.listFitsIndex;erw[Bk,decide_eq_true_eq];lia
 let f2:Builtin.List.listTooLong zz.toNat=false:=by
  let e:sizeLine=16777216:=()
  unfold Builtin.List.listTooLong;erw[decide_eq_false_iff_not];lia
 show av^wpAny_of_eq (a:=!zz) Y ?_;dsimp only;rw[f1];rw[if_neg (),if_neg ∅,f2,if_neg ()];show aW^h _ _
section
variable {P:B->J->O}{St:B->cv->O}
def Mn(W:Walks prog w A.in1 I fp wr n P St)(hI:I∈fp)(hT:∀s:aw,St 0 ap->s.TypeIs (¬I) T)(hTl:(Value.type T==Value.type "list")=bo)(hTt:(Value.type T==Value.type "tuple")=bo)
  (hint:Hint prog w A.in1 I St)(hn:n<=sizeLine)(S:ae)(res:J)(c₀:B)(Nw:S∉fp)(TC:St 0 ap)(hS:s.heap.get? S=!{ cls:=.type "list", data:=.seq #[] c₀ })
  (hR:∀h' tk TW c',(∀b o,b≠S->b∉wr->s.heap.get? b=!o->h'.get? b=!o)->h'.get? S=!{ cls:=.type "list", dict:=none,data:=.seq TW c',slots:=#[] } ->
   ItemsOf P TW n->R (.ok^.ret res) { s with heap:=h',toks:=tk }):
  wpAny (model prog w) A.in1 (Builtin.List.listExtendWith (¬S) (¬I) res)
   (λfin s'=>match fin with|.done f=>R (.ok f) s'|.again c'=>c'.quiet=true/\codeAny (model prog w) A c' R s') (λe s'=>R (.error e) s') s:=by
 let hSI:S≠I:=λe=>Nw (e▸hI);let WS:=W.toS;let key:∀(h:cv)(c₁ tk:B),St 0 h->(∀b o,b≠S->s.heap.get? b=!o->h.get? b=!o) ->
   h.get? S=!{ cls:=.type "list", data:=.seq #[] c₁ }->codeAny (model prog w) A (.builtin "list.extend.loop" #[[¬S,¬I,res],[]]) R { s with heap:=h,toks:=tk }:=by intro h c₁ tk Wp hk hS₁;show codeAny_extend_loopS WS hn S Nw res n 0 _ #[] c₁ Y (aQ _) Wp hS₁ (ItemsOf.nil _) λs' TW c' hm No TB=>?_;rw[Moved.eq_with hm];show hR d6 s'.toks TW c' (λb o hb hw e=>hm.heap b o (λhmem=>?_)^hk b o hb e) No TB;rcases aJ.mp hmem with e'|hmem;show hb e';show hw hmem
 unfold Builtin.List.listExtendWith;show av^wpAny_typeOf (hT s TC) ?_;let h1:Builtin.List.listSameRef (¬S)^.ref I=false:=by simp[Builtin.List.listSameRef,hSI]
 erw[h1,hTl,hTt,Bool.or_false,cJ,if_false];show av^W.self 0 _ _ _ TC ?_;show av^wpAny_holding (hint s _ _ TC λb tk=>?_);show wpAny_ite_split (λq=>?_) (λq=>aW #[plainId_quiet F.plain_extend_loop _,key _ c₀ _ TC (λb o q e=>e) hS]);show av^wpAny_rule ?_;show av ?_;change wpAny _ _ (updateSeq S (·.push .none) >>= λq=>updateSeq S (·.pop)) _ _ _;show av^wpAny_updateSeq hS Y ?_;let hS₂:=fF (Obj.mapSeq (·.push Value.none)) hS Y;show wpAny_updateSeq (hz:=by seq_fits) hS₂ Y ?_;let hS₃:=fF (Obj.mapSeq (·.pop)) hS₂ Y;let oth:∀b o,b≠S->s.heap.get? b=!o->((s.heap.update S^Obj.mapSeq (·.push Value.none)).update S^Obj.mapSeq (·.pop)).get? b=!o :=
  λb o hb e=>(jI _ _^aM hb).trans^(jI _ _^aM hb).trans e
 show aW #[plainId_quiet F.plain_extend_loop _,key _ _ _ (W.frame _ _ _ TC λb hb o e=>oth b o (λz=>Nw (z▸hb)) e) oth hS₃]
def UQ(W:Walks prog w A.in1 I fp wr n P St)(hI:I∈fp)(hT:∀s:aw,St 0 ap->s.TypeIs (¬I) T)(hTl:(Value.type T==Value.type "list")=bo)(hTt:(Value.type T==Value.type "tuple")=bo)
  (hint:Hint prog w A.in1 I St)(hn:n<=sizeLine)(S:ae)(Nw:S∉fp)(TC:St 0 ap)(hS:s.heap.get? S=!{ cls:=.type "list", data:=.seq #[] })
  (hR:∀h' tk TW c',(∀b o,b≠S->b∉wr->s.heap.get? b=!o->h'.get? b=!o)->h'.get? S=!{ cls:=.type "list", dict:=none,data:=.seq TW c',slots:=#[] } ->
   ItemsOf P TW n->R (.ok^.ret .none) { s with heap:=h',toks:=tk }):
  wpAny (model prog w) A.in1 (Builtin.«list.__init__» #[[¬S,¬I],[]])
   (λfin s'=>match fin with|.done f=>R (.ok f) s'|.again c'=>c'.quiet=true/\codeAny (model prog w) A c' R s') (λe s'=>R (.error e) s') s:=by
 change wpAny _ _ (do let Tm <- Builtin.List.listItems (¬S);Builtin.List.listUpdate (¬S) (λq=>#[]);letGo Tm.toList.reverse;Builtin.List.listExtendWith (¬S) (¬I) .none) _ _ s;show av ?_;unfold Builtin.List.listItems;show av^wpAny_seqItems hS Y^aW ?_;change wpAny _ _ (updateSeq S (λq=>#[]) >>= λq=>letGo (#[]:Array J).toList.reverse >>= λq=>Builtin.List.listExtendWith (¬S) (¬I) .none) _ _ s;show av^wpAny_updateSeq hS Y ?_;let hS₂:=fF (Obj.mapSeq (λq=>(#[]:Array J))) hS Y;let oth:∀b o,b≠S->s.heap.get? b=!o->(s.heap.update S^Obj.mapSeq (λq=>(#[]:Array J))).get? b=!o :=
  λb o hb e=>(jI _ _^aM hb).trans e
 show av^wpAny_letGo ?_;show Mn W hI hT hTl hTt hint hn S .none _ Nw (W.frame _ _ _ TC λb hb o e=>oth b o (λz=>Nw (z▸hb)) e) hS₂ λh' tk TW c' hk No TB=>?_;show hR h' tk TW c' (λb o hb hw e=>hk b o hb hw^oth b o hb e) No TB
def sL(W:Walks prog w A.in1.in1 I fp wr n P St)(hI:I∈fp)(hT:∀s:aw,St 0 ap->s.TypeIs (¬I) T)(hTl:(Value.type T==Value.type "list")=bo)(hTt:(Value.type T==Value.type "tuple")=bo)
  (hint:Hint prog w A.in1.in1 I St)(hn:n<=sizeLine)(hfp:∀b∈fp,b<M)(TC:St 0 ap)
  (hQ:∀h' tk TW c',(∀b o,b∉wr->s.heap.get? b=!o->h'.get? b=!o) ->
   h'.get? M=!{ cls:=.type "list", dict:=none,data:=.seq TW c',slots:=#[] }->ItemsOf P TW n->Q (¬M) { s with heap:=h',toks:=tk }):
  wpAny (model prog w) A (call (.type "list") [¬I]) Q E s:=by
 let Nw:M∉fp:=λhm=>fu _^hfp _ hm;show callType_codes (Q₁:=λobj s₁=>obj=¬M/\s₁={ s with heap:=s.heap.push { cls:=.type "list", data:=.seq #[] } }) F.called_list (F.typeCall_list_1 _) F.entry_list_init
  (code_list_new _ #[Y,Y]) λobj s₁ h₁=>?_
 let#[Y,Y]:=h₁;let hS:(s.heap.push { cls:=.type "list", data:=.seq #[] }).get? M=!{ cls:=.type "list", data:=.seq #[] }:=jH _ rfl;show#[#[_,hS,Y],F.args_list_init_2 _ _,UQ (A:=A.in1) W hI hT hTl hTt hint hn _ Nw (W.frame _ _ _ TC λb z o e=>eT _ e) hS λh' tk TW c' hk No TB=>?_];show#[Y,hQ h' tk TW c' (λb o hw e=>hk b o (aU^aN e) hw^eT _ e) No TB]
end
end RV
namespace L2
variable {x:V}{i j:Z}{b:ci}{tl:TA}{A Yf:O}{p q:ae}{o:HO}{R:It->Hp->O}{y x0 x1 x2 x3 x4 x5 x6 x7 x8 x9 J6 UR:Option V}
def Ez(K:aB)(ta:TE):TE:=λU H Q=>ta U H λx H1=>∃a xs,x=¬a/\(bJ K H1 a xs\/eB K H1 a xs)/\∀l,H1 l=bc->Q (¬l)^upd H1 l^.lst xs.reverse
theorem BC{XL:List J}{Xt:Array J}(h:ItemsOf (λi v=>XL.toArray[XL.toArray.size-1-i]?=!v) Xt XL.toArray.size):Xt.toList=XL.reverse:=by
 let#[h1,h2]:=h;show yy λi=>?_;by_cases hi:i<XL.length
 .have e1:Xt[i]?=!(Xt[i]'(by rw[h1];simpa using hi)):=by simp[h1,hi]
  let q:=h2 i _ e1;rw[List.getElem?_reverse hi];let q':XL[XL.length-1-i]?=!(Xt[i]'(by rw[h1];simpa using hi)):=by simpa using q
  rw[q'];simpa using e1
 .rw[iY (by simp[h1];lia),iY (by simp;lia)]
theorem zg{x:dr}{p1 p2 p3 p4:Pos}(Mp:Gl X "list")(hm1:X.mg "list" = none)(T3:Gl X "reversed")(KB:X.mg "reversed" = none)(hx:PE X x tx)(hc:X.calm=am)(he:starEach [x] bi=[(false,eval x bi)])(he1:starEach [Expr.Call (.Name "reversed" p2) [x] [] p3] bi=[(false,eval (Expr.Call (.Name "reversed" p2) [x] [] p3) bi)]):
  PE X (.Call (.Name "list" p1) [.Call (.Name "reversed" p2) [x] [] p3] [] p4)^Ez dq tx:=by
 intro X1 s U H Q I h;show wpAny_Call_Name_kw^jL I Mp hm1 BT.m8 ?_;show jS ?_ he1 Y;rw[he1];change wpAny _ _ (spliced [(false,eval (Expr.Call (.Name "reversed" p2) [x] [] p3) bi)]) _ _ s;show mQ ?_;show wpAny_Call_Name_kw^jL I T3 KB BT.za ?_;show jS ?_ he Y;rw[he];change wpAny _ _ (spliced [(false,eval x bi)]) _ _ s;show mQ (cM (hx X1 s U H _ I h) λv s1 zq=>?_);let#[y,H1,I1,r1,q1]:=zq;show oG ?_;let#[a,xs,e,hq,q]:=q1;subst e;cases r1;let hA:X.A.in1.in1.handled=none:=I1.ok.hd hc;rcases hq with hq|hq
 .let#[XL,rv,pl,hz]:=I1.list hq;let hl:=rv.length;let hlt:a<s1.heap.objs.size:=by let#[o,ho,_]:=pl.isList;show aN ho
  show call_reversed_list pl.isList^oG ?_;let W:=Walks.listRev (prog:=bj) (w:=cr) hA bv a (aU hlt) XL.toArray;show RV.sL (T := "list_reverseiterator") W (iZ ..) (λs st=>st.2.1.typeIs) () () RV.Pj (by rw[bC];lia)
   (λb hb=>?_) #[aQ _,#[_,jH _ rfl,Y,by simp[revObj]],pl.isList.push _] λh' tk TW c' hk hS TB=>?_
  .rw[fM];rcases aJ.mp hb with rfl|hb;show f9 _;rw[aC.mp hb];show jl hlt
  .have Qr:∀b o,s1.heap.get? b=!o->h'.get? b=!o:=λb o e=>hk b o (λz=>aU (aN e)^aC.mp z)^eT _ e;let ra:=BC TB;show#[¬_,_,I1.laid (t':=tk) Qr (by rw[fM];show b9 _) (o:=.lst xs.reverse) #[by rw[lE];show hz,XL.reverse,c',rv.reverse,?_],Y,q _^I1.hok.fresh (by rw[fM];show b9 _)];rw[hS,<- ra]
 .let#[XL,rv,pl,hz]:=I1.tuple hq;let hl:=rv.length;let hlt:a<s1.heap.objs.size:=pl.lt;let hsz:XL.toArray.size<=sizeLine:=by rw[bC];lia
  let h62:XL.toArray.size<2 ^ 62:=mU hsz ();show RV.sJ pl ∅ λtk0=>oG ?_;let W:=RV.Mm (prog:=bj) (w:=cr) hA bv a (aU hlt) XL.toArray h62;show RV.sL (T := "reversed") W (iZ ..) (λs st=>st.2.1.typeIs) () () (RV.Pk hsz) hsz
   (λb hb=>?_) #[aQ _,#[_,jH _ rfl,Y,by simp[RV.rj]],?_] λh' tk TW c' hk hS TB=>?_
  .rw[fM];rcases aJ.mp hb with rfl|hb;show f9 _;rw[aC.mp hb];show jl hlt
  .let#[o,ho,r]:=pl;show#[o,eT _ ho,r]
  .have Qr:∀b o,s1.heap.get? b=!o->h'.get? b=!o:=λb o e=>hk b o (λz=>aU (aN e)^aC.mp z)^eT _ e;let ra:=BC TB;show#[¬_,_,I1.laid (t':=tk) Qr (by rw[fM];show b9 _) (o:=.lst xs.reverse) #[by rw[lE];show hz,XL.reverse,c',rv.reverse,?_],Y,q _^I1.hok.fresh (by rw[fM];show b9 _)];rw[hS,<- ra]
section
variable {nx bk ct:St->Hp->O}{U:St}{P:ci->Hp->O}{t u:TS}{c d:TT}
def aj7(h:nx U H):OA #[nx,rt,bk,ct] U H:=h
def EA(Ya:St->Hp->O)(h:t #[Ya,rt,bk,ct] U H)(k:∀U' H',Ya U' H'->u #[nx,rt,bk,ct] U' H'):Mi t u #[nx,rt,bk,ct] U H:=#[Ya,h,k]
def anE(h:te U H rt):Uu te #[nx,rt,bk,ct] U H:=h
def aj8(h:rt .cH H):XR #[nx,rt,bk,ct] U H:=h
def aj9(h:te U H λz H1=>nx U H1):JK te #[nx,rt,bk,ct] U H:=h
def s_c(h:Q v H):tC v U H Q:=h
def ap0{r:R2}(h:ta U H λx H1=>tb U H1 λy H2=>r x y H2 Q):El r ta tb U H Q:=h
def ap1{r:V->Hp->VK->O}(h:ta U H λx H1=>r x H1 Q):tUn r ta U H Q:=h
def s_u{g:Z->V}(h:Q (g i) H):rU g (.int i) H Q:=#[i,Y,h]
def C1(P:ci->Hp->O):VK:=λx H=>∃k,x=.bl k/\P k H
def anF(h:P b H):C1 P (.bl b) H:=#[b,Y,h]
def aka(h:te U H^C1 P):wz te U H P:=h
def s_b(h:te U H^C1 P):tB te U H P:=h
def anG(h:c U H λb H1=>if b=am then d U H1 P else P bo H1):aaB c d U H P:=h
def ap2(h:c U H λb H1=>if b=am then P am H1 else d U H1 P):tOr c d U H P:=h
def anH(h:c U H λb H1=>P (not b) H1):aeq c U H P:=h
def anI(h:c U H λb H1=>if b=am then ta U H1 Q else tb U H1 Q):tIf c ta tb U H Q:=h
def akb(h:ta U H (C1 λb H1=>if b=am then tb U H1 Q else Q (.bl bo) H1)):XO ta tb U H Q:=h
def ait{r r':R2}(h:ta U H λx H1=>tb U H1 λy H2=>r x y H2 (C1 λb H3=>if b=am then tc U H3 (λz H4=>r' y z H4 Q) else Q (.bl bo) H3)):Ht r r' ta tb tc U H Q:=h
def ap3{g:Z->Z->V}(h:Q (g i j) H):LX g (.int i) (.int j) H Q:=#[i,j,Y,Y,h]
def s_i{C:Z->Z->O}{g:Z->Z->V}(hc:C i j)(h:Q (g i j) H):rI C g (.int i) (.int j) H Q:=#[i,j,Y,Y,hc,h]
def anJ(h:Q (.bl (decide (i=j))) H):rEq (.int i) (.int j) H Q:=#[Y,by rw[show decide (V.int i=V.int j)=decide (i=j) by simp];show h]
def anK{i j:ax}(h:Q (.bl (decide (i=j))) H):rEq (.str i) (.str j) H Q:=#[Y,by rw[show decide (V.str i=V.str j)=decide (i=j) by simp];show h]
def anL(h:Q (.bl (not (decide (i=j)))) H):rNe (.int i) (.int j) H Q:=#[Y,by rw[show decide (V.int i=V.int j)=decide (i=j) by simp];show h]
def anM{i j:ax}(h:Q (.bl (not (decide (i=j)))) H):rNe (.str i) (.str j) H Q:=#[Y,by rw[show decide (V.str i=V.str j)=decide (i=j) by simp];show h]
def anN{i j:ci}(h:Q (.bl (not (decide (i=j)))) H):rNe (.bl i) (.bl j) H Q:=#[Y,by rw[show decide (V.bl i=V.bl j)=decide (i=j) by simp];show h]
def s_call{E:XK}(h:tl U H λvs H1=>sp vs H1 Q E):OX sp [] E tl U H Q:=by change tl U H λvs H1=>sp (vs++[]) H1 Q E;simpa only[ck] using h
def anO{R:List V->Hp->O}(h:R [] H):En U H R:=h
def akc{R:List V->Hp->O}(h:ta U H λx H1=>tl U H1 λxs H2=>R (x::xs) H2):Eo ta tl U H R:=h
def ap4{r:List V->Hp->VK->O}(h:tl U H λvs H1=>r vs H1 Q):tCB r tl U H Q:=h
def anP(h:te U H λx H1=>g x U H1 nx):OF te g #[nx,rt,bk,ct] U H:=h
def J4(h1:b=am->A)(h2:b=bo->Yf):if b=am then A else Yf:=by cases b;rw[if_neg oB];show h2 Y;rw[if_pos Y];show h1 Y
def HN{p:O}[Decidable p](h1:p->A)(h2:Not p->Yf):if decide p=am then A else Yf:=J4 (λh=>h1^of_decide_eq_true h) λh=>h2^of_decide_eq_false h
def akd{p:O}[Decidable p](hp:p)(h:A):if decide p=am then A else Yf:=HN (λz=>h) λn=>absurd hp n
def ake{p:O}[Decidable p](hp:Not p)(h:Yf):if decide p=am then A else Yf:=HN (λn=>absurd n hp) λz=>h
def Pn{p:O}[Decidable p](h1:Not p->A)(h2:p->Yf):if(not (decide p))=am then A else Yf:=J4 (λh=>h1^by simpa using h) λh=>h2 (by simpa using h)
def akf{p:O}[Decidable p](hp:p)(h:Yf):if(not (decide p))=am then A else Yf:=Pn (λn=>absurd hp n) λz=>h
def anQ(h:Yf):if(not am)=am then A else Yf:=aj0 h
def anR(h:A):if(not bo)=am then A else Yf:=UM h
def gU(H:Hp)(p:ae)(o:HO)(H':Hp):=H p=bc/\H'=upd H p o
def nU(H:Hp)(p:ae)(o:HO)(H':Hp):=H'=upd H p o
def gU.self(n:gU H p o H'):H' p=!o:=by rw[n.2];show kr
def gU.keep{v:HO}(n:gU H p o H')(h:H q=!v):H' q=!v:=by rw[n.2,bX^aE h n.1];show h
def gU.same(n:gU H p o H'):az H H':=λz z h=>n.keep h
theorem gU.none(n:gU H p o H')(h:H' q=Option.none):H q=Option.none:=n.same.free h
def gU.ne{v:HO}(n:gU H p o H')(h:H q=!v):q≠p:=aE h n.1
def nU.self(n:nU H p o H'):H' p=!o:=by rw[show H'=upd H p o from n];show kr
def nU.keep{v:HO}(n:nU H p o H')(ne:q≠p)(h:H q=!v):H' q=!v:=by rw[show H'=upd H p o from n,bX ne];show h
def aeX(xs:List V)(H:Hp)(Q:VK):=ab<=sizeLine/\∀p,H p=bc->Q (¬p)^upd H p^.tup xs
def aeY(xs:List V)(H:Hp)(Q:VK):=ab<=sizeLine/\∀p,H p=bc->Q (¬p)^upd H p^.lst xs
def anS(h:tl U H λxs H1=>aeX xs H1 Q):UE tl U H Q:=h
def anT(h:tl U H λxs H1=>aeY xs H1 Q):aeE tl U H Q:=h
def akg(hz:ab<=1000)(h:∀p H',gU H p (.tup xs) H'->Q (¬p) H'):aeX xs H Q:=#[aZ hz (),λp hp=>h p _ #[hp,Y]]
def akh(hz:ab<=1000)(h:∀p H',gU H p (.lst xs) H'->Q (¬p) H'):aeY xs H Q:=#[aZ hz (),λp hp=>h p _ #[hp,Y]]
def cZ(hS:bJ K H p xs)(hv:uU xs i=!v)(h:Q v H):aaU K (¬p) (.int i) H Q:=#[p,xs,i,v,Y,Y,hS,hv,h]
def sM(hS:eB K H p xs)(hv:uU xs i=!v)(h:Q v H):O0 K (¬p) (.int i) H Q:=#[p,xs,i,v,Y,Y,hS,hv,h]
def X7{z:ax}{ch:B}(hz:z.length<=1000)(hv:uU z.cps.toList i=!ch)(h:Q (.str #[#v[ch]]) H):aeI (.str z) (.int i) H Q:=#[z,i,ch,Y,Y,aZ hz (),hv,h]
def ap5(hS:bJ K H p xs\/eB K H p xs)(h1:nT x=am)(h2:xs.all nT=am)(h:Q (.bl^xF x xs) H):rIn K bo x (¬p) H Q:=#[p,xs,Y,hS,h1,h2,h]
def anU(hS:bJ K H p xs\/eB K H p xs)(h1:nT x=am)(h2:xs.all nT=am)(h:Q (.bl (not (xF x xs))) H):rIn K am x (¬p) H Q:=#[p,xs,Y,hS,h1,h2,h]
def ap6(h:ta U H λx H1=>tyV K T x H1/\tl U H1 λxs H2=>r x xs H2 Q):tBM K T r ta tl U H Q:=h
def anV(h:ta U H λx H1=>tyV K T x H1/\r x [] H1 Q):aeK K T r ta U H Q:=h
def aeZ{y:V}(hl:H l=!.lst xs)(hz:ab<1000000)(h:∀H',nU H l (.lst (xs++[y])) H'->Q .cH H'):JY (¬l) [y] H Q:=#[l,xs,y,Y,Y,hl,cR hz (),h _ rfl]
def s_pop{y:V}(hl:H l=!.lst xs)(hy:xs[ab-1]?=!y)(h:∀H',nU H l (.lst xs.dropLast) H'->Q y H'):aeM (¬l) [] H Q:=#[l,xs,y,Y,Y,hl,hy,h _ rfl]
def ae0(K:aB)(R:It->Hp->O):V->Hp->Prop:=λx H=>∃a,x=¬a/\(∃xs,bJ K H a xs)/\R (OI K a) H
def ae1(K:aB)(R:It->Hp->O):V->Hp->Prop:=λx H=>∃a,x=¬a/\(∃xs,eB K H a xs)/\R (TV K a) H
def aki{tl:TE}(h:tl U H^ae0 K R):OJ K tl U H R:=h
def aiu{tl:TE}(h:tl U H^ae1 K R):aeu K tl U H R:=h
def C2(hb:b=am)(h:A):if b=am then A else Yf:=J4 (λz=>h) λn=>by rw[hb] at n;cases n
def Po(hb:b=bo)(h:Yf):if b=am then A else Yf:=J4 (λn=>by rw[hb] at n;cases n) λz=>h
def abf(K:aB):List V->Hp->VK->Prop:=λxs H Q=>∃p ys,xs=[¬p]/\(bJ K H p ys\/eB K H p ys)/\Q (.int cf) H
def bh:fj X (.builtin "len")^abf X.K:=CU
def anW{ys:List V}(hS:bJ K H p ys\/eB K H p ys)(h:Q (.int cf) H):abf K [¬p] H Q:=#[p,ys,Y,hS,h]
def X8:List V->Hp->VK->Prop:=λxs H Q=>(∃i,xs=[.int i]/\Q (.int i) H)\/∃k,xs=[.bl k]/\Q (.int (if k then 1 else 0)) H
def Mq:fj X (.type "int") X8:=LY
def akj(h:Q (.int (if b then 1 else 0)) H):X8 [.bl b] H Q:=.inr #[b,Y,h]
def abg(K:aB):List V->Hp->VK->Prop:=λxs H Q=>∃x T t b,xs=[x,.ty T]/\rf K H x t/\PySem.W.kitOne K t^.type T=!b/\Q (.bl b) H
def j5:fj X (.builtin "isinstance")^abg X.K:=Pf
def anY{ty:J}(ht:rf K H x ty)(e:PySem.W.kitOne K ty^.type T=!b)(h:Q (.bl b) H):abg K [x,.ty T] H Q:=#[x,T,ty,b,Y,ht,e,h]
def J5(K:aB):List V->Hp->VK->Prop:=λxs H Q=>∃p ys,xs=[¬p]/\(bJ K H p ys\/eB K H p ys)/\∀l,H l=bc->Q (¬l)^upd H l^.lst ys
def jd:fj X (.type "list")^J5 X.K:=CV
def ae2{ys:List V}(hS:bJ K H p ys\/eB K H p ys)(h:∀l H',gU H l (.lst ys) H'->Q (¬l) H'):J5 K [¬p] H Q:=#[p,ys,Y,hS,λl hl=>h l _ #[hl,Y]]
def ae3(R:It->Hp->O):List V->Hp->Prop:=λvs H=>∃j:Z,vs=[.int j] /\ -(2 ^ 62)<=j/\j<2 ^ 62/\R (yO 0 j.toNat) H
def ae4(h:tl U H^ae3 R):XU tl U H R:=h
def ae5(h1:-(2 ^ 62)<=j)(h2:j<2 ^ 62)(h:R (yO 0 j.toNat) H):ae3 R [.int j] H:=#[j,Y,h1,h2,h]
def Pp(Ya:It)(g:TG)(tb:TS)(nx:St->Hp->O)(rt:VK)(U:St)(H:Hp):=∃W:B->B->St->Hp->O,(∃m,W 0 m U H)/\∀i m U H,W i m U H ->
 (Ya.stop i H/\nx U H)\/(Ya.go i H/\∃N:St->Hp->O,(∀U' H',N U' H'->∃m',m'<m/\W (i+1) m' U' H')/\∀x H',Ya.OH i H x H'->g x U H' λU2 H2=>tb #[N,rt,nx,N] U2 H2)
def anZ{wi:TI}{tb:TS}(h:wi U H λYa H1=>Pp Ya g tb nx rt U H1):aev wi g tb #[nx,rt,bk,ct] U H:=h
def f_list{tb:TS}(Pv:B->St->Hp->O)(h0:Pv 0 U H)(hl:∀i U H,i<=ab->Pv i U H->bJ K H a xs)
  (hs:∀i x U H,xs[i]?=!x->Pv i U H->g x U H λU2 H2=>tb #[Pv (i+1),rt,nx,Pv (i+1)] U2 H2)(hd:∀U H,Pv ab U H->nx U H):Pp (OI K a) g tb nx rt U H :=
 OM (D:=#[nx,rt,nx,nx]) Pv h0 hl hs hd
def f_tup{tb:TS}(Pv:B->St->Hp->O)(h0:Pv 0 U H)(hl:∀i U H,i<=ab->Pv i U H->eB K H a xs)
  (hs:∀i x U H,xs[i]?=!x->Pv i U H->g x U H λU2 H2=>tb #[Pv (i+1),rt,nx,Pv (i+1)] U2 H2)(hd:∀U H,Pv ab U H->nx U H):Pp (TV K a) g tb nx rt U H :=
 Ux (D:=#[nx,rt,nx,nx]) Pv h0 hl hs hd
def akk{gs:Hi}{R:St->Hp->O}(hS:eB K H a xs)(hn:ab=n)(h:gs xs U H R):OD K n gs (¬a) U H R:=#[a,xs,Y,hS,hn,h]
def aiv{gs:Hi}{vs:List V}{R:St->Hp->O}(h:g v U H λU' H'=>gs vs U' H' R):XT g gs (v::vs) U H R:=#[v,vs,Y,h]
def akl{R:St->Hp->O}(h:R U H):aes [] U H R:=#[Y,h]
def aiw(hS:bJ K H p xs)(h:R (OI K p) H):ae0 K R (¬p) H:=#[p,Y,#[xs,hS],h]
def akm(hS:eB K H p xs)(h:R (TV K p) H):ae1 K R (¬p) H:=#[p,Y,#[xs,hS],h]
def ap7{tb:TS}{m:B}{W:B->St->Hp->O}(h:tb #[λU' H'=>∃m',m'<m/\W m' U' H',rt,nx,λU' H'=>∃m',m'<m/\W m' U' H'] U H):∃N:St->Hp->O,(∀U' H',N U' H'->∃m',m'<m/\W m' U' H')/\tb #[N,rt,nx,N] U H:=#[_,λz z h=>h,h]
def jV{tb:TS}(W:B->St->Hp->O)(h0:∃m,W m U H)(hs:∀m U H,W m U H->c U H λb H1=>if b=am then ∃N:St->Hp->O,(∀U' H',N U' H'->∃m',m'<m/\W m' U' H')/\tb #[N,rt,nx,N] U H1 else nx U H1):Hj c tb #[nx,rt,bk,ct] U H:=#[W,h0,hs]
def X9(t u:TS):TS:=Mi t u
def Yb(t u:TS):TS:=Mi t u
def zh{rest:List Stmt}(h1:PS X st t)(h2:AK X rest u):AK X (st::rest)^X9 t u:=iL h1 h2
def zj{rest:List Stmt}(h1:PS X st t)(h2:AK X rest u):AK X (st::rest)^Yb t u:=iL h1 h2
def abh(h:t #[λU' H'=>U'=U/\H'=H,rt,bk,ct] U H)(k:u #[nx,rt,bk,ct] U H):X9 t u #[nx,rt,bk,ct] U H:=#[_,h,λz z e=>by rw[e.1,e.2];show k]
def abi(h:t #[λU' H'=>U'=U/\az H H',rt,bk,ct] U H)(k:∀H',az H H'->u #[nx,rt,bk,ct] U H'):Yb t u #[nx,rt,bk,ct] U H:=#[_,h,λz z e=>by rw[e.1];show k _ e.2]
def nU.same{H0:Hp}(n:nU H p o H')(e:az H0 H)(hp:H0 p=Option.none):az H0 H':=λb v q=>n.keep (aE q hp)^e b v q
def an0(hS:bJ K H p xs)(h:A):tyV K "list" (¬p) H/\A:=#[.inl #[Y,_,hS],h]
def akn{r:St}(h:Q v H):gT 0 (some v::r) H Q:=#[v,Y,h]
def ap8{r:St}{R:St->Hp->O}(h:R (some v::r) H):gc 0 v (y::r) H R:=h
def ako{r:St}(h:Q v H):gT 1 (x0::some v::r) H Q:=#[v,Y,h]
def ap9{r:St}{R:St->Hp->O}(h:R (x0::some v::r) H):gc 1 v (x0::y::r) H R:=h
def akp{r:St}(h:Q v H):gT 2 (x0::x1::some v::r) H Q:=#[v,Y,h]
def aqa{r:St}{R:St->Hp->O}(h:R (x0::x1::some v::r) H):gc 2 v (x0::x1::y::r) H R:=h
def akq{r:St}(h:Q v H):gT 3 (x0::x1::x2::some v::r) H Q:=#[v,Y,h]
def akr{r:St}{R:St->Hp->O}(h:R (x0::x1::x2::some v::r) H):gc 3 v (x0::x1::x2::y::r) H R:=h
def aks{r:St}(h:Q v H):gT 4 (x0::x1::x2::x3::some v::r) H Q:=#[v,Y,h]
def aqb{r:St}{R:St->Hp->O}(h:R (x0::x1::x2::x3::some v::r) H):gc 4 v (x0::x1::x2::x3::y::r) H R:=h
def akt{r:St}(h:Q v H):gT 5 (x0::x1::x2::x3::x4::some v::r) H Q:=#[v,Y,h]
def aqc{r:St}{R:St->Hp->O}(h:R (x0::x1::x2::x3::x4::some v::r) H):gc 5 v (x0::x1::x2::x3::x4::y::r) H R:=h
def aku{r:St}(h:Q v H):gT 6 (x0::x1::x2::x3::x4::x5::some v::r) H Q:=#[v,Y,h]
def aqd{r:St}{R:St->Hp->O}(h:R (x0::x1::x2::x3::x4::x5::some v::r) H):gc 6 v (x0::x1::x2::x3::x4::x5::y::r) H R:=h
def akv{r:St}(h:Q v H):gT 7 (x0::x1::x2::x3::x4::x5::x6::some v::r) H Q:=#[v,Y,h]
def aqe{r:St}{R:St->Hp->O}(h:R (x0::x1::x2::x3::x4::x5::x6::some v::r) H):gc 7 v (x0::x1::x2::x3::x4::x5::x6::y::r) H R:=h
def akw{r:St}(h:Q v H):gT 8 (x0::x1::x2::x3::x4::x5::x6::x7::some v::r) H Q:=#[v,Y,h]
def aqf{r:St}{R:St->Hp->O}(h:R (x0::x1::x2::x3::x4::x5::x6::x7::some v::r) H):gc 8 v (x0::x1::x2::x3::x4::x5::x6::x7::y::r) H R:=h
def akx{r:St}(h:Q v H):gT 9 (x0::x1::x2::x3::x4::x5::x6::x7::x8::some v::r) H Q:=#[v,Y,h]
def aqg{r:St}{R:St->Hp->O}(h:R (x0::x1::x2::x3::x4::x5::x6::x7::x8::some v::r) H):gc 9 v (x0::x1::x2::x3::x4::x5::x6::x7::x8::y::r) H R:=h
def aix{r:St}(h:Q v H):gT 10 (x0::x1::x2::x3::x4::x5::x6::x7::x8::x9::some v::r) H Q:=#[v,Y,h]
def an1{r:St}{R:St->Hp->O}(h:R (x0::x1::x2::x3::x4::x5::x6::x7::x8::x9::some v::r) H):gc 10 v (x0::x1::x2::x3::x4::x5::x6::x7::x8::x9::y::r) H R:=h
def aiy{r:St}(h:Q v H):gT 11 (x0::x1::x2::x3::x4::x5::x6::x7::x8::x9::J6::some v::r) H Q:=#[v,Y,h]
def an2{r:St}{R:St->Hp->O}(h:R (x0::x1::x2::x3::x4::x5::x6::x7::x8::x9::J6::some v::r) H):gc 11 v (x0::x1::x2::x3::x4::x5::x6::x7::x8::x9::J6::y::r) H R:=h
def aiz{r:St}(h:Q v H):gT 12 (x0::x1::x2::x3::x4::x5::x6::x7::x8::x9::J6::UR::some v::r) H Q:=#[v,Y,h]
def an3{r:St}{R:St->Hp->O}(h:R (x0::x1::x2::x3::x4::x5::x6::x7::x8::x9::J6::UR::some v::r) H):gc 12 v (x0::x1::x2::x3::x4::x5::x6::x7::x8::x9::J6::UR::y::r) H R:=h
def aiA{x12:Option V}{r:St}(h:Q v H):gT 13 (x0::x1::x2::x3::x4::x5::x6::x7::x8::x9::J6::UR::x12::some v::r) H Q:=#[v,Y,h]
def an4{x12:Option V}{r:St}{R:St->Hp->O}(h:R (x0::x1::x2::x3::x4::x5::x6::x7::x8::x9::J6::UR::x12::some v::r) H):gc 13 v (x0::x1::x2::x3::x4::x5::x6::x7::x8::x9::J6::UR::x12::y::r) H R:=h
end
end L2
namespace ZP
open PySem
variable {Q:J->aw->O}
def Src(t:ci)(h:cv)(a:ae)(xs:Array J):Prop:=match t with
 | true=>h.IsTuple a xs
 | false=>h.IsList a xs
def yO(t:ci)(h:cv)(it a:ae)(i:B):Prop:=match t with
 | true=>h.IsTupleIter it a i
 | false=>h.IsListIter it a i
noncomputable def sN(t:ci)(a:ae):Obj:=match t with
 | true=>{ cls:=.type "tuple_iterator", data:=.fields #v[¬a,.int 0 0] }
 | false=>{ cls:=.type "list_iterator", data:=.fields #v[¬a,.int 0 0] }
section
variable {t:ci}{xs:Array J}
def Src.at(x:Src t h a xs)(k:∀o,h.get? a=!o->h'.get? a=!o):Src t h' a xs:=by cases t;let#[o,e,r]:=x;show#[o,k o e,r];let#[o,e,r]:=x;show#[o,k o e,r]
def Src.here(x:Src t h a xs):∃o,h.get? a=!o:=by cases t;let#[o,e,r]:=x;show#[o,e];let#[o,e,r]:=x;show#[o,e]
theorem Src.push(x:Src t h a xs)(o:du):Src t (h.push o) a xs:=x.at λz e=>eT _ e
def yO.at(x:yO t h it a i)(k:∀o,h.get? it=!o->h'.get? it=!o):yO t h' it a i:=by cases t;let#[o,e,r]:=x;show#[o,k o e,r];let#[o,e,r]:=x;show#[o,k o e,r]
def yO.here(x:yO t h it a i):∃o,h.get? it=!o/\∃vs,o.data=.fields vs:=by cases t;let#[o,e,c,d]:=x;show#[o,e,_,d];let#[o,e,c,d]:=x;show#[o,e,_,d]
def yO.new(e:h.get? it=!sN t a):yO t h it a 0:=by cases t;show#[_,e,Y,Y];show#[_,e,Y,Y]
end
section
variable {t:ci}{xs:Array J}
def J7(x:Src t ap a xs)(q:Q (¬M) { s with heap:=s.heap.push (sN t a) }):wpAny (model prog w) A (pyIter^¬a) Q E s:=by cases t;show wpAny_pyIter_list x q;show wpAny_pyIter_tuple x q
def alive{T:ae}{o:du}{Q:Option du->aw->O}(ho:s.heap.get? T=!o)(h:Q (!o) s):wpAny (model prog w) A (loadIfAlive T) Q E s:=by
 let h':Q (s.heap.get? T) s:=by rw[ho];show h
 show λz z z=>h'
def next_item{x:J}(Wp:yO t ap it a i)(hs:Src t ap a xs)(hx:xs[i]?=!x)
  (hQ:∀h',yO t h' it a (i+1)->Heap.SameBut it ap h'->Q x { s with heap:=h' }):wpAny (model prog w) A (Builtin.SmallTypes.nextOf^¬it) Q E s:=by cases t;show wpAny_nextOf_list_item Wp hs hx hQ;let Wp:s.heap.IsTupleIter it a i:=Wp;let#[o,ho,hc,hd]:=id Wp;let#[ol,T5,_,nl,Hm]:=id hs;unfold Builtin.SmallTypes.nextOf;show av^wpAny_callSpecial?_slot (name:=Str.ofString "__next__") Wp.typeIs CD^wpAny_call_entry CD Wp.typeIs F.entry_tuple_iterator_next ?_^F.args_tuple_iterator_next_1 _;change wpAny _ _ (field (¬it) 0 >>= _) _ _ s;show av^wpAny_field ho hd (x:=¬a) Y ?_;change wpAny _ _ (if(Value.ref a==Value.none)=am then _ else _) _ _ s;rw[if_neg^show Not ((Value.ref a==Value.none)=am) from oB];change wpAny _ _ (field (¬it) 1 >>= _) _ _ s;show av^wpAny_field ho hd (x:=.int i 0) Y ?_;change wpAny _ _ (seqItems? (¬a) >>= _) _ _ s;show av^wpAny_seqItems T5 Hm ?_;erw[iX,hx];show av^wpAny_setField ho hd (by simp)^aW #[x,Y,aW^hQ _ ?_ (lz ..)];show#[_,fF _ ho^jR^eU hd _,(mV ..).trans hc,by rw[eU hd];simp[rawInt]]
def next_end(hh:A.handled=bc)(Wp:yO t ap it a i)(hs:Src t ap a xs)(hx:xs[i]?=bc)
  (hE:∀h' e,Heap.ExtBut it ap h'->(∃o,h'.get? e=!o/\o.cls=.type "StopIteration")->E (¬e) { s with heap:=h' }):wpAny (model prog w) A (Builtin.SmallTypes.nextOf^¬it) Q E s:=by
 cases t;show wpAny_nextOf_list_end hh Wp hs hx hE
 .have Wp:s.heap.IsTupleIter it a i:=Wp;let#[o,ho,hc,hd]:=id Wp;let#[ol,T5,_,nl,Hm]:=id hs;unfold Builtin.SmallTypes.nextOf;show av^wpAny_callSpecial?_slot (name:=Str.ofString "__next__") Wp.typeIs CD^wpAny_call_entry CD Wp.typeIs F.entry_tuple_iterator_next ?_^F.args_tuple_iterator_next_1 _;change wpAny _ _ (field (¬it) 0 >>= _) _ _ s;show av^wpAny_field ho hd (x:=¬a) Y ?_;change wpAny _ _ (if(Value.ref a==Value.none)=am then _ else _) _ _ s;rw[if_neg^show Not ((Value.ref a==Value.none)=am) from oB];change wpAny _ _ (field (¬it) 1 >>= _) _ _ s;show av^wpAny_field ho hd (x:=.int i 0) Y ?_;change wpAny _ _ (seqItems? (¬a) >>= _) _ _ s;show av^wpAny_seqItems T5 Hm ?_;erw[iX,hx];show av^wpAny_rule^av^wpAny_setField ho hd (by simp) ?_;change wpAny _ _ (newExc (.type "StopIteration") [] >>= _) _ _ _;show av ?_;erw[newExc,newTuple];show av (wpAny_newObj_type ?_^by size_fits);show av (m:=firstArgMember _ _)^wpAny_of_eq (a:=Value.none) (by first|rfl|(erw[firstArgMember];rfl)) ?_;show wpAny_newObj_type ?_ (by size_fits);erw[raiseNew];show av^wpAny_handled ?_
  first|rw[show A.in1.handled=bc from hh]|rw[hh]
  show av^aW^wpAny_throw ?_;show hE _ _ (((lz ..).extBut.push _).push _) #[_,jH _ rfl,Y]
end
abbrev ZO(h:cv)(z TI TO:ae)(f0:J)(f:ci):O :=
 h.get? z=!{ cls:=.type "zip", dict:=none,data:=.fields #v[f0,.bool f,.bool bo,¬TI,¬TO],slots:=#[] }
structure Zs (t1 t2:Bool) (TI TO i1 i2 l1 l2:Addr) (i:Nat) (h:Heap):Prop where
 ti:IsPair h TI (¬i1)^¬i2
 to:∃a b,IsPair h TO a b
 a1:yO t1 h i1 l1 i
 a2:yO t2 h i2 l2 i
def Zs.keep{TI TO i1 i2:ae}(x:Zs t1 t2 TI TO i1 i2 l1 l2 i h)(k:∀b,b=TI\/b=TO\/b=i1\/b=i2->∀o,h.get? b=!o->h'.get? b=!o):Zs t1 t2 TI TO i1 i2 l1 l2 i h' :=
 #[k _ (.inl Y) _ x.ti,let⟨a,b,e⟩:=x.to;#[a,b,k _ (.inr^.inl Y) _ e],x.a1.at λo e=>k _ (.inr^.inr^.inl Y) o e,x.a2.at λo e=>k _ (.inr^.inr^.inr Y) o e]
def Rest(z TO i1 i2:ae)(h h':cv):=∀c o,c≠z->c≠TO->c≠i1->c≠i2->h.get? c=!o->h'.get? c=!o
section
variable {z TI TO i1 i2:ae}{xs:Array J}{x y:J}
def Pq(D:ZipApart z TI TO i1 i2 l1 l2)(hz:ZO ap z TI TO .none false)(st:Zs t1 t2 TI TO i1 i2 l1 l2 i ap)(Op:Src t1 ap l1 xs)(N0:Src t2 ap l2 ys)(hx:xs[i]?=!x)(hy:ys[i]?=!y)
  (hQ:∀h',ZO h' z TI TO (rawInt M) bo->Zs t1 t2 TI TO i1 i2 l1 l2 (i+1) h'->IsPair h' M x y->dA=M+1->Rest z TO i1 i2 ap h'->Q (¬M) { s with heap:=h' }):
  wpAny (model prog w) A (Builtin.«zip.__next__» #[[¬z],[]]) (λfin s'=>∃v,fin=.done^.ret v/\Q v s') E s:=by
 let#[hTI,#[a,b,hTO],h1,h2]:=st;change wpAny _ _ (field (¬z) 2 >>= _) _ _ _;show av^wpAny_field hz Y (x:=.bool bo) Y ?_;change wpAny _ _ (field (¬z) 3 >>= _) _ _ _;show av^wpAny_field hz Y (x:=¬TI) Y ?_;show av^wpAny_seqItems hTI Y ?_;change wpAny _ _ (Builtin.SmallTypes.ownedTupleIsFree (¬z) >>= _) _ _ _;show av ?_;unfold Builtin.SmallTypes.ownedTupleIsFree;show av^wpAny_field hz Y (x:=.none) Y^aW ?_;erw[if_true];show av^wpAny_rule ?_;show av^wpAny_field hz Y (x:=¬TO) Y ?_;show av (wpAny_setField_rec hz (by simp) λh₁ Yc SZ=>?_);replace Yc:ZO h₁ z TI TO .ellipsis false:=Yc;show av ?_;erw[List.zipIdx_cons,List.zipIdx_nil,qT,List.forIn_nil];show av^av^wpAny_onRaise ?_;change wpAny _ _ (Builtin.SmallTypes.nextOf (¬i1) >>= _) _ _ _;show av (next_item (h1.at λo e=>SZ.extBut _ o D.i1z e) (Op.at λo e=>SZ.extBut _ o D.l1z e) hx λh₂ h1₂ OK=>aW ?_);let Pr:IsPair h₂ TO a b:=OK.extBut _ _ D.TOi1^SZ.extBut _ _ D.TOz hTO;show av^wpAny_seqItems Pr Y ?_;show av (wpAny_updateSeq_pair Pr λh₃ US G6=>?_);replace US:IsPair h₃ TO x b:=US;show av^wpAny_letGo^aW ?_;show av^av^wpAny_onRaise ?_;change wpAny _ _ (Builtin.SmallTypes.nextOf (¬i2) >>= _) _ _ _;show av (next_item (h2.at λo e=>G6.extBut _ o D.TOi2.symm^OK.extBut _ o D.i12.symm^SZ.extBut _ o D.i2z e)
  (N0.at λo e=>G6.extBut _ o D.l2TO^OK.extBut _ o D.l2i1^SZ.extBut _ o D.l2z e) hy λh₄ h2₄ Yd=>aW ?_)
 let ae6:IsPair h₄ TO x b:=Yd.extBut _ _ D.TOi2 US;show av^wpAny_seqItems ae6 Y ?_;show av (wpAny_updateSeq_pair ae6 λh₅ UT Ye=>?_);replace UT:IsPair h₅ TO x y:=UT;show av^wpAny_letGo^aW^aW ?_;show av^wpAny_seqItems UT Y ?_;show av^wpAny_newTuple ?_;let hsz:h₅.objs.size=s.heap.objs.size:=by rw[Ye.1,Yd.1,G6.1,OK.1,SZ.1]
 let hz₅:ZO h₅ z TI TO .ellipsis false:=Ye.extBut _ _ D.TOz.symm^Yd.extBut _ _ D.i2z.symm^G6.extBut _ _ D.TOz.symm^OK.extBut _ _ D.i1z.symm Yc;let hk₅:Rest z TO i1 i2 ap h₅:=λc o c1 c2 c3 c4 e=>Ye.extBut _ _ c2^Yd.extBut _ _ c4^G6.extBut _ _ c2^OK.extBut _ _ c3^SZ.extBut _ _ c1 e;let h1₅:yO t1 h₅ i1 l1 (i+1):=h1₂.at λo e=>Ye.extBut _ o D.TOi1.symm^Yd.extBut _ o D.i12^G6.extBut _ o D.TOi1.symm e;let h2₅:yO t2 h₅ i2 l2 (i+1):=h2₄.at λo e=>Ye.extBut _ o D.TOi2.symm e;let ae7:z<h₅.objs.size:=aN hz₅;change wpAny _ _ (Builtin.SmallTypes.ownedTupleHandOut (¬z) (¬h₅.objs.size) >>= _) _ _ _;show av ?_;unfold Builtin.SmallTypes.ownedTupleHandOut;let hz₆:ZO (h₅.push { cls:=.type "tuple", data:=.seq #v[x,y] }) z TI TO .ellipsis false:=eT _ hz₅;show av (wpAny_setField_rec hz₆ (by simp) λh₇ hz₇ hs₇=>?_);replace hz₇:ZO h₇ z TI TO (rawInt h₅.objs.size) false:=hz₇;show wpAny_setField_rec hz₇ (by simp) λh₈ hz₈ hs₈=>?_;replace hz₈:ZO h₈ z TI TO (rawInt h₅.objs.size) false:=hz₈;let up:∀c o,c≠z->h₅.get? c=!o->h₈.get? c=!o:=λc o c1 e=>hs₈.extBut _ _ c1^hs₇.extBut _ _ c1^eT _ e;let hT₈:IsPair h₈ h₅.objs.size x y:=hs₈.extBut _ _ (jQ ae7)^hs₇.extBut _ _ (jQ ae7)^jH _ rfl;let hz8:h₈.objs.size=h₅.objs.size+1:=by rw[hs₈.1,hs₇.1,fM]
 rw[hsz] at hz₈ hT₈ hz8;show aW #[_,Y,?_];change Q (¬h₅.objs.size) _;rw[hsz];show hQ h₈ hz₈ #[up _ _ D.TIz^hk₅ _ _ D.TIz D.TITO D.TIi1 D.TIi2 hTI,#[x,y,up _ _ D.TOz UT],h1₅.at λo e=>up _ o D.i1z e,h2₅.at λo e=>up _ o D.i2z e] hT₈ hz8 λc o c1 c2 c3 c4 e=>up c o c1^hk₅ c o c1 c2 c3 c4 e
def UU{f:ci}{f0:J}{Q:Fin->aw->O}(hf:f0=.none\/∃(T:ae)(oT:du),f0=rawInt T/\s.heap.get? T=!oT)(hh:A.handled=bc)(D:ZipApart z TI TO i1 i2 l1 l2)(hz:ZO ap z TI TO f0 f)(st:Zs t1 t2 TI TO i1 i2 l1 l2 i ap)(Op:Src t1 ap l1 xs)(N0:Src t2 ap l2 ys)
  (hend:xs[i]?=bc\/ys[i]?=bc)
  (hE:∀h' e,Rest z TO i1 i2 ap h'->(∃o,h'.get? e=!o/\o.cls=.type "StopIteration")->E (¬e) { s with heap:=h' }):
  wpAny (model prog w) A (Builtin.«zip.__next__» #[[¬z],[]]) Q E s:=by
 let#[hTI,#[a,b,hTO],h1,h2]:=st;change wpAny _ _ (field (¬z) 2 >>= _) _ _ _;show av^wpAny_field hz Y (x:=.bool bo) Y ?_;change wpAny _ _ (field (¬z) 3 >>= _) _ _ _;show av^wpAny_field hz Y (x:=¬TI) Y ?_;show av^wpAny_seqItems hTI Y ?_;change wpAny _ _ (Builtin.SmallTypes.ownedTupleIsFree (¬z) >>= _) _ _ _;show av ?_;unfold Builtin.SmallTypes.ownedTupleIsFree;rcases hf with rfl|⟨T,oT,rfl,hT⟩
 .show av^wpAny_field hz Y (x:=.none) Y^aW ?_;erw[if_true];show av^wpAny_rule ?_;show av^wpAny_field hz Y (x:=¬TO) Y ?_;show av (wpAny_setField_rec hz (by simp) λh₁ Yc SZ=>?_);replace Yc:ZO h₁ z TI TO .ellipsis f:=Yc;show av ?_;erw[List.zipIdx_cons,List.zipIdx_nil,qT,List.forIn_nil];show av^av^wpAny_onRaise ?_;change wpAny _ _ (Builtin.SmallTypes.nextOf (¬i1) >>= _) _ _ _;cases hx:xs[i]? with
  | none =>
   show av (next_end hh (h1.at λo e=>SZ.extBut _ o D.i1z e) (Op.at λo e=>SZ.extBut _ o D.l1z e) hx λh₂ e OK he=>?_);let#[oe,hoe,hce]:=he;let hz₂:ZO h₂ z TI TO .ellipsis f:=OK _ _ D.i1z.symm Yc;let hez:e≠z:=λx=>by subst x;rw[hz₂] at hoe;cases hoe;simp at hce
   show wpAny_setField_rec hz₂ (by simp) λh₃ q G6=>hE h₃ e (λc o c1 q c3 q x=>G6.extBut _ _ c1^OK _ _ c3^SZ.extBut _ _ c1 x) #[oe,G6.extBut _ _ hez hoe,hce]
  | some x =>
   let hy:ys[i]?=none:=by rcases hend with h|h;rw[hx] at h;cases h;show h
   show av (next_item (h1.at λo e=>SZ.extBut _ o D.i1z e) (Op.at λo e=>SZ.extBut _ o D.l1z e) hx λh₂ h1₂ OK=>aW ?_);let Pr:IsPair h₂ TO a b:=OK.extBut _ _ D.TOi1^SZ.extBut _ _ D.TOz hTO;show av^wpAny_seqItems Pr Y ?_;show av (wpAny_updateSeq_pair Pr λh₃ US G6=>?_);show av^wpAny_letGo^aW ?_;show av^av^wpAny_onRaise ?_;change wpAny _ _ (Builtin.SmallTypes.nextOf (¬i2) >>= _) _ _ _;show av (next_end hh (h2.at λo e=>G6.extBut _ o D.TOi2.symm^OK.extBut _ o D.i12.symm^SZ.extBut _ o D.i2z e)
    (N0.at λo e=>G6.extBut _ o D.l2TO^OK.extBut _ o D.l2i1^SZ.extBut _ o D.l2z e) hy λh₄ e Yd he=>?_)
   let#[oe,hoe,hce]:=he;let hz₄:ZO h₄ z TI TO .ellipsis f:=Yd _ _ D.i2z.symm^G6.extBut _ _ D.TOz.symm^OK.extBut _ _ D.i1z.symm Yc;let hez:e≠z:=λx=>by subst x;rw[hz₄] at hoe;cases hoe;simp at hce
   show wpAny_setField_rec hz₄ (by simp) λh₅ q Ye=>hE h₅ e (λc o c1 c2 c3 c4 x=>Ye.extBut _ _ c1^Yd _ _ c4^G6.extBut _ _ c2^OK.extBut _ _ c3^SZ.extBut _ _ c1 x) #[oe,Ye.extBut _ _ hez hoe,hce]
 .show av^wpAny_field hz Y (x:=rawInt T) Y ?_;change wpAny _ _ (loadIfAlive ((T:Z).toNat) >>= _) _ _ _;rw[iX];show av^alive hT ?_;erw[Option.isNone_some,cJ,if_false];show av^wpAny_field hz Y (x:=.bool f) Y ?_;cases f
  case' false =>
   rw[if_pos ()];show av (wpAny_setField_rec hz (by simp) λh₁ q SZ=>aW ?_)
  case' true =>
   rw[if_neg ()];show aW ?_;let SZ:Heap.SameBut z ap s.heap:=Heap.SameBut.refl ..
  all_goals
   rw[if_neg ()];show av ?_;simp only[<- wk,qT,List.forIn_nil];show av^av^wpAny_holding ?_;change wpAny _ _ (Builtin.SmallTypes.nextOf (¬i1) >>= _) _ _ _;cases hx:xs[i]? with
   | none=>show av (next_end hh (h1.at λo e=>SZ.extBut _ o D.i1z e) (Op.at λo e=>SZ.extBut _ o D.l1z e) hx λh₂ e OK he=>hE h₂ e (λc o c1 q c3 q x=>OK _ _ c3^SZ.extBut _ _ c1 x) he)
   | some x =>
    let hy:ys[i]?=none:=by rcases hend with h|h;rw[hx] at h;cases h;show h
    show av (next_item (h1.at λo e=>SZ.extBut _ o D.i1z e) (Op.at λo e=>SZ.extBut _ o D.l1z e) hx λh₂ h1₂ OK=>aW ?_);show aW^av^av^wpAny_holding ?_;change wpAny _ _ (Builtin.SmallTypes.nextOf (¬i2) >>= _) _ _ _;show av (next_end hh (h2.at λo e=>OK.extBut _ o D.i12.symm^SZ.extBut _ o D.i2z e) (N0.at λo e=>OK.extBut _ o D.l2i1^SZ.extBut _ o D.l2z e) hy λh₃ e G6 he=>hE h₃ e (λc o c1 q c3 c4 x=>G6 _ _ c4^OK.extBut _ _ c3^SZ.extBut _ _ c1 x) he)
def UW{Q:Option J->aw->O}{Q':J->aw->O}(hT:s.TypeIs (¬z) "zip")(h:wpAny (model prog w) A.in1 (Builtin.«zip.__next__» #[[¬z],[]]) (λfin s'=>∃v,fin=.done^.ret v/\Q' v s') (λj j=>False) s)(q:∀v s',Q' v s'->Q (!v) s'):wpAny (model prog w) A (pyNext^¬z) Q E s:=by unfold pyNext;show av^wpAny_attempt^wpAny_callSpecial?_slot (name:=Str.ofString "__next__") hT F.slot_zip_next^wpAny_call_entry F.slot_zip_next hT F.entry_zip_next (wpAny_mono h (λfin s' h'=>?_) λj j h'=>h'.elim)^F.args_zip_next_1 _;let#[v,Y,h']:=h';show#[v,Y,aW^q v s' h']
def abk{Q:Option J->aw->O}(hT:s.TypeIs (¬z) "zip")(h:wpAny (model prog w) A.in1 (Builtin.«zip.__next__» #[[¬z],[]]) (λj j=>False) (λe s'=>∃a o,e=¬a/\s'.heap.get? a=!o/\o.cls=.type "StopIteration" /\ Q bc s') s):wpAny (model prog w) A (pyNext^¬z) Q E s:=by unfold pyNext;show av^wpAny_attempt^wpAny_callSpecial?_slot (name:=Str.ofString "__next__") hT F.slot_zip_next^wpAny_call_entry F.slot_zip_next hT F.entry_zip_next (wpAny_mono h (λj j h'=>h'.elim) λe s' h'=>?_)^F.args_zip_next_1 _;let#[a,o,Y,ho,hc,q]:=h';show av^wpAny_isInstance (T := "StopIteration") (b:=true) #[o,ho,hc] isSubtype_stop ?_;show aW q
end
section
variable {xs:Array J}
abbrev zH1(t1:ci)(h:cv)(l1:ae):Heap:=h.push^sN t1 l1
noncomputable abbrev zH2(t1 t2:ci)(h:cv)(l1 l2:ae):Heap:=(zH1 t1 h l1).push^sN t2 l2
noncomputable abbrev zH3(t1 t2:ci)(h:cv)(l1 l2:ae):Heap:=(zH2 t1 t2 h l1 l2).push { cls:=.type "tuple", data:=.seq #v[¬dE,¬(zH1 t1 h l1).objs.size] }
noncomputable abbrev zH4(t1 t2:ci)(h:cv)(l1 l2:ae):Heap:=(zH3 t1 t2 h l1 l2).push { cls:=.type "tuple", data:=.seq #v[.none,.none] }
noncomputable abbrev zH5(t1 t2:ci)(h:cv)(l1 l2:ae):Heap:=(zH4 t1 t2 h l1 l2).push { cls:=.type "zip", data:=.fields #v[.none,.bool bo,.bool bo,¬(zH2 t1 t2 h l1 l2).objs.size,¬(zH3 t1 t2 h l1 l2).objs.size] }
def Mr(t1 t2:ci)(l1 l2:ae)(xs ys:Array J):
  Meets (Builtin.«zip.__new__» #[[.type "zip", ¬l1,¬l2],[]]) (λz R s=>Src t1 ap l1 xs/\Src t2 ap l2 ys /\
   R (.ok^.ret^¬(zH4 t1 t2 ap l1 l2).objs.size) { s with heap:=zH5 t1 t2 ap l1 l2 }) :=
 .of_wp λprog w A R s h=>by
  let#[hp,g,d,tk,os]:=s;let#[Op,N0,h]:=h;let hsub:=sub_zip;let hL1:Src t1 (Shared.heap #[hp,g,d,tk,os]) l1 xs:=Op;let Yg:Src t2 (Shared.heap #[hp.push^sN t1 l1,g,d,tk,os]) l2 ys:=Src.push N0 _
  wp_walk using J7 hL1,J7 Yg
  show#[_,Y,h]
def Pu(Op:Src t1 ap l1 xs)(N0:Src t2 ap l2 ys)
  (h:∀h',ZO h' (M+4) (M+2) (M+3) .none false->Zs t1 t2 (M+2) (M+3) M (M+1) l1 l2 0 h' ->
   dA=M+5->(∀c o,s.heap.get? c=!o->h'.get? c=!o)->Q (¬(M+4)) { s with heap:=h' }):
  wpAny (model prog w) A (call (.type "zip") [¬l1,¬l2]) Q E s:=by
 show callType_new F.called_zip () (F.typeCall_zip_2 _ _) (F.newCall_zip_2 _ _) (λobj=>F.args_object_init_3 obj _ _) F.entry_zip_new
  (Mr t1 t2 l1 l2 xs ys) #[Op,N0,?_]
 let z1:(zH1 t1 ap l1).objs.size=M+1:=fM ..;let z2:(zH2 t1 t2 ap l1 l2).objs.size=M+2:=by rw[fM,z1]
 let z3:(zH3 t1 t2 ap l1 l2).objs.size=M+3:=by rw[fM,z2]
 let z4:(zH4 t1 t2 ap l1 l2).objs.size=M+4:=by rw[fM,z3]
 let z5:(zH5 t1 t2 ap l1 l2).objs.size=M+5:=by rw[fM,z4]
 let g5:(zH5 t1 t2 ap l1 l2).get? (zH4 t1 t2 ap l1 l2).objs.size=!_:=jH _ rfl;let g4:(zH5 t1 t2 ap l1 l2).get? (zH3 t1 t2 ap l1 l2).objs.size=!_:=eT _^jH _ rfl;let g3:(zH5 t1 t2 ap l1 l2).get? (zH2 t1 t2 ap l1 l2).objs.size=!_:=eT _^eT _^jH _ rfl;let r2:(sN t2 l2).isFreed=false:=by cases t2<;>rfl
 let r1:(sN t1 l1).isFreed=false:=by cases t1<;>rfl
 let g2:(zH5 t1 t2 ap l1 l2).get? (zH1 t1 ap l1).objs.size=!sN t2 l2:=eT _^eT _^eT _^jH _ r2;let g1:(zH5 t1 t2 ap l1 l2).get? M=!sN t1 l1:=eT _^eT _^eT _^eT _^jH _ r1;change _/\_;rw[z2,z3,z4] at g5;rw[z1,z2] at g3;rw[z3] at g4;rw[z1] at g2;rw[z4];show#[#[_,g5,Y],h _ g5 #[g3,#[_,_,g4],yO.new g1,yO.new g2] z5 λc o x =>
  eT _^eT _^eT _^eT _^eT _ x]
end
section
variable {St:cv->O}
end
end ZP
def BT.ae8:PySem.bootBuiltins "zip" = !.type "zip":=()
namespace L2
variable {p:ae}{R:Option Z->Hp->O}
section
variable {U:St}
def Inv.sO(I:Inv X X1 U H s)(k:∀b o,b∉fp->s.heap.get? b=!o->h'.get? b=!o)(hf:∀b∈fp,lJ X X1 H b):Inv X X1 U H { s with heap:=h',toks:=t' }:=by
 let nit:∀b u,H b=!u->b∉fp:=λb u e z=>by rw[(hf b z).1] at e;cases e
 show I.step (g':=s.gens) (d':=s.drawn) (ch:=fp) (λb hb=>?_) (λb o j j hc e j=>k b o hc e) (λb o j j hc e j=>#[o.slots,k b o hc e]) (λj j j j n=>n)
  (λb o hc e=>#[o,k b o hc e]) (λj j e=>e) (λj j j e=>e) (λb ps e=>#[#[],by rw[e];simp]) (λm hm=>?_) (λb u e=>?_) I.bare
 .show#[(hf b hb).2.2.2.1,(hf b hb).2.1,(hf b hb).2.2.2.2.1,(hf b hb).2.2.2.2.2]
 .let#[o,es,ep,ho,r]:=hm;show#[o,es,ep,k _ o (λz=>(hf _ z).2.1 Y) ho,r]
 .show(I.hok b u e).stay (λc v hc q=>k c v ?_ q) (λj q=>q) λj j q=>q;rcases hc with z|z;rw[z];show nit b u e;show nit c _ z
def Ms(t:ci)(K:aB)(H:Hp)(a:ae)(xs:List V):Prop:=match t with
 | true=>eB K H a xs
 | false=>bJ K H a xs
def Inv.src{t:ci}(I:Inv X X1 U H s)(h:Ms t dq H a xs):∃XL:List J,Vals xs XL/\ZP.Src t ap a XL.toArray/\ab<=sizeLine:=by cases t;let#[XL,r,pl,z]:=I.list h;show#[XL,r,pl.isList,z];let#[XL,r,pl,z]:=I.tuple h;show#[XL,r,pl,z]
theorem Pw:kO X (binaryOp .FloorDiv) (rI (λz j=>0<j/\j<18446744073709551616) λi j=>.int (i / j)):=opI λi j z z z z z hc q=>by let h1:(0:Z)<j:=hc.1;let h2:j<18446744073709551616:=hc.2;show floordiv_int ∅ (by rw[Int.fdiv_eq_ediv_of_nonneg i ∅];show q) (.inl^PyProof.noPylong_of_log2 ?_);let h3:j.natAbs.log2<64:=(Nat.log2_lt ∅).mpr ∅;lia
end
section
variable {nx bk ct:St->Hp->O}{U:St}{t u:TS}
def abn(h:t #[u #[nx,rt,bk,ct],rt,bk,ct] U H):Mi t u #[nx,rt,bk,ct] U H:=#[_,h,λz z h=>h]
def Yh(R:Option Z->Hp->O):V->Hp->Prop:=λx H=>∃i,x=.int i/\R (!i) H
def akD(h:te U H^Yh R):JU te U H R:=h
def aiH{i:Z}(h:R (!i) H):Yh R (.int i) H:=#[i,Y,h]
def ae9(h:R bc H):xY U H R:=h
end
def EB{α:Type}(P:α->O):List α->O
 | []=>True
 | a::l=>P a/\EB P l
theorem EB.mem{α:Type}{P:α->O}:∀{l:List α},EB P l->∀a∈l,P a
 | [],_,a,h=>nomatch h
 | b::l,hl,a,h=>by rcases aJ.mp h with e|h;rw[e];show hl.1;show EB.mem hl.2 a h
theorem bG.caps{fr:List ax}{nm:List ax}(calm:X.calm=am)(clos:closureFor scope bi=pure cl)(cell:∀y∈scope.names,y.2≠.cell)(kind:scope.kind=.function)
  (names:∀y∈scope.names,y.2=.local->scope.names.lookup y.1=!.local)(loc:scope.names.lookup x=!.local)(nd:(x::fr).Nodup)
  (hcl:EB (λp=>X.env.cells.lookup p.1=!p.2) cl)(hnm:cl.map (·.1)=nm)(QP:∀z∈scope.names,z.2=.free->z.1∈nm)(XB:fr.length=ix.length)
  (hfx:EB (λp=>X.N[p.2]?=!p.1/\X.env.kindOf p.1=!.cell/\(relabel scope bi).names.lookup p.1=!.cell)^fr.zip ix):bG X scope cl x fr ix where
 calm:=calm
 clos:=clos
 cell:=cell
 kind:=kind
 names:=names
 loc:=loc
 nd:=nd
 cl1:=λy c h=>hcl.mem (y,c) (kU h)
 cl2:=λy h=>by
  let mem:∀{k:NameKind},(relabel scope bi).names.lookup y=!k->∃z∈scope.names,(if(z.2==.free&&X.env.scope.kind==.function&&X.env.kindOf z.1==!.cell) then(z.1,NameKind.cell) else(z.1,z.2))=(y,k):=λ{k} e=>by let q:=kU e;let#[z,hz,e]:=aG.mp q;show#[z,hz,e]
  let key:∃z∈scope.names,z.1=y/\z.2=.free:=by
   rcases h with h|h
   .let#[z,hz,e]:=mem h;show#[z,hz,?_];by_cases hf:(z.2==NameKind.free)=am
    .show#[?_,by cases hk:z.2<;>rw[hk] at hf<;>first|rfl|cases hf];split at e;show congrArg Prod.fst e;show congrArg Prod.fst e
    .exfalso;rw[Bool.not_eq_true] at hf;rw[hf,yw,yw,if_neg oB] at e;show cell z hz^congrArg Prod.snd e
   .let#[z,hz,e]:=mem h;show#[z,hz,?_];split at e;show absurd (congrArg Prod.snd e) (by intro q;cases q);show#[congrArg Prod.fst e,congrArg Prod.snd e]
  let#[z,hz,Y,hk]:=key;let hm:=QP z hz hk;rw[<- hnm] at hm;let#[p,hp,e]:=aG.mp hm;cases q:cl.lookup z.1 with
  | some c=>show#[c,Y]
  | none =>
   exfalso;have:=List.lookup_eq_none_iff.mp q p hp;rw[e] at this;simp at this
 fx:=λj y h=>by
  let hj:j<fr.length:=(fK h).1;let hi:ix[j]?=!(ix[j]'∅):=by simp
  let hz:(y,ix[j]'∅)∈fr.zip ix:=ie (i:=j) (by rw[uY];show#[h,hi]);let#[a,b,c]:=hfx.mem _ hz;show#[_,hi,a,.inl b,.inl c]
 len:=XB
section
variable {nx bk ct:St->Hp->O}{U:St}{P:ci->Hp->O}{t u:TS}
def abo:R2:=λx y H Q=>y=.cH/\Q (.bl (decide (x=.cH))) H
def Px:R2:=λx y H Q=>y=.cH/\Q (.bl (not (decide (x=.cH)))) H
def J8:kO X (compareOp .Is) abo:=aaN
def EC:kO X (compareOp .IsNot) Px:=Uz
def akE(h:Q (.bl am) H):abo .cH .cH H Q:=#[Y,h]
def akF(h:Q (.bl bo) H):abo (¬a) .cH H Q:=#[Y,h]
def aiI(h:Q (.bl bo) H):Px .cH .cH H Q:=#[Y,h]
def aiJ{i:Z}(h:Q (.bl am) H):Px (.int i) .cH H Q:=#[Y,h]
def Py(K:aB):List V->Hp->VK->Prop:=λxs H Q=>∃p ys,xs=[¬p]/\((bJ K H p ys/\∀l,H l=bc->Q (¬l)^upd H l^.tup ys)\/(eB K H p ys/\Q (¬p) H))
def je:fj X (.type "tuple")^Py X.K:=AU
def akG{ys:List V}(hS:bJ K H p ys)(h:∀l H',gU H l (.tup ys) H'->Q (¬l) H'):Py K [¬p] H Q:=#[p,ys,Y,.inl #[hS,λl hl=>h l _ #[hl,Y]]]
def akH{gs:Hi}{R:St->Hp->O}(hS:bJ K H a xs)(hn:ab=n)(h:gs xs U H R):aeT K n gs (¬a) U H R:=#[a,xs,Y,hS,hn,h]
def aob{zs:List V}(h1:H l=!.lst xs)(h2:H b=!.lst zs)(hz:ab+zs.length<=1000000)(h:∀p H',gU H p (.lst (xs++zs)) H'->Q (¬p) H'):aeN (¬l) (¬b) H Q :=
 #[l,b,xs,zs,Y,Y,h1,h2,aZ hz (),λp hp=>h p _ #[hp,Y]]
def Yi:R2:=λx y H Q=>∃i j,x=.str i/\y=.str j/\i.length+j.length<=sizeLine/\Q (.str (i++j)) H
def UX:kO X (binaryOp .Add) Yi:=Hv
def abp{i j:ax}(hz:i.length+j.length<=1000000)(h:Q (.str (i++j)) H):Yi (.str i) (.str j) H Q:=#[i,j,Y,Y,aZ hz (),h]
def afa{zs:List V}(h1:H l=!.lst xs)(h2:H b=!.lst zs)(hz:ab+zs.length<=16000000)(h:∀H',nU H l (.lst (xs++zs)) H'->Q .cH H'):JZ (¬l) [¬b] H Q :=
 #[l,b,xs,zs,Y,Y,h1,h2,aZ hz (),h _ rfl]
def Yj(K:aB)(Q:VK):VK:=λx H=>∃a xs,x=¬a/\(bJ K H a xs\/eB K H a xs)/\∀l,H l=bc->Q (¬l)^upd H l^.lst xs.reverse
def adH(h:ta U H^Yj K Q):Ez K ta U H Q:=h
def akI(hS:bJ K H a xs\/eB K H a xs)(h:∀l H',gU H l (.lst xs.reverse) H'->Q (¬l) H'):Yj K Q (¬a) H:=#[a,xs,Y,hS,λl hl=>h l _ #[hl,Y]]
def abq(K:aB)(P:ci->Hp->O):VK:=λx H=>∃k,UA K x H k/\P k H
def afb(K:aB)(ta:TE):TT:=λU H Q=>ta U H λx H'=>∃k,UA K x H' k/\Q k H'
def lV{a:dr}(ha:PE X a ta)(he:∀whole,isTrue a bi whole=(do let v <- whole;standAt a.pos;holding [v]^truthy v)):PT X a^afb dq ta:=OU ha he
def aoc(h:ta U H^abq K P):afb K ta U H P:=h
def akJ(hS:bJ K H p xs)(h:P (not xs.isEmpty) H):abq K P (¬p) H:=#[_,.inl #[xs,hS,Y],h]
def akK(hS:eB K H p xs)(h:P (not xs.isEmpty) H):abq K P (¬p) H:=#[_,.inr^.inl #[xs,hS,Y],h]
def aql{r:V->Option Z->Option Z->Hp->VK->O}{tl th:TO}(h:te U H λx H1=>tl U H1 λl H2=>th U H2 λu H3=>r x l u H3 Q):tSl r te tl th U H Q:=h
def aod{lo hi:Option Z}(hS:bJ K H a xs)(h:∀p H',gU H p (.lst^iI xs lo hi) H'->Q (¬p) H'):aeJ K (¬a) lo hi H Q:=#[a,xs,Y,hS,λp hp=>h p _ #[hp,Y]]
def akL(e:U[i]?=!!v)(h:Q v H):gT i U H Q:=#[v,e,h]
def akM(h:te U H λv H1=>gc i v U H1 nx):Ex te i #[nx,rt,bk,ct] U H:=h
def ED{c:TT}(Jt Jf:Hp->O)(h:c U H λb H1=>if b=am then Jt H1 else Jf H1)(h1:∀H1,Jt H1->t #[nx,rt,bk,ct] U H1)(h2:∀H1,Jf H1->u #[nx,rt,bk,ct] U H1):aeR c t u #[nx,rt,bk,ct] U H:=#[Jt,Jf,h,h1,h2]
def akN{ti:TE}{ts:Uv}{R:St->Hp->O}(h:to U H λo H1=>ti U H1 λi H2=>ts o i v H2 λH3=>R U H3):aet to ti ts v U H R:=h
def abr{k:Z}{R:Hp->O}(hl:H p=!.lst xs)(hj:TY ab k=!j)(h:∀H',nU H p (.lst^xs.set j v) H'->R H'):XZ (¬p) (.int k) v H R:=#[p,xs,k,j,Y,Y,hl,hj,h _ rfl]
def EE(x y:ax):(x++y).length=x.length+y.length:=by change(x.cps++y.cps).size=x.cps.size+y.cps.size;simp
def Pz(h:P am H):UN U H P:=h
def HP(Ya:It)(tt:TT)(te:TE)(τ:St)(Q:VK)(H:Hp):=∃W:B->B->List V->Hp->O,(∃m,W 0 m [] H)/\∀i m ys H,W i m ys H ->
 (Ya.stop i H/\∀p,H p=bc->Q (¬p)^upd H p^.lst ys)\/(Ya.go i H/\cf<sizeLine/\∃N:List V->Hp->O,(∀RF H',N RF H'->∃m',m'<m/\W (i+1) m' RF H') /\
  ∀v H',Ya.OH i H v H'->tt (some v::τ) H' λb H3=>if b=am then te (some v::τ) H3 λy H4=>N (ys++[y]) H4 else N ys H3)
def akO{wi:TI}(h:wi U H λYa H1=>HP Ya tt te (cut ix U) Q H1):J3 wi tt te ix U H Q:=h
theorem sP{lo:Z}{τ:St}(Pv:B->List V->Hp->O)(h0:Pv 0 [] H)
  (hs:∀i ys H,i<n->Pv i ys H->cf<sizeLine/\tt (some^.int (lo+i)::τ) H λb H3=>if b=am then te (some^.int (lo+i)::τ) H3 λy H4=>Pv (i+1) (ys++[y]) H4 else Pv (i+1) ys H3)
  (hd:∀ys H,Pv n ys H->∀p H',gU H p (.lst ys) H'->Q (¬p) H'):HP (yO lo n) tt te τ Q H:=by show#[λi m ys H=>m=n-i/\i<=n/\Pv i ys H,#[n,by simp,aQ _,h0],?_];rintro i m ys H ⟨rfl,hi,p⟩;by_cases hlt:i<n;let#[hz,q]:=hs i ys H hlt p;show .inr #[hlt,hz,Pv (i+1),λU' H' p'=>#[n-(i+1),∅,Y,hlt,p'],λx H' y=>?_];let#[e,y]:=y;subst e y;show q;let e:i=n:=∅;subst e;show .inl #[aq _,λq hq=>hd ys H p q _ #[hq,Y]]
theorem iM{τ:St}(Pv:B->List V->Hp->O)(h0:Pv 0 [] H)(hl:∀i ys H,i<=ab->Pv i ys H->bJ K H a xs)
  (hs:∀i x ys H,xs[i]?=!x->Pv i ys H->cf<sizeLine/\tt (some x::τ) H λb H3=>if b=am then te (some x::τ) H3 λy H4=>Pv (i+1) (ys++[y]) H4 else Pv (i+1) ys H3)
  (hd:∀ys H,Pv ab ys H->∀p H',gU H p (.lst ys) H'->Q (¬p) H'):HP (OI K a) tt te τ Q H:=by
 show#[λi m ys H=>m=ab-i/\i<=ab/\Pv i ys H,#[ab,by simp,aQ _,h0],?_];rintro i m ys H ⟨rfl,hi,p⟩;let q:=hl i ys H hi p;by_cases hlt:i<ab
 .have hx:xs[i]?=some xs[i]:=by simp[hlt]
  let#[hz,q']:=hs i _ ys H hx p;show .inr #[#[xs,xs[i],q,hx],hz,Pv (i+1),λU' H' p'=>#[ab-(i+1),∅,Y,hlt,p'],λx H' y=>?_];let#[e,y]:=y;subst e;let e2:x=xs[i]:=Option.some.inj^(y xs q).symm.trans hx;subst e2;show q'
 .have e:i=xs.length:=∅;subst e;show .inl #[#[xs,q,aq _],λr hr=>hd ys H p r _ #[hr,Y]]
end
section
variable {U:St}
def C3(wi:TI)(g:TG)(tt:TT)(te:TE)(ix:List B)(k:B):TE:=λU H Q=>wi U H λYa H1=>∃W:B->B->List V->St->Hp->O,(∃m,W 0 m [] (List.replicate k bc++cut ix U) H1)/\∀i m ys τ H,W i m ys τ H ->
 (Ya.stop i H/\∀p,H p=bc->Q (¬p)^upd H p^.lst ys)\/(Ya.go i H/\cf<sizeLine/\∃N:List V->St->Hp->O,(∀RF τ' H',N RF τ' H'->∃m',m'<m/\W (i+1) m' RF τ' H') /\
  ∀v H',Ya.OH i H v H'->g v τ H' λτ2 H2=>tt τ2 H2 λb H3=>if b=am then te τ2 H3 λy H4=>N (ys++[y]) τ2 H4 else N ys τ2 H3)
def EF{ST iter:dr}{xs:List ax}{ifs:List dr}{fr:List ax}{wi:TI}(X2:gk X scope cl xs fr ix)(hi:PI X tg iter wi)(hg:∀C fp s H,PG (uV X (xs++fr) scope cl C fp s H) tg g)
  (ht:∀C fp s H,PF (uV X (xs++fr) scope cl C fp s H) ifs tt)(he:∀C fp s H,PE (uV X (xs++fr) scope cl C fp s H) ST te)
  (hs:⇑(∀v,foldedSetIterable iter bi v=pure v)):PE X (.ListComp ST [#[tg,iter,ifs,0]] scope pos)^C3 wi g tt te ix xs.length:=by intro X1 s U H Q I h;rw[eval_ListComp];show wpAny_comprehension_free (use:=none) Y hs X2.clos X2.kind X2.names (cM (hi X1 s U H _ I h) λv s1 h1=>cM h1 λitv s2 h2=>?_);let#[it,fp,tn,Ya,H2,e,I2,T,Kj,f2,W,#[m0,w0],turn]:=h2;subst e;show oW X2 hg ht he I2 T Kj f2 (λys H=>∀p,H p=bc->Q (¬p)^upd H p^.lst ys) W m0 w0 turn λD C s' ys H' I' hm fC hD z=>?_;let#[m,hm]:=hm;show#[m,hm,λh' Ix=>?_];show#[¬D,_,I'.turned (t':=s'.toks) (it:=C) (λb o hb e=>Ix.extBut b o hb e) fC.1 fC.2.1 fC.2.2.2.1 fC.2.2.2.2.1 fC.2.2.2.2.2,Y,z D hD]
end
end L2
def BT.wD:PySem.bootBuiltins "enumerate" = !.type "enumerate":=()
namespace L2
noncomputable def Itz(K:aB)(t1 t2:ci)(l1 l2:ae)(xs ys:List V):It :=
 #[λi H=>Ms t1 K H l1 xs/\Ms t2 K H l2 ys/\i<min ab cf,
  λi H v H'=>∃p x y,xs[i]?=!x/\ys[i]?=!y/\v=¬p/\gU H p (.tup [x,y]) H',
  λi H=>Ms t1 K H l1 xs/\Ms t2 K H l2 ys/\min ab cf<=i]
theorem PB{z TI TO i1 i2:ae}{ys:List V}(D:ZipApart z TI TO i1 i2 l1 l2):
  Turn P w K (.Tuple es k pos) (Itz K t1 t2 l1 l2 xs ys) [z,TI,TO,i1,i2] z (λi h=>ZP.ZO h z TI TO .none false/\ZP.Zs t1 t2 TI TO i1 i2 l1 l2 i h) where
 mem:=by simp
 obj:=λi h st b hb=>by let#[hz,hs]:=st;let#[a,c,hTO]:=hs.to;erw[aJ,eE,or_false] at hb;rcases hb with e|e|e|e|e<;>rw[e];show#[_,hz,λv q=>by cases q];show#[_,hs.ti,λv q=>by cases q];show#[_,hTO,λv q=>by cases q];let#[o,e1,vs,d]:=hs.a1.here;show#[o,e1,λv q=>by rw[d] at q;cases q];let#[o,e1,vs,d]:=hs.a2.here;show#[o,e1,λv q=>by rw[d] at q;cases q]
 keep:=λi h h' st kk=>#[kk z (by simp) _ st.1,st.2.keep λb hb o e=>kk b (by rcases hb with q|q|q|q<;>simp[q]) o e]
 item:=by
  intro X hP hw hK hc i X1 s U H E I hf st hg;subst hP hw hK;let#[q1,q2,hlt]:=hg;let#[PD,v1,Mt,z1]:=I.src q1;let#[Q1,v2,Mu,z2]:=I.src q2;let hx:xs[i]?=!(xs[i]'∅):=by simp
  let hy:ys[i]?=!(ys[i]'∅):=by simp
  generalize xs[i]'∅=x at hx;generalize ys[i]'∅=y at hy;let#[u,hu,ru]:=v1.get hx;let#[v,hv,rv]:=v2.get hy;let#[hz,hs]:=st;show ZP.UW #[_,hz,Y] (ZP.Pq (Q:=λr s'=>r=¬M/\∃h',s'={ s with heap:=h' }/\ZP.ZO h' z TI TO (rawInt M) bo/\ZP.Zs t1 t2 TI TO i1 i2 l1 l2 (i+1) h'/\IsPair h' M u v/\ZP.Rest z TO i1 i2 ap h')
   D hz hs Mt Mu (by simpa using hu) (by simpa using hv) λh' a1 a2 a3 j a5=>#[Y,h',Y,a1,a2,a3,a5]) λr s' q=>?_
  let#[Y,h',Y,Hk,Ts,hp',hr]:=q;show#[_,Y,wpAny_letOwnedTupleGo_zip Hk λh2 hz2 IH=>?_];let hTl:z≠s.heap.objs.size:=aU^aN hz;let hr2:∀b o,b∉[z,TO,i1,i2]->s.heap.get? b=!o->h2.get? b=!o:=λb o hb e =>
   IH.extBut b o (λq=>hb^by simp[q])^hr b o (λq=>hb^by simp[q]) (λq=>hb^by simp[q]) (λq=>hb^by simp[q]) (λq=>hb^by simp[q]) e
  let I1:Inv X X1 U H { s with heap:=h2,toks:=s.toks }:=I.sO (fp:=[z,TO,i1,i2]) hr2 λb hb=>hf b (by
   erw[aJ,eE,or_false] at hb ⊢;rcases hb with h|h|h|h<;>simp[h])
  let hfr:H M=none:=I.hok.fresh^aq _;let I2:=I1.Bw (I.sy (aq _) hfr) (o:=.tup [x,y]) #[by change 2<=sizeLine;decide,[u,v],.cons ru^.cons rv .nil,#[_,IH.extBut _ _ (aM hTl) hp',Y,_,Y]];let#[a,c,hTO]:=Ts.to;show#[¬M,_,I2,Y,#[_,x,y,hx,hy,Y,hfr,Y],#[hz2,Ts.keep λb hb o e=>IH.extBut b o ?_ e],λb hb=>?_];rcases hb with q|q|q|q<;>rw[q];show D.TIz;show D.TOz;show D.i1z;show D.i2z
  .rw[bX ?_];show(hf b hb).1;let#[a0,c0,akP]:=hs.to;let#[o1,e1,_]:=hs.a1.here;let#[o2,e2,_]:=hs.a2.here;let lt:∀{b:ae}{o:du},s.heap.get? b=!o->b≠s.heap.objs.size:=λe=>aU^aN e;erw[aJ,eE,or_false] at hb;rcases hb with h|h|h|h|h<;>rw[h];show lt hz;show lt hs.ti;show lt akP;show lt e1;show lt e2
 done:=by
  intro X hP hw hK hc i X1 s U H E I hf st hg;subst hP hw hK;let#[q1,q2,hge]:=hg;let#[PD,v1,Mt,z1]:=I.src q1;let#[Q1,v2,Mu,z2]:=I.src q2;let#[hz,hs]:=st;let e1:=v1.length;let e2:=v2.length;show ZP.abk #[_,hz,Y] (ZP.UU (.inl Y) (I.ok.hd hc) D hz hs Mt Mu ?_ λh' e hr he=>?_);rcases Nat.le_total xs.length ys.length with hle|hle;show .inl ?_;erw[mS];show iY ∅;show .inr ?_;erw[mS];show iY ∅
  .let#[o,ho,hcl]:=he;show#[e,o,Y,ho,hcl,Y,?_];show I.sO (t':=s.toks) (fp:=[z,TO,i1,i2]) (λb o hb e=>hr b o (λq=>hb^by simp[q]) (λq=>hb^by simp[q]) (λq=>hb^by simp[q]) (λq=>hb^by simp[q]) e) λb hb=>hf b (by
    erw[aJ,eE,or_false] at hb ⊢;rcases hb with h|h|h|h<;>simp[h])
 self:=λA i s Q E st q=>wpAny_pyIter_zip st.1 q
def abt(K:aB)(R:It->Hp->O):List V->Hp->Prop:=λvs H=>∃t1 t2 a b xs ys,vs=[¬a,¬b]/\Ms t1 K H a xs/\Ms t2 K H b ys/\R (Itz K t1 t2 a b xs ys) H
def afd(K:aB)(ta:TA):TI:=λU H R=>ta U H^abt K R
def HQ{a b:dr}{ta:TA}{p:Pos}(hg:Gl X "zip")(hm:X.mg "zip" = none)(ha:PA X [a,b] ta)(he:starEach [a,b] bi=(false,eval a bi)::starEach [b] bi)(WF:(backTo pos^starEach [b] bi).any (·.1)=bo):PI X (.Tuple es k tpos) (.Call (.Name "zip" p) [a,b] [] pos)^afd dq ta:=by intro X1 s U H R I h;show wpAny_Call_Name_kw^jL I hg hm BT.ae8 ?_;show jS (cM (ha pos X1 s U H _ I h) λus s1 zq=>?_) he WF;let#[vs,H1,I1,rv,q1]:=zq;let#[t1,t2,pa,pb,xs,ys,Y,hx,hy,q]:=q1;let#[u,u',Y,r1,r2]:=vals2 rv;cases r1;cases r2;let#[PD,v1,Mt,z1]:=I1.src hx;let#[Q1,v2,Mu,z2]:=I1.src hy;let#[o1,e1]:=Mt.here;let#[o2,e2]:=Mu.here;show ZP.Pu Mt Mu λh' hz st hsz hk=>?_;let I2:Inv X X1 U H1 { s1 with heap:=h',toks:=s1.toks }:=I1.kept hk;show wpAny_pyIter_zip hz #[_,_,_,_,H1,Y,I2,PB^zipApart_new (aN e1)^aN e2,#[hz,st],λb hb=>?_,q];let fr:∀b,bv<=b->lJ X X1 H1 b:=λb hb=>I1.sy hb^I1.hok.fresh hb;show fr b ?_;erw[aJ,eE,or_false] at hb;rcases hb with h|h|h|h|h<;>rw[h];show qY _ _;show qY _ _;show qY _ _;show aq _;show qY _ _
def Ite(K:aB)(l:ae)(xs:List V):It :=
 #[λi H=>bJ K H l xs/\i<ab,λi H v H'=>∃p x,xs[i]?=!x/\v=¬p/\gU H p (.tup [.int i,x]) H',λi H=>bJ K H l xs/\ab<=i]
theorem Mv{e:ae}(Mo:e≠it):
  Turn P w K (.Tuple es k pos) (Ite K l xs) [e,it] e (λi h=>(∃Tm,IsEnum h e it i Tm)/\h.IsListIter it l i) where
 mem:=by simp
 obj:=λi h st b hb=>by let#[#[Tm,he],o,e1,c,d]:=st;erw[aJ,eE,or_false] at hb;rcases hb with q|q<;>rw[q];show#[_,he,λv q=>by cases q];show#[o,e1,λv q=>by rw[d] at q;cases q]
 keep:=λi h h' st kk=>#[let⟨Tm,he⟩:=st.1;#[Tm,kk e (by simp) _ he],let⟨o,e1,r⟩:=st.2;#[o,kk it (by simp) o e1,r]]
 item:=by
  intro X hP hw hK hc i X1 s U H E I hf st hg;subst hP hw hK;let#[q1,hlt]:=hg;let#[PD,v1,pl,z1]:=I.list q1;let hx:xs[i]?=!(xs[i]'∅):=by simp
  generalize xs[i]'∅=x at hx;let#[u,hu,ru]:=v1.get hx;let#[#[Tm,he],Wp]:=st;let hT1:e≠s.heap.objs.size:=aU^aN he;let hT2:it≠s.heap.objs.size:=by let#[o,e1,_]:=Wp;show aU^aN e1
  show wpAny_pyNext_enum_item he Wp pl.isList (by simpa using hu) Mo λh' ho zf hT hsz hk=>#[_,Y,?_];show wpAny_letOwnedTupleGo_enum ho λh2 he2 IH=>?_;let hfr:H M=none:=I.hok.fresh^aq _;let I1:Inv X X1 U H { s with heap:=h2,toks:=s.toks+1 }:=I.sO (fp:=[e,it]) (λb o hb e1=>IH.extBut b o (λq=>hb^by simp[q])^hk b o (λq=>hb^by simp[q]) (λq=>hb^by simp[q]) e1) λb hb=>hf b hb;let I2:=I1.Bw (I.sy (aq _) hfr) (o:=.tup [.int i,x]) #[by change 2<=sizeLine;decide,[.int i s.toks,u],.cons #[_,Y]^.cons ru .nil,#[_,IH.extBut _ _ (aM hT1) hT,Y,_,Y]];show#[¬M,_,I2,Y,#[_,x,hx,Y,hfr,Y],#[#[_,by simpa using he2],zf.extBut IH.extBut^aM Mo],λb hb=>?_];rw[bX ?_];show(hf b hb).1
  .erw[aJ,eE,or_false] at hb;rcases hb with h|h<;>rw[h];show hT1;show hT2
 done:=by intro X hP hw hK hc i X1 s U H E I hf st hg;subst hP hw hK;let#[q1,hge]:=hg;let#[PD,v1,pl,z1]:=I.list q1;let#[#[Tm,he],Wp]:=st;let e1:=v1.length;show wpAny_pyNext_enum_end (I.ok.hd hc) he Wp pl.isList ?_ λh' hx=>#[Y,?_];erw[mS];show iY ∅;show I.sO (t':=s.toks) (fp:=[e,it]) (λb o hb e1=>hx b o (λq=>hb^by simp[q]) e1) λb hb=>hf b hb
 self:=λA i s Q E st q=>let⟨Tm,he⟩:=st.1;wpAny_pyIter_enum he q
def abu(K:aB)(R:It->Hp->O):List V->Hp->Prop:=λvs H=>∃a xs,vs=[¬a]/\bJ K H a xs/\R (Ite K a xs) H
def Yk(K:aB)(ta:TA):TI:=λU H R=>ta U H^abu K R
def qo{a:dr}{ta:TA}{p:Pos}(hg:Gl X "enumerate")(hm:X.mg "enumerate" = none)(ha:PA X [a] ta)(he:starEach [a] bi=(false,eval a bi)::starEach [] bi)(WF:(backTo pos^starEach [] bi).any (·.1)=bo):PI X (.Tuple es k tpos) (.Call (.Name "enumerate" p) [a] [] pos)^Yk dq ta:=by intro X1 s U H R I h;show wpAny_Call_Name_kw^jL I hg hm BT.wD ?_;show jS (cM (ha pos X1 s U H _ I h) λus s1 zq=>?_) he WF;let#[vs,H1,I1,rv,q1]:=zq;let#[pa,xs,Y,hx,q]:=q1;let#[u,Y,r1]:=vals1 rv;cases r1;let#[PD,v1,pl,z1]:=I1.list hx;show call_enumerate_list pl.isList λh' hE hI hsz hk=>?_;let I2:Inv X X1 U H1 { s1 with heap:=h',toks:=s1.toks }:=I1.kept hk;show wpAny_pyIter_enum hE #[_,_,_,_,H1,Y,I2,Mv^Nat.succ_ne_self _,#[#[_,hE],hI],λb hb=>?_,q];let fr:∀b,bv<=b->lJ X X1 H1 b:=λb hb=>I1.sy hb^I1.hok.fresh hb;show fr b ?_;erw[aJ,eE,or_false] at hb;rcases hb with h|h<;>rw[h];show qY _ _;show aq _
end L2
def BT.afg:PySem.bootBuiltins "any" = !.builtin "any":=()
namespace L2
variable {ys:List V}{R:It->Hp->O}
def PJ{bs:List ci}:TruthOf prog w A (λi v=>((bs.map Value.bool).toArray)[i]?=!v) (λi=>bs.getD i bo):=by
 intro i v s Q E hP hQ;erw[mS,bB] at hP;let#[b,hb,Y]:=cL.mp hP;let e:bs.getD i bo=b:=by simp[List.getD,hb]
 let hQ:Q b s:=by let hQ:Q (bs.getD i bo) s:=hQ;rwa [e] at hQ
 first|show wpAny_truthy_bool hQ|show aW hQ
theorem J9:∀{bs:List ci}{us:List J},Vals (bs.map V.bl) us->us=bs.map Value.bool
 | [],us,h=>by cases h;rfl
 | b::bs,us,h=>by
  cases h with
  | cons r rr =>
   cases r;rw[J9 rr];rfl
def range_any(bs:List ci):(List.range bs.length).any (λi=>bs.getD i bo)=bs.any id:=by rw[Bool.eq_iff_iff];erw[List.any_eq_true,gD];constructor;rintro⟨i,hi,h⟩;show#[bs[i],lD hi,by simpa[List.getD,hi] using h];rintro⟨b,hb,h⟩;let#[i,hi,Y]:=qW.mp hb;show#[i,hi,by simpa[List.getD,hi] using h]
def afh(K:aB):List V->Hp->VK->Prop:=λxs H Q=>∃(p:ae)(bs:List ci),xs=[¬p]/\bJ K H p^bs.map V.bl/\Q (.bl^bs.any id) H
def Mw(hc:X.calm=am):fj X (.builtin "any")^afh X.K:=by
 intro X1 s U H xs us Q I r h;let#[p,bs,Y,hS,q]:=h;let#[u,Y,ru]:=vals1 r;cases ru;let#[XL,rv,pl,hz]:=I.list hS;let e:=J9 rv;subst e;let hlt:p<s.heap.objs.size:=by let#[o,ho,_]:=pl.isList;show aN ho
 let W:=Walks.list (prog:=bj) (w:=cr) (A:=X.A.in1) (show X.A.in1.handled=bc from I.ok.hd hc) M p (aU hlt) (bs.map Value.bool).toArray;show call_any_walk^wpAny_pyIter_list pl.isList #[M,_,_,_,_,_,λi=>bs.getD i bo,Y,W,#[#[_,jH _ rfl,Y,Y],pl.isList.push _],PJ,λh' tk hk=>?_];show#[.bl^bs.any id,H,I.kept λb o e=>hk b o (λz=>aU (aN e)^aC.mp z)^eT _ e,?_,q];change Value.bool _=Value.bool _;rw[bC,au,range_any]
mutual
inductive RD (K:aB) (H:Hp):V->PyData->Prop
 | cH:RD K H .cH .none
 | bl (b:Bool):RD K H (.bl b)^.bool b
 | int (i:Int):RD K H (.int i)^.int i
 | str (x:Str):RD K H (.str x)^.str x
 | lst {a:Addr} {xs:List V} {ds:List PyData}:bJ K H a xs->EG K H xs ds->RD K H (¬a)^.list ds
 | tup {a:Addr} {xs:List V} {ds:List PyData}:eB K H a xs->EG K H xs ds->RD K H (¬a)^.tuple ds
inductive EG (K:aB) (H:Hp):List V->List PyData->Prop
 | nil:EG K H [] []
 | cons {x:V} {d:PyData} {xs:List V} {ds:List PyData}:RD K H x d->EG K H xs ds->EG K H (x::xs) (d::ds)
end
section
variable {U:St}
mutual
theorem RD.reads(I:Inv X X1 U H s):∀{x:V}{d:PyData}{u:J},RD dq H x d->RelV x u->∃as,Reads ap u d as
 | _,_,_,.cH,r=>by cases r;show#[[],.none]
 | _,_,_,.bl b,r=>by cases r;show#[[],.bool b]
 | _,_,_,.int i,r=>by let#[t,Y]:=r;show#[[],.int i t]
 | _,_,_,.str x,r=>by let#[t,Y]:=r;show#[[],.str x t]
 | _,_,_,.lst h rs,r=>by
  cases r;let#[XL,rv,#[o,n,e,hc,hd,hs],z]:=I.list h;let#[as,q]:=EG.reads I rs rv;show#[_,.list e hc hs^by simpa using q]
 | _,_,_,.tup h rs,r=>by cases r;let#[XL,rv,#[o,e,hc,n,hs],z]:=I.tuple h;let#[as,q]:=EG.reads I rs rv;show#[_,.tuple e hc hs^by simpa using q]
theorem EG.reads(I:Inv X X1 U H s):∀{xs:List V}{ds:List PyData}{us:List J},EG dq H xs ds->Vals xs us->∃as,ReadsAll ap us ds as
 | _,_,_,.nil,r=>by cases r;show#[[],.nil]
 | _,_,_,.cons h rs,r=>by
  cases r with
  | cons r1 r2 =>
   let#[as,q]:=RD.reads I h r1;let#[bs,q']:=EG.reads I rs r2;show#[_,.cons q q']
end
end
theorem EG.ints:∀ns:List Z,EG K H (ns.map V.int) (ns.map PyData.int)
 | []=>.nil
 | n::ns=>.cons (.int n)^EG.ints ns
def Sh(k:B)(d:PyData):=d.canLay0=am/\d.depth<=k
theorem Sh.shaped{d:PyData}(h:Sh k d)(hk:k<=64):SeqAt.shaped d=true:=by unfold SeqAt.shaped;rw[h.1,decide_eq_true^aZ h.2 hk];rfl
theorem Sh.int(i:Z):Sh k^.int i:=#[Y,aQ _]
def Sh.cH:Sh k .none:=#[Y,aQ _]
theorem Sh.str(h:PyData.strOk x=am):Sh k^.str x:=#[h,aQ _]
theorem Sh.all:∀{ds:List PyData},(∀d∈ds,Sh k d)->PyData.canLayAll0 ds=am/\PyData.depthAll ds<=k
 | [],_=>#[Y,aQ _]
 | d::ds,h=>by let h1:=h d (by simp);let h2:=Sh.all (ds:=ds) λe he=>h e^dz _ he;show#[?_,?_];change(PyData.canLay0 d&&PyData.canLayAll0 ds)=am;rw[h1.1,h2.1];rfl;change max (PyData.depth d)^PyData.depthAll ds<=k;show Nat.max_le.mpr #[h1.2,h2.2]
theorem Sh.list{ds:List PyData}(h:∀d∈ds,Sh k d):Sh (k+1)^.list ds:=#[(Sh.all h).1,Nat.succ_le_succ (Sh.all h).2]
def Sh.tup{k:B}{ds:List PyData}(h:∀d∈ds,Sh k d):Sh (k+1)^.tuple ds:=#[(Sh.all h).1,Nat.succ_le_succ (Sh.all h).2]
def Sh.ints:Sh (k+1)^.list^ns.map PyData.int:=Sh.list λd hd=>by let#[n,_,Y]:=aG.mp hd;show .int n
def PK(K:aB):R2:=λx y H Q=>∃d e,RD K H x d/\RD K H y e/\SeqAt.shaped d=am/\SeqAt.shaped e=am/\Q (.bl^PyData.eqv d e) H
def vF(hu:X.A.units+64<cLine):kO X (compareOp .Eq)^PK X.K:=by intro X1 s U H x y v u Q I rx ry h;let#[d,e,hd,he,sd,se,q]:=h;let#[as,ra]:=hd.reads I rx;let#[bs,rb]:=he.reads I ry;show eq_dataH ra rb sd se hu #[.bl _,H,I,Y,q]
section
variable {nx bk ct:St->Hp->O}{U:St}{P:ci->Hp->O}{t u:TS}
def zk{x:V}(d:PyData)(k:B)(hk:k<=64)(hx:RD K H x d)(hy:RD K H y d)(hs:Sh k d)(h:Q (.bl am) H):PK K x y H Q:=#[d,d,hx,hy,hs.shaped hk,hs.shaped hk,by rw[SeqAt.eqv_refl d hs.1];show h]
def afi{p:ae}{bs:List ci}(hS:bJ K H p^bs.map V.bl)(h:Q (.bl^bs.any id) H):afh K [¬p] H Q:=#[p,bs,Y,hS,h]
def BD{lo hi:Option Z}(hS:eB K H a xs)(hw:Not (HT.gz ab 0 lo=0/\HT.gz ab ab hi=ab))(h:∀p H',gU H p (.tup^iI xs lo hi) H'->Q (¬p) H'):UI K (¬a) lo hi H Q:=#[a,xs,Y,hS,hw,λp hp=>h p _ #[hp,Y]]
def akQ{tl:TA}(h:tl U H^abt K R):afd K tl U H R:=h
def Ka(hx:Ms t1 K H a xs)(hy:Ms t2 K H b ys)(h:R (Itz K t1 t2 a b xs ys) H):abt K R [¬a,¬b] H:=#[t1,t2,a,b,xs,ys,Y,hx,hy,h]
def aiK{tl:TA}(h:tl U H^abu K R):Yk K tl U H R:=h
def aoe(hS:bJ K H a xs)(h:R (Ite K a xs) H):abu K R [¬a] H:=#[a,xs,Y,hS,h]
theorem C4{tb:TS}(Pv:B->St->Hp->O)(h0:Pv 0 U H)(hl:∀i U H,i<=ab->Pv i U H->bJ K H a xs)
  (hs:∀i x p U H H',xs[i]?=!x->Pv i U H->gU H p (.tup [.int i,x]) H'->g (¬p) U H' λU2 H2=>tb #[Pv (i+1),rt,nx,Pv (i+1)] U2 H2)(hd:∀U H,Pv ab U H->nx U H):Pp (Ite K a xs) g tb nx rt U H:=by show#[λi m U H=>m=ab-i/\i<=ab/\Pv i U H,#[ab,by simp,aQ _,h0],?_];rintro i m U H ⟨rfl,hi,p⟩;let q:=hl i U H hi p;by_cases hlt:i<ab;show .inr #[#[q,hlt],Pv (i+1),λU' H' p'=>#[ab-(i+1),∅,Y,hlt,p'],λx H' y=>?_];let#[pa,x',hx,Y,n]:=y;show hs i x' pa U H H' hx p n;let e:i=xs.length:=∅;subst e;show .inl #[#[q,aq _],hd U H p]
theorem afj{tb:TS}(Pv:B->St->Hp->O)(h0:Pv 0 U H)(hl:∀i U H,i<=min ab cf->Pv i U H->Ms t1 K H a xs/\Ms t2 K H b ys)
  (hs:∀i x y p U H H',xs[i]?=!x->ys[i]?=!y->Pv i U H->gU H p (.tup [x,y]) H'->g (¬p) U H' λU2 H2=>tb #[Pv (i+1),rt,nx,Pv (i+1)] U2 H2)(hd:∀U H,Pv (min ab cf) U H->nx U H):Pp (Itz K t1 t2 a b xs ys) g tb nx rt U H:=by show#[λi m U H=>m=min ab cf-i/\i<=min ab cf/\Pv i U H,#[min ab cf,by simp,aQ _,h0],?_];rintro i m U H ⟨rfl,hi,p⟩;let q:=hl i U H hi p;by_cases hlt:i<min ab cf;show .inr #[#[q.1,q.2,hlt],Pv (i+1),λU' H' p'=>#[min ab cf-(i+1),∅,Y,hlt,p'],λx H' y=>?_];let#[pa,x',y',hx,hy,Y,n]:=y;show hs i x' y' pa U H H' hx hy p n;let e:i=min ab ys.length:=∅;rw[e] at p;show .inl #[#[q.1,q.2,∅],hd U H p]
def PL(Ya:It)(g:TG)(tt:TT)(te:TE)(τ0:St)(Q:VK)(H:Hp):=∃W:B->B->List V->St->Hp->O,(∃m,W 0 m [] τ0 H)/\∀i m ys τ H,W i m ys τ H ->
 (Ya.stop i H/\∀p,H p=bc->Q (¬p)^upd H p^.lst ys)\/(Ya.go i H/\cf<sizeLine/\∃N:List V->St->Hp->O,(∀RF τ' H',N RF τ' H'->∃m',m'<m/\W (i+1) m' RF τ' H') /\
  ∀v H',Ya.OH i H v H'->g v τ H' λτ2 H2=>tt τ2 H2 λb H3=>if b=am then te τ2 H3 λy H4=>N (ys++[y]) τ2 H4 else N ys τ2 H3)
def aiL{wi:TI}(h:wi U H λYa H1=>PL Ya g tt te (List.replicate k bc++cut ix U) Q H1):C3 wi g tt te ix k U H Q:=h
theorem PM{τ0:St}(Pv:B->List V->St->Hp->O)(h0:Pv 0 [] τ0 H)(hl:∀i zs τ H,i<=min ab cf->Pv i zs τ H->Ms t1 K H a xs/\Ms t2 K H b ys/\zs.length<=i)(hz:ab<=1000000)
  (hs:∀i x y p zs τ H H',xs[i]?=!x->ys[i]?=!y->Pv i zs τ H->gU H p (.tup [x,y]) H'->g (¬p) τ H' λτ2 H2=>tt τ2 H2 λb H3=>if b=am then te τ2 H3 λy H4=>Pv (i+1) (zs++[y]) τ2 H4 else Pv (i+1) zs τ2 H3)
  (hd:∀zs τ H,Pv (min ab cf) zs τ H->∀p H',gU H p (.lst zs) H'->Q (¬p) H'):PL (Itz K t1 t2 a b xs ys) g tt te τ0 Q H:=by show#[λi m zs τ H=>m=min ab cf-i/\i<=min ab cf/\Pv i zs τ H,#[min ab cf,by simp,aQ _,h0],?_];rintro i m zs τ H ⟨rfl,hi,p⟩;let#[q1,q2,q3]:=hl i zs τ H hi p;by_cases hlt:i<min ab cf;show .inr #[#[q1,q2,hlt],cR (show zs.length<1000001 by lia) (),Pv (i+1),λzs' τ' H' p'=>#[min ab cf-(i+1),∅,Y,hlt,p'],λx H' y=>?_];let#[pa,x',y',hx,hy,Y,n]:=y;show hs i x' y' pa zs τ H H' hx hy p n;let e:i=min ab ys.length:=∅;rw[e] at p;show .inl #[#[q1,q2,∅],λr hr=>hd zs τ H p r _ #[hr,Y]]
theorem Kc{τ0:St}(Pv:B->List V->St->Hp->O)(h0:Pv 0 [] τ0 H)(hl:∀i zs τ H,i<=ab->Pv i zs τ H->bJ K H a xs/\zs.length<=i)(hz:ab<=1000000)
  (hs:∀i x p zs τ H H',xs[i]?=!x->Pv i zs τ H->gU H p (.tup [.int i,x]) H'->g (¬p) τ H' λτ2 H2=>tt τ2 H2 λb H3=>if b=am then te τ2 H3 λy H4=>Pv (i+1) (zs++[y]) τ2 H4 else Pv (i+1) zs τ2 H3)
  (hd:∀zs τ H,Pv ab zs τ H->∀p H',gU H p (.lst zs) H'->Q (¬p) H'):PL (Ite K a xs) g tt te τ0 Q H:=by show#[λi m zs τ H=>m=ab-i/\i<=ab/\Pv i zs τ H,#[ab,by simp,aQ _,h0],?_];rintro i m zs τ H ⟨rfl,hi,p⟩;let#[q1,q3]:=hl i zs τ H hi p;by_cases hlt:i<ab;show .inr #[#[q1,hlt],cR (show zs.length<1000001 by lia) (),Pv (i+1),λzs' τ' H' p'=>#[ab-(i+1),∅,Y,hlt,p'],λx H' y=>?_];let#[pa,x',hx,Y,n]:=y;show hs i x' pa zs τ H H' hx p n;let e:i=xs.length:=∅;rw[e] at p;show .inl #[#[q1,∅],λr hr=>hd zs τ H p r _ #[hr,Y]]
end
def qH(w:cw)(K:aB)(a:ae)(kvs:List (Key×V)):=(a==sysModules)=bo/\∀(P:de)(h:cv),K.In h->∃vs,KV kvs vs/\h.DictOf (bL P w) a vs
noncomputable def entriesOf(w:cw):List (ax×Tok×J)->List DictEntry
 | []=>[]
 | (k,t,v)::r=>{ hash:=PyData.keyHash w.params k,key:=.str k t,val:=v }::entriesOf w r
theorem m9{P:de}{w:cw}:∀(es:List (ax×Tok×J)),(∀e∈entriesOf w es,∃k,(bL P w).is k e.key=am/\e.hash=(bL P w).hash k)/\Pairs (bL P w) (entriesOf w es) (es.map λe=>(Sum.inr e.1,e.2.2))
 | []=>by
  show#[λe h=>?_,?_];simp[entriesOf] at h;show Pairs.nil
 | (k,t,v)::r=>by let#[h1,h2]:=m9 (P:=P) (w:=w) r;show#[λe he=>?_,.cons (oQ P w k t) Y h2];rcases aJ.mp he with q|q;subst q;show#[.inr k,oQ P w k t,Y];show h1 e q
def qH.mk'{es:List (ax×Tok×J)}(l:K.lookup a=some #[.type "dict", none,.dict (entriesOf w es).toArray n,#[]])(hd:(a==sysModules)=bo)(nd:(es.map (·.1)).Nodup)
  (hv:KV kvs (es.map λe=>((Sum.inr e.1:Key),e.2.2))):qH w K a kvs:=by
 show#[hd,λP h kin=>#[_,hv,_,_,_,kin a _ l,#[Y,Y,Y],Y,?_,?_,?_]];intro e he;show(m9 es).1 e (by simpa using he);simpa using(m9 (P:=P) (w:=w) es).2
 .have q:((es.map λe=>((Sum.inr e.1:Key),e.2.2)).map (·.1))=(es.map (·.1)).map (λx=>(Sum.inr x:Key)):=by simp[gC,Function.comp_def]
  rw[q];show oN.mpr^List.Pairwise.imp (λh e=>h^Sum.inr.inj e) nd
section
variable {o i f:dr}{ty:TE}
def PN(a:ae)(kvs:List (Key×V))(td ty:TE):TE:=λU H Q=>td U H λx H1=>ty U H1 λy H2=>∃k v,x=¬a/\y=kV k/\dI kvs k=!v/\Q v H2
def zm(C:qH cr dq a kvs)(ho:PE X o td)(hi:PE X i ty)(hs:O6 i):PE X (.Subscript o i pos)^PN a kvs td ty:=by intro X1 s U H Q I h;show CY PySem.F.slot_dict_getitem.lookup hs (cM (ho X1 s U H _ I h) λu s1 zq=>?_);let#[x,H1,I1,rx,q1]:=zq;show cM (hi X1 s1 U H1 _ I1 q1) λiv s2 zq=>?_;let#[y,H2,I2,ry,k,v,ex,ey,l,q2]:=zq;subst ex ey;obtain rfl:u=Value.ref a:=rx;let#[vs,WP,dd]:=C.2 bj s2.heap I2.sr;let#[w',hw,Pm]:=lG.some_of (v:=v) (o:=valueAt vs k) (by rw[<- l];show WP.val k);show#[dd.typeIs,wpAny_getItem_of (qG ry) dd.mapOf hw #[v,H2,I2.tok _,Pm,q2]]
def Kd(a:ae)(kvs:List (Key×V))(td ty tx:TE):TE:=λU H Q=>td U H λx H1=>x=¬a/\ty U H1 λy H2=>tx U H2 λz H3=>∃k,y=kV k/\Q ((dI kvs k).getD z) H3
def Mx(C:qH cr dq a kvs)(ho:PE X o td)(he:PE X e ty)(hf:PE X f tx)(m:M2 X o "get" Tl e f Tx):PE X (.Call (.Attribute o "get" Tl) [e,f] [] Tx)^Kd a kvs td ty tx:=by intro X1 s U H Q I h;show wpAny_Call_method m.base m.few m.line PySem.F.plainAttrs_dict r6 PySem.F.type_dict_get (cM (ho X1 s U H _ I h) λu s1 zq=>?_);let#[x,H1,I1,rx,ex,q1]:=zq;subst ex;obtain rfl:u=Value.ref a:=rx;let#[vs,WP,dd]:=C.2 bj s1.heap I1.sr;show#[dd.typeIs,λb q=>?_,?_];cases q;let#[ob,_,_,h1,h2,_]:=dd;show#[ob,h1,h2.2.1];rw[m.trees];show yx Y^Calls.evalArgs_plain^mQ (cM (he X1 s1 U H1 _ I1 q1) λiv s2 zq=>?_);let#[y,H2,I2,ry,q2]:=zq;show mQ (cM (hf X1 s2 U H2 _ I2 q2) λfv s3 zq=>?_);let#[z,H3,I3,rz,k,ey,q3]:=zq;show oG ?_;subst ey;let#[vs,WP,dd]:=C.2 bj s3.heap I3.sr;show call_meetsIn r6 dd.typeIs PySem.F.entry_dict_get (PySem.F.args_dict_get_3 _ _ _) (meets_dict_get_default (bL bj cr) a (qG ry) C.1 fv) #[_,dd.mapOf,#[_,H3,I3.tok _,(WP.val k).getD rz,q3]]
end
section
variable {nx bk ct:St->Hp->O}{U:St}{ty:TE}
def rDK(a:ae)(kvs:List (Key×V)):R2:=λx y H Q=>∃k v,x=¬a/\y=kV k/\dI kvs k=!v/\Q v H
def aiM(h:td U H λx H1=>ty U H1 λy H2=>rDK a kvs x y H2 Q):PN a kvs td ty U H Q:=h
def afk(hv:dI kvs^.inr x=!v)(h:Q v H):rDK a kvs (¬a) (.str x) H Q:=#[.inr x,v,Y,Y,hv,h]
def afl(kvs:List (Key×V)):V->V->Hp->VK->Prop:=λy z H Q=>∃k,y=kV k/\Q ((dI kvs k).getD z) H
def afm(h:td U H λx H1=>x=¬a/\ty U H1 λy H2=>tx U H2 λz H3=>afl kvs y z H3 Q):Kd a kvs td ty tx U H Q:=h
def aog{A:O}(h:A):(V.ref a=¬a/\A):=#[Y,h]
def aoh{z:V}(hv:(dI kvs^.inr x).getD z=v)(h:Q v H):afl kvs (.str x) z H Q:=#[.inr x,Y,by rw[hv];show h]
end
def fq(K:aB)(a:ae)(xs:List V):=∀H:Hp,eB K H a xs
def fq.sq(c:fq K a xs):eB K H a xs:=c H
def fq.mk'{XL:Array J}(l:K.lookup a=some #[.type "tuple", od,.seq XL n,sl])(r:Vals xs XL.toList)(hz:XL.size.ble 1000=am):fq K a xs :=
 let hz:=dW hz
 λz=>.inr #[_,XL,n,l,Y,Y,aZ hz (),r]
def oY(e:dq=K):IxR X^aaU K:=e▸aV
def C5(e:dq=K):IxR X^O0 K:=e▸aA
def zo(e:dq=K):fj X (.builtin "len")^abf K:=e▸bh
def abv(e:dq=K):fj X (.builtin "isinstance")^abg K:=e▸j5
def UY(e:dq=K)(hu:X.A.units+64<cLine):kO X (compareOp .Eq)^PK K:=e▸vF hu
def UZ{t:Hi}(e:dq=K)(hc:X.calm=am)(h:XS X es t)
  (hn:⇑((assignEach es bi).length=n))(TC:⇑((assignEach es bi).findIdx? (·.1)=none)):PG X (.Tuple es k pos)^OD K n t:=e▸OE hc h hn TC
def PR{l:dr}{tl:TE}(e:dq=K)(hl:PE X l tl):PI X tg l^OJ K tl:=e▸cC hl
def PU{α:Type}(x:α)(xs:List α):uU (x::xs) 0=!x:=dN (j:=0) Y
def akR{U:St}(h:ta U H (C1 λb H1=>Q (.bl (not b)) H1)):XQ ta U H Q:=h
end L2
def BT.Yl:PySem.bootBuiltins "max" = !.builtin "max":=()
namespace L2
variable {i:Z}
section
variable {nx bk ct:St->Hp->O}{U:St}{P:ci->Hp->O}{ty:TE}{t u:TS}
def rDG:R2:=λx y H Q=>∃a v,x=¬a/\sG H a y^!v/\Q v H
def akT(h:td U H λx H1=>ty U H1 λy H2=>rDG x y H2 Q):O7 td ty U H Q:=h
def sQ(hd:H a=!.dK kvs)(hv:dI kvs^.inr x=!v)(h:Q v H):rDG (¬a) (.str x) H Q:=#[a,v,Y,.inl #[kvs,.inr x,.inl hd,Y,hv.symm],h]
def afn(hd:H a=!.dK kvs)(hv:dI kvs^.inl i=!v)(h:Q v H):rDG (¬a) (.int i) H Q:=#[a,v,Y,.inl #[kvs,.inl i,.inl hd,Y,hv.symm],h]
def rDI:R2:=λy x H Q=>∃a o,x=¬a/\sG H a y o/\Q (.bl o.isSome) H
def afo:R2:=λy x H Q=>∃a o,x=¬a/\sG H a y o/\Q (.bl (not o.isSome)) H
def aoj(h:ty U H λy H1=>td U H1 λx H2=>rDI y x H2 Q):aaZ ty td U H Q:=h
def akU(h:ty U H λy H1=>td U H1 λx H2=>afo y x H2 Q):J0 ty td U H Q:=h
def rD2(ty tx:TE)(U:St)(Q:VK):V->Hp->Prop:=λx H1=>∃a,x=¬a/\IsD H1 a/\ty U H1 λy H2=>tx U H2 λz H3=>∃o,sG H3 a y o/\Q (o.getD z) H3
def afp(a:ae):V->V->Hp->VK->Prop:=λy z H3 Q=>∃o,sG H3 a y o/\Q (o.getD z) H3
def aiN(h:td U H^rD2 ty tx U Q):Pd td ty tx U H Q:=h
def aqn(hd:H a=!.dK kvs)(h:ty U H λy H2=>tx U H2 λz H3=>afp a y z H3 Q):rD2 ty tx U Q (¬a) H:=#[a,Y,.inl #[kvs,.inl hd],h]
def aol{z:V}(hd:H a=!.dK kvs)(h:Q ((dI kvs^.inl i).getD z) H):afp a (.int i) z H Q:=#[_,.inl #[kvs,.inl i,.inl hd,Y,Y],h]
def rDP(v x y:V)(H3:Hp)(R:Hp->O):=∃a H4,x=¬a/\L8 H3 a y v H4/\R H4
def akV(h:tv U H λv H1=>td U H1 λx H2=>ty U H2 λy H3=>rDP v x y H3 λH4=>nx U H4):X4 td ty tv #[nx,rt,bk,ct] U H:=h
def aom{R:Hp->O}(hd:H a=!.dK kvs)(hz:ce<1000000)(h:∀H',nU H a (.dK^putK kvs (.inr x) v) H'->R H'):rDP v (¬a) (.str x) H R:=#[a,_,Y,.inl #[kvs,.inr x,hd,Y,cR hz (),Y],h _ rfl]
def aon{R:Hp->O}(hd:H a=!.dK kvs)(hz:ce<1000000)(h:∀H',nU H a (.dK^putK kvs (.inl i) v) H'->R H'):rDP v (¬a) (.int i) H R:=#[a,_,Y,.inl #[kvs,.inl i,hd,Y,cR hz (),Y],h _ rfl]
def akW(h:∀p H',gU H p (.dK []) H'->Q (¬p) H'):Pa U H Q:=λp hp=>h p _ #[hp,Y]
def vG{ys:List V}(ha:eB K H a xs)(hb:eB K H b ys)(hx:xs≠[])(hy:ys≠[])(hz:ab+cf<=1000000)(h:∀p H',gU H p (.tup (xs++ys)) H'->Q (¬p) H'):JV K (¬a) (¬b) H Q :=
 #[a,b,xs,ys,Y,Y,ha,hb,hx,aZ hz (),λe=>absurd e hy,λz p hp=>h p _ #[hp,Y]]
def PV{i:B}{y:ax}{py Pi:Pos}{ST iter:dr}{xs:List ax}{ifs:List dr}{fr:List ax}{wi:TI}(hN:X.N.Nodup)(hiy:X.N[i]?=!y)(hy:Loc X.env.scope y)
  (X2:gk X scope cl xs fr ix)(hi:PI X tg iter wi)(hg:∀C fp s H,PG (uV X (xs++fr) scope cl C fp s H) tg g)
  (ht:∀C fp s H,PF (uV X (xs++fr) scope cl C fp s H) ifs tt)(he:∀C fp s H,PE (uV X (xs++fr) scope cl C fp s H) ST te)
  (hsw:⇑(swapsWith (.ListComp ST [#[tg,iter,ifs,0]] scope pos) (!.Name y py) Pi.line bi=pure true))
  (hs:⇑(∀v,foldedSetIterable iter bi v=pure v))(hf:‹X.fn y=am\/X.env.scope.names.lookup y=!.local›):
  PS X (.Assign [.Name y py] (.ListComp ST [#[tg,iter,ifs,0]] scope pos) Pi)^Ex (C3 wi g tt te ix ab) i:=by
 intro X1 s U H D I h;rw[exec_Assign_Name_used _ _ _ _ hsw];show av^wpAny_standAt^av ?_;change wpAny _ X.A (do let _ <- comprehension (.ListComp ST [#[tg,iter,ifs,0]] scope pos) scope bi _ (newList []) bo (eval iter bi) (!assign (.Name y py) bi)) _ _ s;show av (wpAny_mono (wpAny_comprehension_free (use:=!assign (.Name y py) bi) (Q:=λq s'=>SP X X1 D .next s') Y hs X2.clos X2.kind X2.names
  (cM (hi X1 s U H _ I h) λv s1 h1=>cM h1 λitv s2 h2=>?_)) (λq s' hq=>aW^aW hq) λq q e=>e)
 let#[it,fp,tn,Ya,H2,e,I2,T,Kj,f2,W,#[m0,w0],turn]:=h2;subst e;show oW X2 hg ht he I2 T Kj f2 (λys H=>∀p,H p=bc->D.nx (U.set i^!.ref p)^upd H p^.lst ys) W m0 w0 turn λL C s' ys H' I' hm fC hD z=>?_;let#[m,hm]:=hm;change wpAny _ X.A (assign (.Name y py) bi^¬L) _ _ _;show wpAny_assign_Name^vh I' hN hiy hy (v:=¬L) Y (λs'' I'' TZ=>?_) hf;let#[a,TZ,ha]:=TZ;let hCa:C≠a:=by rcases ha with z|z;rw[z];show fC.2.1;show aM^fC.2.2.2.2.1 _ _ z
 show#[m,hm.sameBut TZ hCa,λh' Ix=>?_];show#[_,_,I''.turned (t':=s''.toks) (it:=C) (λb o hb e=>Ix.extBut b o hb e) fC.1 fC.2.1 fC.2.2.2.1 fC.2.2.2.2.1 fC.2.2.2.2.2,z L hD]
end
structure U0 (K:aB) (x qual:Str) (st:Stmt) (f:Addr) (fd:FuncData) (dV:Value):Prop where
 ex:∃(oc:Value)(od:Option Addr)(kV Sr pm:Value)(an:Option Addr)(cdv ct:Value)(FX:Array^Option Value),
  fd=PySem.W.fnOf x qual (gI st) (fO st) (ay st) dV kV Sr pm an cdv ct/\K.lookup f=some #[oc,od,.func fd,FX]/\PySem.W.codeIn K cdv qual=true
 kp:PySem.W.keepIn K^.ref f=true
def U0.ok{qual:ax}{dV:J}{N:List ax}(F:U0 K x qual st f fd dV)(S:aF N ps^ay st)(len:∀vs H Q E,sp vs H Q E->dv=cn)
  (Ki:∀(cdv:J)(A:Around)(outer:List Env)(s:aw)(H:Hp)(vs:List V)(Q:VK)(E:XK),jb k^A.deeper^envOfC qual (ay st) M f cdv->sp vs H Q E ->
   ∃t,AK (Ep fX P w K mg base N qual (ay st) f cdv A outer s H E).nox (fO st) t/\t { nx:=λz H'=>Q .cH H',rt:=Q } (start N vs) H):bK P w K mg base fX (k+1) f fd ps sp:=by let#[oc,od,kV,Sr,pm,an,cdv,ct,FX,Y,lk,FM]:=F.ex;show XY lk FM S len λA outer s H vs Q E hr TX=>?_;let#[t,h,q]:=Ki cdv A outer s H vs Q E hr TX;show#[t,h.nox,q]
def U1{qual:ax}{dV:J}{FX:Array^Option J}{kV Sr cdv:J}(l:K.lookup f=some #[oc,od,.func^PySem.W.fnOf x qual (gI st) (fO st) (ay st) dV kV Sr pm an cdv ct,FX])
  (c:PySem.W.codeIn K cdv qual=am)(k:PySem.W.keepIn K^.ref f=am):U0 K x qual st f (PySem.W.fnOf x qual (gI st) (fO st) (ay st) dV kV Sr pm an cdv ct) dV:=#[#[oc,od,kV,Sr,pm,an,cdv,ct,FX,Y,l,c],k]
section
variable {nx bk ct:St->Hp->O}{U:St}{P:ci->Hp->O}{ty:TE}{t u:TS}
theorem afq{τ:St}(Pv:B->List V->Hp->O)(h0:Pv 0 [] H)(hl:∀i ys H,i<=ab->Pv i ys H->eB K H a xs)
  (hs:∀i x ys H,xs[i]?=!x->Pv i ys H->cf<sizeLine/\tt (some x::τ) H λb H3=>if b=am then te (some x::τ) H3 λy H4=>Pv (i+1) (ys++[y]) H4 else Pv (i+1) ys H3)
  (hd:∀ys H,Pv ab ys H->∀p H',gU H p (.lst ys) H'->Q (¬p) H'):HP (TV K a) tt te τ Q H:=by
 show#[λi m ys H=>m=ab-i/\i<=ab/\Pv i ys H,#[ab,by simp,aQ _,h0],?_];rintro i m ys H ⟨rfl,hi,p⟩;let q:=hl i ys H hi p;by_cases hlt:i<ab
 .have hx:xs[i]?=some xs[i]:=by simp[hlt]
  let#[hz,q']:=hs i _ ys H hx p;show .inr #[#[xs,xs[i],q,hx],hz,Pv (i+1),λU' H' p'=>#[ab-(i+1),∅,Y,hlt,p'],λx H' y=>?_];let#[e,y]:=y;subst e;let e2:x=xs[i]:=Option.some.inj^(y xs q).symm.trans hx;subst e2;show q'
 .have e:i=xs.length:=∅;subst e;show .inl #[#[xs,q,aq _],λr hr=>hd ys H p r _ #[hr,Y]]
end
end L2
namespace ZP
def rm:entryFor table "enumerate.__getattribute__" = !Builtin.«object.__getattribute__»:=entryFor_alias (id' := "object.__getattribute__") (by kernel_rfl) () () (by kernel_rfl)
def sR:typeLookup (.type "enumerate") "__getattr__" = pure none:=by rw[typeLookup_type,builtinLookup_eq_fast];kernel_rfl
def sS:typeLookup (.type "enumerate") "keys" = pure none:=by rw[typeLookup_type,builtinLookup_eq_fast];kernel_rfl
def rq(x:ae)(fs:Array J)(u:Tok):
  Meets (Builtin.«object.__getattribute__» #[[¬x,.str "keys" u],[]]) (λA R s=>s.heap.get? x=!{ cls:=.type "enumerate", dict:=none,data:=.fields fs,slots:=#[] }/\raisesAttr (¬x) "keys" A R s):=by
 show Meets.of_wp λprog w A R s q=>?_;let#[h0,g0,d0,t0,o0]:=s;let#[hx,q]:=q;let hT:(#[h0,g0,d0,t0,o0]:aw).TypeIs (¬x) "enumerate" := #[_,hx,Y];let hmiss:=sS;unfold Builtin.«object.__getattribute__»
 repeat (any_goals (first|assumption|wp_step))
 show wpAny_raiseAttrError q.1 q.2 (attrMsg_fits ()^by size_fits)
def sU{x:ae}{fs:Array J}{Q:Option J->aw->O}(hx:s.heap.get? x=!{ cls:=.type "enumerate", dict:=none,data:=.fields fs,slots:=#[] })(hA:A.handled=bc)
  (q:∀h' tk,(∀b o,s.heap.get? b=!o->h'.get? b=!o)->Q bc { s with heap:=h',toks:=tk }):wpAny (model prog w) A (getAttr? (¬x) "keys") Q E s:=by
 let#[h0,g0,d0,t0,o0]:=s;let hT:∀tk',(#[h0,g0,d0,tk',o0]:aw).TypeIs (¬x) "enumerate" := λz=>#[_,hx,Y];let e1:=sub_AttributeError;let e2:=F.slot_enumerate_getattribute.lookup;let e3:=F.slot_enumerate_getattribute.bind^¬x;let e4:=sR;unfold getAttr? getAttrBy? getAttrBy
 repeat (any_goals (first|assumption|show hT _|((with_reducible show wpAny _ _ (call (Value.builtin "enumerate.__getattribute__") _ _) _ _ _);show call_meets F.slot_enumerate_getattribute (hT _) rm (F.args_enumerate_getattribute_2 _ _) (rq x fs _) #[hx,hA,λh' tk' e he=>?_])|wp_step))
 let#[t',u',PX]:=he.there;change wpAny _ _ (getattributeRaised _ _ _ _ _ _ _) _ _ _;unfold getattributeRaised
 repeat (any_goals (first|assumption|wp_step))
 show q _ _ he.keeps
abbrev wF(h:cv)(e it:ae)(i:Z)(T:ae)(b:ci)(x:J):O :=
 h.get? e=!{ cls:=.type "enumerate", dict:=none,data:=.fields #v[rawInt T,.bool b,¬it,rawInt i,.none,x],slots:=#[] }
def HR{e T:ae}{b:ci}{oT:du}{XV:Array J}{x Tm:J}{Q:Option J->aw->O}
  (he:wF ap e it i T b Tm)(hT:s.heap.get? T=!oT)(Wp:s.heap.IsListIter it l i)(hl:s.heap.IsList l XV)(hx:XV[i]?=!x)(UV:e≠it)(hTe:T≠e)(hTi:T≠it)
  (q:∀h' b',wF h' e it ((i:Z)+1) T b' Tm->h'.IsListIter it l (i+1)->h'.get? M=!{ cls:=.type "tuple", data:=.seq #v[.int i s.toks,x] } ->
   (∀c o,c≠e->c≠it->s.heap.get? c=!o->h'.get? c=!o)->Q (!.ref M) { s with heap:=h',toks:=s.toks+1 }):wpAny (model prog w) A (pyNext^¬e) Q E s:=by
 let ty:s.TypeIs (¬e) "enumerate" := #[_,he,Y];unfold pyNext;show av^wpAny_attempt^wpAny_callSpecial?_slot (name:=Str.ofString "__next__") ty F.slot_enumerate_next^wpAny_call_entry F.slot_enumerate_next ty F.entry_enumerate_next ?_^F.args_enumerate_next_1 _;let#[h0,g0,d0,t0,o0]:=s;change wpAny _ _ (field (¬e) 2 >>= _) _ _ _;show av^wpAny_field (i:=2) he Y rfl ?_;show av (wpAny_nextOf_list_item Wp hl hx λh1 it1 My=>?_);let My:Heap.SameBut it h0 h1:=My;let e1:wF h1 e it i T b Tm:=(My.2 e UV).trans he;show av (m:=field (¬e) 3)^wpAny_field (i:=3) e1 Y rfl ?_;show av (m:=field (¬e) 4)^wpAny_field (i:=4) e1 Y rfl ?_;show av (m:=mkInt i)^wpAny_mkInt ?_;show av (m:=setField (¬e) 3^rawInt ((i:Z)+1)) (wpAny_setField_rec e1 (by simp) λh2 e2 sb2=>?_);let sb2:Heap.SameBut e h1 h2:=sb2;let e2:wF h2 e it ((i:Z)+1) T b Tm:=e2;show av (m:=setField (¬e) 4 .none) (wpAny_setField_rec e2 (by simp) λh3 e3 sb3=>?_);let sb3:Heap.SameBut e h2 h3:=sb3;let e3:wF h3 e it ((i:Z)+1) T b Tm:=e3;show av (m:=newTuple [.int i t0,x])^wpAny_newTuple ?_;let sz:h3.objs.size=h0.objs.size:=by rw[sb3.1,sb2.1,My.1]
 let k3:∀c o,c≠e->c≠it->h0.get? c=!o->h3.get? c=!o:=λc o n1 n2 r=>sb3.extBut c o n1^sb2.extBut c o n1^My.extBut c o n2 r;let i3:h3.IsListIter it l (i+1):=(it1.extBut sb2.extBut^aM UV).extBut sb3.extBut^aM UV;let e4:wF (h3.push { cls:=.type "tuple", data:=.seq #v[.int i t0,x] }) e it ((i:Z)+1) T b Tm:=eT _ e3;let T4:(h3.push { cls:=.type "tuple", data:=.seq #v[.int i t0,x] }).get? T=!oT:=eT _^k3 T oT hTe hTi hT;let p4:(h3.push { cls:=.type "tuple", data:=.seq #v[.int i t0,x] }).get? h0.objs.size=!{ cls:=.type "tuple", data:=.seq #v[.int i t0,x] }:=by rw[<- sz];show jH _ rfl
 let i4:(h3.push { cls:=.type "tuple", data:=.seq #v[.int i t0,x] }).IsListIter it l (i+1):=let⟨o,r1,r2⟩:=i3;#[o,eT _ r1,r2];let k4:∀c o,c≠e->c≠it->h0.get? c=!o->(h3.push { cls:=.type "tuple", data:=.seq #v[.int i t0,x] }).get? c=!o:=λc o n1 n2 r=>eT _^k3 c o n1 n2 r;rw[show(Value.ref h3.objs.size)=.ref h0.objs.size by rw[sz]];let ST:e<h0.objs.size:=aN he;generalize h3.push { cls:=.type "tuple", data:=.seq #v[.int i t0,x] }=h4 at *;show av (m:=Builtin.SmallTypes.ownedTupleIsFree^¬e) ?_;unfold Builtin.SmallTypes.ownedTupleIsFree;show av^wpAny_field (i:=0) e4 Y rfl ?_;change wpAny _ _ (loadIfAlive ((T:Z).toNat) >>= _) _ _ _;rw[iX];show av^alive T4 ?_;change wpAny _ _ (field (¬e) 1 >>= _) _ _ _;show av^wpAny_field (i:=1) e4 Y rfl ?_;cases b;show av (m:=setField (¬e) 1^.bool am) (wpAny_setField_rec e4 (by simp) λh5 e5 sb5=>?_);let sb5:Heap.SameBut e h4 h5:=sb5;show aW^aW #[_,Y,aW ?_];show q h5 am e5 (i4.extBut sb5.extBut^aM UV) (sb5.extBut _ _ (jQ ST) p4) λc o n1 n2 r=>sb5.extBut c o n1^k4 c o n1 n2 r;show aW^aW #[_,Y,aW ?_];show q h4 am e4 i4 p4 k4
end ZP
def F.nV:PySem.entryFor PySem.table "dict.update.loop" = !PySem.Builtin.«dict.update.loop»:=PySem.entryFor_of_tree (by kernel_rfl)
def F.g9:PySem.plainId "dict.update.loop" = true:=()
namespace L2
noncomputable def fY(ks:B->Key)(vs:B->V):B->List (Key×V)
 | 0=>[]
 | i+1=>putK (fY ks vs i) (ks i)^vs i
theorem iu(ks:B->Key)(vs:B->V):∀i,(fY ks vs i).length<=i
 | 0=>aq _
 | i+1=>by let h1:=iz (fY ks vs i) (ks i)^vs i;let h2:=iu ks vs i;change(putK (fY ks vs i) (ks i)^vs i).length<=i+1;lia
structure Ke (prog:Program) (w:World) (z d:Addr) (tn:String) (fp:List Addr) (n:Nat) (ks:Nat->Key) (vs:Nat->V) (St:Nat->Heap->Prop):Prop where
 ty:∀i(s:Shared),St i s.heap->s.TypeIs (¬z) tn
 nd:(Value.type tn != Value.type "dict")=true
 self:∀(A:Around)(s:Shared)(Q:Value->Shared->Prop)(E:Value->Shared->Prop),St 0 s.heap->Q (¬z) s->wpAny (model prog w) A (pyIter^¬z) Q E s
 nk:∀(A:Around)i(s:Shared)(Q:Option Value->Shared->Prop)(E:Value->Shared->Prop),A.handled=none->St i s.heap->(∀h' tk,(∀b o,s.heap.get? b=!o->h'.get? b=!o)->Q none { s with heap:=h',toks:=tk })->wpAny (model prog w) A (getAttr? (¬z) "keys") Q E s
 frame:∀i h h',St i h->(∀b o,b≠d->h.get? b=!o->h'.get? b=!o)->St i h'
 item:∀(A:Around)i(s:Shared)(Q:Option Value->Shared->Prop)(E:Value->Shared->Prop),A.handled=none->i<n->St i s.heap ->
  (∀h' tk u v,RelV (kV^ks i) u->RelV (vs i) v->(s.heap.objs.size≠d->St (i+1) h')->h'.get? s.heap.objs.size=!{ cls:=.type "tuple", data:=.seq #v[u,v] }->(∀b o,b∉fp->s.heap.get? b=!o->h'.get? b=!o) ->
   Q (!.ref s.heap.objs.size) { s with heap:=h',toks:=tk })->wpAny (model prog w) A (pyNext^¬z) Q E s
 done:∀(A:Around)(s:Shared)(Q:Option Value->Shared->Prop)(E:Value->Shared->Prop),A.handled=none->St n s.heap->(∀h',(∀b o,b∉fp->s.heap.get? b=!o->h'.get? b=!o)->Q none { s with heap:=h' })->wpAny (model prog w) A (pyNext^¬z) Q E s
def U3(prog:de)(w:cw)(A:Around)(s:aw)(d:ae)(S:cv->O)(h:cv)(t:B)(T:ae):O :=
 ∃u v o c,h.get? T=!o/\o.cls=.type "tuple" /\ o.data=.seq #v[u,v] c/\∀(Q:Unit->aw->O)(E:J->aw->O),(∀h2 t2,S h2->Q Unit.unit { s with heap:=h2,toks:=t2 })->wpAny (model prog w) A (dictSet d u v) Q E { s with heap:=h,toks:=t }
structure Mz (prog:Program) (w:World) (A:Around) (s:Shared) (z d:Addr) (n:Nat) (St:Nat->Heap->Prop):Prop where
 item:∀i h t (Q:Option Value->Shared->Prop) (E:Value->Shared->Prop),i<n->St i h->(∀h' t' T,U3 prog w A s d (St (i+1)) h' t' T->Q (!.ref T) { s with heap:=h',toks:=t' })->wpAny (model prog w) A (pyNext^¬z) Q E { s with heap:=h,toks:=t }
 done:∀h t (Q:Option Value->Shared->Prop) (E:Value->Shared->Prop),St n h->(∀h',St (n+1) h'->Q none { s with heap:=h',toks:=t })->wpAny (model prog w) A (pyNext^¬z) Q E { s with heap:=h,toks:=t }
theorem Mz.loop{z:ae}{St:B->cv->O}(X2:Mz prog w A.in1 s z d n St)(hR:∀h t,St (n+1) h->R (.ok^.ret .none) { s with heap:=h,toks:=t }):
  ∀(k i:B)(h:cv)(t:B)(c:Tok),n-i=k->i<=n->St i h->codeAny (model prog w) A (.builtin "dict.update.loop" #[[¬d,¬z,.int i c,.none],[]]) R { s with heap:=h,toks:=t }:=by
 intro k;induction k with
 | zero =>
  intro i h t c hk hi st;let e:i=n:=∅;subst e;show codeAny_builtin F.nV ?_;rw[kQ F.g9 _];show av (X2.done h t _ _ st λh' Ts=>?_);change wpAny _ A.in1 (Builtin.Dict.addKeywords d [] >>= _) _ _ _;show av^aW^aW^hR h' t Ts
 | succ k ih =>
  intro i h t c hk hi st;let hlt:i<n:=∅;show codeAny_builtin F.nV ?_;rw[kQ F.g9 _];show av (X2.item i h t _ _ hlt st λh1 t1 T y=>?_);let#[u,v,o,c,ht,hc,hd,p]:=y;change wpAny _ A.in1 (holding [Value.ref T] _ >>= _) _ _ _;show av^wpAny_holding^av^wpAny_tryCatch ?_;unfold Builtin.Dict.pairItems;show av^wpAny_typeOf #[_,ht,hc] ?_;change wpAny _ _ (seqItems? (¬T) >>= _) _ _ _;show av^wpAny_seqItems ht hd^aW ?_;change wpAny _ _ (holding [u,v]^dictSet d u v) _ _ _;show wpAny_holding (p _ _ λh2 t2 Kj=>aW #[plainId_quiet F.g9 _,ih (i+1) h2 t2 0 ∅ hlt Kj])
theorem Mz.call{Q:J->aw->O}{x:ae}{ox:du}{tn:String}{St:ae->B->cv->O}(hx:s.heap.get? x=!ox)(hc:ox.cls=.type tn)(nd:(Value.type tn != Value.type "dict")=am)
  (nk:∀h(Q:Option J->aw->O)(E:J->aw->O),(∀b o,s.heap.get? b=!o->h.get? b=!o)->(∀h' tk,(∀b o,h.get? b=!o->h'.get? b=!o)->Q bc { s with heap:=h',toks:=tk })->wpAny (model prog w) A.in1.in1 (getAttr? (¬x) "keys") Q E { s with heap:=h })
  (start:∀h t (Q:J->aw->O) (E:J->aw->O),(∀b o,(s.heap.push { cls:=.type "dict", data:=.dict #[] }).get? b=!o->h.get? b=!o)->(∀z h',St z 0 h'->Q (¬z) { s with heap:=h',toks:=t })->wpAny (model prog w) A.in1.in1 (pyIter^¬x) Q E { s with heap:=h,toks:=t })
  (feed:∀z,Mz prog w A.in1.in1 s z M n^St z)(q:∀z h t,St z (n+1) h->Q (¬M) { s with heap:=h,toks:=t }):
  wpAny (model prog w) A (call (.type "dict") [¬x]) Q E s:=by show callType_codes (Q₁:=λx s1=>x=¬M/\s1={ s with heap:=s.heap.push { cls:=.type "dict", data:=.dict #[] } }) F.kt_called_dict (F.kt_typeCall_dict_1 _) F.entry_dict_init (kt_code_dict_new _ #[Y,Y]) ?_;rintro _ _ ⟨rfl,rfl⟩;let dd:(s.heap.push { cls:=.type "dict", data:=.dict #[] }).DictOf (bL prog w) M []:=Heap.DictOf.new ap;show#[dd.typeIs,F.args_dict_init_2 _ _,?_];unfold Builtin.«dict.__init__»;show av ?_;unfold Builtin.Dict.selfAndRest;show av^wpAny_notOrdered_dict dd.typeIs ?_;show aW (a:=(M,[Value.ref x])) ?_;change wpAny _ _ (Builtin.Dict.updateFrom "dict.__init__" M (¬x) [] .none) _ _ _;unfold Builtin.Dict.updateFrom;show av^wpAny_typeOf (T:=tn) #[_,eT _ hx,hc] ?_;rw[if_pos nd];show av (nk _ _ _ (λb o e=>eT _ e) λh1 t1 k1=>?_);change wpAny _ _ (rule _ >>= _) _ _ _;show av^wpAny_rule^av (start _ _ _ _ k1 λz h' st=>?_);show aW #[plainId_quiet F.g9 _,(feed z).loop (λh t Ts=>#[Y,q z h t Ts]) _ 0 h' t1 0 Y (aQ _) st]
theorem Ke.call{Q:J->aw->O}{z:ae}{tn:String}{fp:List ae}{ks:B->Key}{vs:B->V}{St:B->cv->O}(X2:Ke prog w z M tn fp n ks vs St)(hfp:∀b∈fp,b<M)(hh:A.in1.in1.handled=bc)(hn:n<=sizeLine)(st:St 0 ap)
  (q:∀h' tk rs,(∀b o,b∉fp->s.heap.get? b=!o->h'.get? b=!o)->h'.DictOf (bL prog w) M rs->KV (fY ks vs n) rs->Q (¬M) { s with heap:=h',toks:=tk }):
  wpAny (model prog w) A (call (.type "dict") [¬z]) Q E s:=by
 let hd:M∉fp:=λh=>fu _^hfp _ h;let hsz:∀b o,s.heap.get? b=!o->b≠s.heap.objs.size:=λb o e=>aU^aN e;let dk:∀{h h':cv}{rs:List (Key×J)},h.DictOf (bL prog w) M rs->(∀b o,b∉fp->h.get? b=!o->h'.get? b=!o)->h'.DictOf (bL prog w) M rs:=λ⟨o,es,ep,x,r⟩ k=>#[o,es,ep,k _ o hd x,r];let#[ox,hx,hc]:=X2.ty 0 s st;show Mz.call (n:=n) (St:=λz' i h=>z'=z/\(i<=n->St i h)/\(∀b o,b∉fp->s.heap.get? b=!o->h.get? b=!o)/\∃rs,h.DictOf (bL prog w) M rs/\KV (fY ks vs^min i n) rs) hx hc X2.nd (λh Q E k g=>X2.nk _ 0 _ _ _ hh (X2.frame _ _ _ st λb o j e=>k b o e) g) (λh t Q E k g=>?_) (λz'=>#[λi h t Q E hi y g=>?_,λh t Q E y g=>?_]) λz' h t y=>?_;let st1:St 0 h:=X2.frame _ _ _ st λb o j e=>k _ _^eT _ e;show X2.self _ { s with heap:=h,toks:=t } _ _ st1 (g z h #[Y,λj=>st1,λb o j e=>k _ _^eT _ e,[],dk (Heap.DictOf.new ap) λb o j=>k b o,by rw[Nat.zero_min];show .nil])
 .let#[Y,y1,kp,rs,dd,WP]:=y;rw[Nat.min_eq_left^f6 hi] at WP;show X2.item _ i { s with heap:=h,toks:=t } _ _ hh hi (y1^f6 hi) λh1 t1 u v ru rv st1 ht k1=>g h1 t1 _ #[u,v,_,_,ht,Y,Y,λQ E g=>?_];let hT:dE≠s.heap.objs.size:=by let#[o,_,_,x,_]:=dd;show aM^aU^aN x
  show wpAny_dictSet_pairs (hsz:=by rw[<- WP.length];show aZ (iu ks vs i)^aZ (f6 hi) hn) (qG ru) (dk dd k1) λh2 d2 sb=>g h2 _ #[Y,λj=>X2.frame _ _ _ (st1 hT) λb o b1 x=>sb.extBut b o b1 x,λb o b1 e=>sb.extBut b o (hsz b o e)^k1 b o b1^kp b o b1 e,_,d2,?_];rw[Nat.min_eq_left hi];show WP.put (ks i) rv
 .let#[Y,y1,kp,rs,dd,WP]:=y;show X2.done _ { s with heap:=h,toks:=t } _ _ hh (y1^aq _) λh' k'=>g h' #[Y,λz=>absurd z^Nat.not_succ_le_self n,λb o b1 e=>k' b o b1^kp b o b1 e,rs,dk dd k',by rw[rZ^b9 n];rwa [Nat.min_self] at WP]
 .let#[Y,_,kp,rs,dd,WP]:=y;rw[rZ^b9 n] at WP;show q h t rs kp dd WP
theorem BE{Q:J->aw->O}{XL:Array J}{D:B->cv->O}(pl:PlainL ap l XL)
  (nk:∀h(Q:Option J->aw->O)(E:J->aw->O),PlainL h l XL->(∀h' tk,(∀b o,h.get? b=!o->h'.get? b=!o)->Q bc { s with heap:=h',toks:=tk })->wpAny (model prog w) A.in1.in1 (getAttr? (¬l) "keys") Q E { s with heap:=h })
  (hh:A.in1.in1.handled=bc)(hsz:XL.size=n)(new:D 0 (s.heap.push { cls:=.type "dict", data:=.dict #[] }))
  (keep:∀i h h' it,D i h->it≠M->(∀o vs c,h.get? it=!o->o.data≠.seq vs c)->(∀b o,b≠it->h.get? b=!o->h'.get? b=!o)->D i h')
  (hp:∀i,i<n->∃(T:ae)(u v:J)(o:du)(c:B),XL[i]?=!.ref T/\s.heap.get? T=!o/\o.cls=.type "tuple" /\ o.data=.seq #v[u,v] c /\
   ∀h t (Q:Unit->aw->O) (E:J->aw->O),(∀b o,s.heap.get? b=!o->h.get? b=!o)->D i h->(∀h2 t2,D (i+1) h2->Heap.SameBut M h h2->Q Unit.unit { s with heap:=h2,toks:=t2 })->wpAny (model prog w) A.in1.in1 (dictSet M u v) Q E { s with heap:=h,toks:=t })
  (q:∀h' tk,(∀b o,s.heap.get? b=!o->h'.get? b=!o)->D n h'->Q (¬M) { s with heap:=h',toks:=tk }):
  wpAny (model prog w) A (call (.type "dict") [¬l]) Q E s:=by
 let sz:∀b o,s.heap.get? b=!o->b≠s.heap.objs.size:=λb o e=>aU^aN e;let itd:∀{h:cv}{z:ae}{i:B},h.IsListIter z l i->∀o vs n,h.get? z=!o->o.data≠.seq vs n:=λWp o vs n e z=>by let#[o',e',_,d']:=Wp;rw[e] at e';cases e';rw[d'] at z;cases z
 let lst:∀{h:cv},(∀b o,s.heap.get? b=!o->h.get? b=!o)->h.IsList l XL:=λk=>(pl.keeps k).isList;let pl0:=pl;let#[ox,c,hx,e1,_]:=pl0;show Mz.call (n:=n) (St:=λz i h=>z≠M/\(∀b o,s.heap.get? b=!o->b≠z/\h.get? b=!o)/\(i<=n->h.IsListIter z l i)/\D (min i n) h) hx e1 () (λh Q E k g=>nk h Q E (pl.keeps k) g) (λh t Q E k g=>?_) (λz=>#[λi h t Q E hi y g=>?_,λh t Q E y g=>?_]) λz h t y=>?_;let k0:∀b o,s.heap.get? b=!o->h.get? b=!o:=λb o e=>k _ _^eT _ e;let lt1:∀b o,h.get? b=!o->b≠h.objs.size:=λb o e=>aU^aN e;let hdi:dE≠s.heap.objs.size:=aM^lt1 _ _^k _ _^jH _ rfl;show wpAny_pyIter_list (s:={ s with heap:=h,toks:=t }) (lst k0)^g _ _ #[hdi,λb o e=>#[lt1 b o^k0 b o e,eT _^k0 b o e],λj=>#[_,jH _ rfl,Y,Y],?_];rw[Nat.zero_min];show keep _ _ _ dE new hdi (λo vs c e=>absurd Y^lt1 _ _^k _ _ e) λb o j e=>eT _^k _ _ e;let#[zd,kp,Wp,dd]:=y;let#[T,u,v,o,c,hT,h2,h3,h4,p]:=hp i hi;rw[Nat.min_eq_left^f6 hi] at dd;let Wp:=Wp^f6 hi;show wpAny_pyNext_list_item (s:={ s with heap:=h,toks:=t }) Wp (lst λb o e=>(kp b o e).2) hT λh1 akY My=>g h1 t T ?_;let k1:∀b o,s.heap.get? b=!o->h1.get? b=!o:=λb o e=>My.extBut b o (kp b o e).1 (kp b o e).2;show#[u,v,o,c,k1 _ _ h2,h3,h4,λQ E g=>p h1 t Q E k1 (keep _ _ _ z dd zd (itd Wp) λb o b1 e=>My.extBut b o b1 e) λh2 t2 d2 sb=>g h2 t2 #[zd,λb o e=>#[(kp b o e).1,sb.extBut b o (sz b o e)^k1 b o e],λj=>?_,?_]];let#[oi,Of,ri]:=akY;show#[oi,sb.extBut z oi zd Of,ri];rw[Nat.min_eq_left hi];show d2;let#[zd,kp,Wp,dd]:=y;let Wp:=Wp^aq _;show wpAny_pyNext_list_end (s:={ s with heap:=h,toks:=t }) hh Wp (lst λb o e=>(kp b o e).2) (wm ∅) λh' k'=>g h' #[zd,λb o e=>#[(kp b o e).1,k' b o (kp b o e).1 (kp b o e).2],λz=>absurd z^Nat.not_succ_le_self n,?_];rw[Nat.min_self] at dd;rw[rZ^b9 n];show keep _ _ _ z dd zd (itd Wp) λb o b1 e=>k' b o b1 e;let#[zd,kp,Wp,dd]:=y;rw[rZ^b9 n] at dd;show q h t (λb o e=>(kp b o e).2) dd
end L2
namespace ZP
def MA{e T:ae}{b:ci}{XV:Array J}{Tm:J}{Q:Option J->aw->O}(hh:A.handled=bc)
  (he:wF ap e it i T b Tm)(Wp:s.heap.IsListIter it l i)(hl:s.heap.IsList l XV)(hx:XV[i]?=bc)(q:∀h',Heap.ExtBut it ap h'->Q bc { s with heap:=h' }):wpAny (model prog w) A (pyNext^¬e) Q E s:=by let ty:s.TypeIs (¬e) "enumerate" := #[_,he,Y];unfold pyNext;show av^wpAny_attempt^wpAny_callSpecial?_slot (name:=Str.ofString "__next__") ty F.slot_enumerate_next^wpAny_call_entry F.slot_enumerate_next ty F.entry_enumerate_next ?_^F.args_enumerate_next_1 _;change wpAny _ _ (field (¬e) 2 >>= _) _ _ _;show av^wpAny_field (i:=2) he Y rfl ?_;show av (wpAny_nextOf_list_end hh Wp hl hx λh' y k hy=>?_);let#[o,ho,hc]:=hy;show av^wpAny_isInstance (T := "StopIteration") (b:=true) #[o,ho,hc] isSubtype_stop^aW ?_;show q _ k
end ZP
namespace L2
def HS{e:ae}{XL:List J}(rv:Vals xs XL)(Mo:e≠it)(EH:d≠e)(hdi:d≠it)(Hm:d≠l)(hle:l≠e)(hli:l≠it)(vs:B->V)(Oy:∀i x,xs[i]?=!x->vs i=x):
  Ke prog w e d "enumerate" [e,it] ab (λi=>.inl (i:Z)) vs (λi h=>((∃Tm,IsEnum h e it i Tm)\/0<i/\∃T b x o,ZP.wF h e it i T b x/\h.get? T=!o/\T≠d/\T≠e/\T≠it)/\h.IsListIter it l i/\h.IsList l XL.toArray) where
 ty:=λi s st=>by rcases st.1 with⟨Tm,h⟩|⟨_,T,b,x,o,h,_⟩;show#[_,h,Y];show#[_,h,Y]
 nd:=()
 self:=λA s Q E st q=>by rcases st.1 with⟨Tm,h⟩|⟨i0,_⟩;show wpAny_pyIter_enum h q;show absurd i0^fu _
 nk:=λA i s Q E hh st q=>by rcases st.1 with⟨Tm,h⟩|⟨_,T,b,x,o,h,_⟩;show ZP.sU h hh q;show ZP.sU h hh q
 frame:=λi h h' st k=>by show#[?_,?_,?_];rcases st.1 with⟨Tm,q⟩|⟨i0,T,b,x,o,q,hT,n1,n2,n3⟩;show .inl #[Tm,k e _ (aM EH) q];show .inr #[i0,T,b,x,o,k e _ (aM EH) q,k T _ n1 hT,n1,n2,n3];let#[o,q,r]:=st.2.1;show#[o,k it o (aM hdi) q,r];let#[o,q,r]:=st.2.2;show#[o,k l o (aM Hm) q,r]
 item:=λA i s Q E hh hi st q=>by
  let hx:xs[i]?=!(xs[i]'hi):=by simp
  let#[u,hu,ru]:=rv.get hx;let hvi:vs i=xs[i]:=Oy i _ hx;let hlk:∀h':cv,(∀b o,b≠e->b≠it->s.heap.get? b=!o->h'.get? b=!o)->h'.IsList l XL.toArray:=λh' k=>let⟨o,a,r⟩:=st.2.2;#[o,k l o hle hli a,r];let hsz:∀b,b∈[e,it]->b≠s.heap.objs.size:=by
   intro b hb;erw[aJ,eE,or_false] at hb;rcases hb with r|r<;>rw[r];rcases st.1 with⟨Tm,h⟩|⟨_,T,b,x,o,h,_⟩<;>show aU^aN h
   .let#[o,a,_]:=st.2.1;show aU^aN a
  let se:=hsz e (by simp);let si:=hsz it (by simp);rcases st.1 with⟨Tm,h⟩|⟨_,T,b,x,o,h,hT,n1,n2,n3⟩
  .show wpAny_pyNext_enum_item h st.2.1 st.2.2 (x:=u) (by simpa using hu) Mo λh' a1 a2 a3 z a5=>?_;show q h' _ _ u #[_,Y] (by rw[hvi];show ru) (λhd=>#[.inr #[Nat.succ_pos _,_,false,u,_,a1,a3,hd,aM se,aM si],a2,hlk h' a5]) a3 λb o hb k=>a5 b o (λr=>hb^by simp[r]) (λr=>hb^by simp[r]) k
  .show ZP.HR h hT st.2.1 st.2.2 (x:=u) (by simpa using hu) Mo n2 n3 λh' b' a1 a2 a3 a5=>?_;show q h' _ _ u #[_,Y] (by rw[hvi];show ru) (λz=>#[.inr #[Nat.succ_pos _,T,b',x,o,a1,a5 T o n2 n3 hT,n1,n2,n3],a2,hlk h' a5]) a3 λb o hb k=>a5 b o (λr=>hb^by simp[r]) (λr=>hb^by simp[r]) k
 done:=λA s Q E hh st q=>by
  let hl:XL.toArray[ab]?=none:=by erw[mS];show iY (by rw[rv.length];show aq _)
  rcases st.1 with⟨Tm,h⟩|⟨_,T,b,x,o,h,hT,n1,n2,n3⟩;show wpAny_pyNext_enum_end hh h st.2.1 st.2.2 hl λh' k=>q h' λb o hb r=>k b o (λy=>hb^by simp[y]) r;show ZP.MA hh h st.2.1 st.2.2 hl λh' k=>q h' λb o hb r=>k b o (λy=>hb^by simp[y]) r
section
def nW(xs:List V):List (Key×V):=fY (λi=>.inl (i:Z)) (λi=>xs.getD i .cH) ab
def abw(K:aB)(Q:VK):List V->Hp->Prop:=λvs H=>∃a xs,vs=[¬a]/\bJ K H a xs/\∀p,H p=bc->Q (¬p)^upd H p^.dK^nW xs
def vH(K:aB)(ta:TA):TE:=λU H Q=>ta U H^abw K Q
theorem wG{a:dr}{ta:TA}{p1 p2 p3 p4:Pos}(Mp:Gl X "dict")(hm1:X.mg "dict" = none)(T3:Gl X "enumerate")(KB:X.mg "enumerate" = none)(ha:PA X [a] ta)(hc:⇑(X.calm=true))
  (he:⇑(starEach [a] bi=(false,eval a bi)::starEach [] X.env))(WF:⇑((backTo p3^starEach [] bi).any (·.1)=false))
  (he1:⇑(starEach [Expr.Call (.Name "enumerate" p2) [a] [] p3] bi=[(false,eval (Expr.Call (.Name "enumerate" p2) [a] [] p3) bi)])):
  PE X (.Call (.Name "dict" p1) [.Call (.Name "enumerate" p2) [a] [] p3] [] p4)^vH dq ta:=by
 intro X1 s U H Q I h;show wpAny_Call_Name_kw^jL I Mp hm1 BT.y9 ?_;show jS ?_ he1 Y;rw[he1];change wpAny _ _ (spliced [(false,eval (Expr.Call (.Name "enumerate" p2) [a] [] p3) bi)]) _ _ s;show mQ ?_;show wpAny_Call_Name_kw^jL I T3 KB BT.wD ?_;show jS (cM (ha p3 X1 s U H _ I h) λus s1 zq=>?_) he WF;let#[vs,H1,I1,rv,q1]:=zq;let#[pa,xs,Y,hx,q]:=q1;let#[u,Y,r1]:=vals1 rv;cases r1;let#[XL,v1,pl,z1]:=I1.list hx;let hpa:pa<s1.heap.objs.size:=by let#[o,ho,_]:=pl.isList;show aN ho
 let hA:X.A.in1.in1.handled=none:=I1.ok.hd hc;show call_enumerate_list pl.isList λh' hE hI hsz hk=>oG ?_;let I2:Inv X X1 U H1 { s1 with heap:=h',toks:=s1.toks }:=I1.kept hk;let fr:∀b,bv<=b->lJ X X1 H1 b:=λb hb=>I1.sy hb^I1.hok.fresh hb;let zl:bv+2<=h'.objs.size:=by have:=hsz;lia
 let aqs:@LT.lt B _ pa s1.heap.objs.size:=hpa;let n1:@Ne B dA (bv+1):=∅;let n2:@Ne B dA s1.heap.objs.size:=∅;let n3:@Ne B dA pa:=∅;let n4:@Ne B pa (bv+1):=∅;let n5:@Ne B pa s1.heap.objs.size:=∅;let big:@LT.lt B _ sysModules s1.heap.objs.size:=I1.big;let n6:@Ne B dA sysModules:=∅;show Ke.call (s:={ s1 with heap:=h',toks:=s1.toks }) (HS (l:=pa) (d:=dA) v1 (Nat.succ_ne_self _) n1 n2 n3 n4 n5 (λi=>xs.getD i .cH) (λi x e=>by simp[List.getD,e])) ?_ hA z1 #[.inl #[_,hE],hI,let⟨o,e1,r⟩:=pl.isList;#[o,hk _ _ e1,r]] λh2 tk rs k2 dd WP=>?_
 .intro b hb;erw[aJ,eE,or_false] at hb;change b<dA;rcases hb with r|r<;>rw[r];show(show @LT.lt B _ (bv+1) dA by lia);show(show @LT.lt B _ bv dA by lia)
 let fp2:∀b∈[bv+1,bv],lJ X X1 H1 b:=by intro b hb;erw[aJ,eE,or_false] at hb;rcases hb with r|r<;>rw[r];show fr _^b9 _;show fr _^aq _
 let I3:Inv X X1 U H1 { s1 with heap:=h2,toks:=tk }:=Inv.sO (s:={ s1 with heap:=h',toks:=s1.toks }) (fp:=[bv+1,bv]) I2 (λb o hb e=>k2 b o hb e) fp2;let fd:=fr dA ∅;let I4:=I3.Bw fd (o:=.dK^nW xs) #[aZ (iu _ _ _) z1,beq_eq_false_iff_ne.mpr n6,rs,WP,dd];show#[¬_,_,I4,Y,q _ fd.1]
variable {U:St}
def abx{ta:TA}(h:ta U H^abw K Q):vH K ta U H Q:=h
def aoq(hS:bJ K H a xs)(h:∀p H',gU H p (.dK^nW xs) H'->Q (¬p) H'):abw K Q [¬a] H:=#[a,xs,Y,hS,λp hp=>h p _ #[hp,Y]]
theorem zu(ks:B->Key)(vs:B->V)(k:Key):∀n,(∀i,i<n->ks i≠k)->dI (fY ks vs n) k=bc
 | 0,_=>rfl
 | n+1,h=>by change dI (putK (fY ks vs n) (ks n)^vs n) k=bc;rw[lU,if_neg (λe=>h n (f9 _) e.symm)];show zu ks vs k n λi hi=>h i^jl hi
theorem BF(ks:B->Key)(vs:B->V)(i:B):∀n,i<n->(∀j,i<j->j<n->ks j≠ks i)->dI (fY ks vs n)^ks i=!(vs i)
 | 0,h,_=>absurd h^fz _
 | n+1,h,hu=>by change dI (putK (fY ks vs n) (ks n)^vs n)^ks i=_;rw[lU];by_cases e:i=n;subst e;rw[if_pos Y];rw[if_neg (λr=>hu n ∅ (f9 _) r.symm)];show BF ks vs i n ∅ λj h1 h2=>hu j h1 ∅
theorem PY{x:V}(h:xs[i]?=!x):dI (nW xs)^.inl (i:Z)=!x:=by
 let hi:i<xs.length:=(fK h).1;have:=BF (λi=>.inl (i:Z)) (λi=>xs.getD i .cH) i ab hi λj h1 z e=>by have:=Sum.inl.inj e;lia
 unfold nW;rw[this];simp[List.getD,h]
theorem HU{k:Z}(h:k<0\/(ab:Z)<=k):dI (nW xs)^.inl k=none:=by show zu _ _ _ _ λi hi e=>?_;have:=Sum.inl.inj e;lia
end
section
variable {nx bk ct:St->Hp->O}{U:St}{P:ci->Hp->O}{ty:TE}{t u:TS}
def aor{ti:TIp}{x:V}(e:U[i]?=!!x)(h:te U H λy H1=>ti x y H1 λz H2=>gc i z U H2 nx):aaH i te ti #[nx,rt,bk,ct] U H:=#[x,e,h]
def aos{f:Z->Z->Z}{i j:Z}(h:Q (.int^f i j) H):ipI f (.int i) (.int j) H Q:=#[i,j,Y,Y,h]
end
def HV{ds:List J}{T:ae}{o:du}{XV:Array J}(l:K.lookup T=!o)(hs:o.data=.seq XV n)(hd:fd.defaults=¬T)
  (h:∀us:List J,(us++ds).length=cn->∃k:Option^Array J->Sem^List (ax×J),bindArgs fd #[us,[]]=seqItems? fd.defaults >>= k/\k^some XV=pure^ps.zip (us++ds)):Binds K fd ps ds:=λs us X hl =>
 let⟨_,h1,h2⟩:=h us hl
 .of_defaults hd (X _ _ l) hs h1 h2
def EI{T:ae}{o:du}{XV:Array J}(l:K.lookup T=!o)(hs:o.data=.seq XV n)(hd:fd.defaults=¬T)
  (h:∀us:List J,dC=cn->∃k:Option^Array J->Sem^List (ax×J),bindArgs fd #[us,[]]=seqItems? fd.defaults >>= k/\k^some XV=pure^ps.zip us):Binds K fd ps [] :=
 HV l hs hd λus hl=>by rw[ck] at hl ⊢;show h us hl
section
variable {nx bk ct:St->Hp->O}{U:St}{ta:TA}
end
end L2
namespace HT
end HT
namespace L2
variable {vs:List V}
section
variable {nx bk ct:St->Hp->O}{U:St}
end
section
variable {nx bk ct:St->Hp->O}{U:St}{t:TA}{fs Hn:List (ax×V)}{f:ax}{z:V}{E:XK}
def afu(K:aB)(f:ax)(Q:VK):VK:=λx H1=>∃a C dx fs v,x=¬a/\H1 a=!.ins C dx fs/\AL K C/\eX K C f/\fs.lookup f=!v/\Q v H1
def akZ(h:ta U H^afu K f Q):L3 K ta f U H Q:=h
def aot(h:H a=!.ins C dx fs)(c:AL K C)(n:eX K C f)(l:fs.lookup f=!v)(q:Q v H):afu K f Q (¬a) H:=#[a,C,dx,fs,v,Y,h,c,n,l,q]
def Ym(K:aB)(f:ax)(y:V)(U:St)(nx:St->Hp->O):VK:=λx H2=>∃a C dx fs,x=¬a/\H2 a=!.ins C dx fs/\AL K C/\eX K C f/\fs.length<1000/\nx U^upd H2 a^.ins C dx^fW f y fs
def ak0(h:tv U H λy H1=>ta U H1^Ym K f y U nx):aeB K ta tv f #[nx,rt,bk,ct] U H:=h
def ak1(h:H a=!.ins C dx fs)(c:AL K C)(n:eX K C f)(hl:fs.length<1000)(e:fW f y fs=Hn)(q:∀H',nU H a (.ins C dx Hn) H'->nx U H'):Ym K f y U nx (¬a) H:=#[a,C,dx,fs,Y,h,c,n,hl,by rw[e];show q _ rfl]
def PZ(C:ae)(f:ax)(a:ae)(U:St)(nx:St->Hp->O):VK:=λz H3=>∃dx' Hn,H3 a=!.ins C dx' Hn/\Hn.length<1000/\nx U^upd H3 a^.ins C dx'^fW f z Hn
def Yn(K:aB)(f:ax)(tv:TE)(rd:V->V->Hp->VK->O)(U:St)(nx:St->Hp->O):VK:=λx H1=>∃a C dx fs v,x=¬a/\H1 a=!.ins C dx fs/\AL K C/\eX K C f/\fs.lookup f=!v/\tv U H1 λy H2=>rd v y H2^PZ C f a U nx
def adI{rd:V->V->Hp->VK->O}(h:ta U H^Yn K f tv rd U nx):JR K ta tv rd f #[nx,rt,bk,ct] U H:=h
def ak2{rd:V->V->Hp->VK->O}(h:H a=!.ins C dx fs)(c:AL K C)(n:eX K C f)(l:fs.lookup f=!v)(k:tv U H λy H2=>rd v y H2^PZ C f a U nx):Yn K f tv rd U nx (¬a) H:=#[a,C,dx,fs,v,Y,h,c,n,l,k]
def ak3(h:H a=!.ins C dx fs)(hl:fs.length<1000)(e:fW f z fs=Hn)(q:∀H',nU H a (.ins C dx Hn) H'->nx U H'):PZ C f a U nx z H:=#[dx,fs,h,hl,by rw[e];show q _ rfl]
def ak4{i j:Z}(h:Q (.int (i+j)) H):aeC (.int i) (.int j) H Q:=#[i,j,Y,Y,h]
def aby{i j:Z}(h:Q (.int (i-j)) H):aeD (.int i) (.int j) H Q:=#[i,j,Y,Y,h]
def spM(sp:Sp)(E:XK)(Q:VK)(x:V):List V->Hp->Prop:=λvs H=>sp (x::(vs++[])) H Q E
def Yo(C:ae)(m:ax)(sp:Sp)(E:XK)(t:TA)(U:St)(Q:VK):VK:=λx H1=>∃a dx fs,x=¬a/\H1 a=!.ins C dx fs/\fs.lookup m=bc/\t U H1^spM sp E Q x
def aiQ(h:ta U H^Yo C m sp E t U Q):Bp C m sp [] E ta t U H Q:=h
def ak5(h:H a=!.ins C dx fs)(l:fs.lookup m=bc)(k:t U H^spM sp E Q^¬a):Yo C m sp E t U Q (¬a) H:=#[a,dx,fs,Y,h,l,k]
def aou{x:V}(h:sp (x::vs) H Q E):spM sp E Q x vs H:=by unfold spM;rw[ck];show h
def P0(C:ae)(sp:Sp)(E:XK)(Q:VK):List V->Hp->Prop:=λvs H1=>∀x dx,H1 x=bc->H1 dx=bc->dx≠x->sp (.ref x::(vs++[])) (upd (upd H1 dx^.own x) x^.ins C dx []) (λv H2=>v=.cH/\Q (¬x) H2) E
def aiR(h:t U H^P0 C sp E Q):XX C sp [] E t U H Q:=h
def abz(h:∀x dx H2,H x=bc->H dx=bc->dx≠x->H2=upd (upd H dx^.own x) x^.ins C dx []->sp (.ref x::vs) H2 (λv H3=>v=.cH/\Q (¬x) H3) E):P0 C sp E Q vs H:=λx dx h1 h2 h3=>by rw[ck];show h x dx _ h1 h2 h3 Y
def C6{a:dr}{ta:TA}{p1 p2 p3 p4:Pos}(e:dq=K)(Mp:Gl X "dict")(hm1:X.mg "dict" = none)(T3:Gl X "enumerate")(KB:X.mg "enumerate" = none)(ha:PA X [a] ta)(hc:⇑(X.calm=true))
  (he:⇑(starEach [a] bi=(false,eval a bi)::starEach [] X.env))(WF:⇑((backTo p3^starEach [] bi).any (·.1)=false))
  (he1:⇑(starEach [Expr.Call (.Name "enumerate" p2) [a] [] p3] bi=[(false,eval (Expr.Call (.Name "enumerate" p2) [a] [] p3) bi)])):
  PE X (.Call (.Name "dict" p1) [.Call (.Name "enumerate" p2) [a] [] p3] [] p4)^vH K ta:=e▸wG Mp hm1 T3 KB ha hc he WF he1
end
def U4(k:ax):List ax->Option B
 | []=>none
 | a::r=>if a=k then !0 else(U4 k r).map (· + 1)
def gm{k:ax}{ks:List ax}{o:Option B}(h:U4 k ks=o):(ks.zip vs).lookup k=o.bind λi=>vs[i]?:=by
 subst h;induction ks generalizing vs with
 | nil=>rfl
 | cons a r ih =>
  cases vs with
  | nil=>cases U4 k (a::r)<;>simp
  | cons v vs =>
   by_cases e:a=k;simp[U4,e];simp[U4,e,List.lookup,beq_false_of_ne^aM e,ih];cases U4 k r<;>simp
def jN{k:ax}{x:V}{ks:List ax}(h:U4 k ks=!i)(hi:i<=dv):fW k x^ks.zip vs=ks.zip (vs.take i++x::vs.drop (i+1)):=by
 induction ks generalizing vs i with
 | nil=>cases h
 | cons a r ih =>
  by_cases e:a=k;cases vs<;>simp_all [U4,fW]<;>simp[<- h]
  .erw[U4,e,if_false] at h;let#[j,hj,Y]:=cL.mp h;cases vs with
   | nil=>cases hi
   | cons v vs=>simp[fW,e,ih hj^Nat.le_of_succ_le_succ hi]
def Yp:List Str:=["code", "sides", "at", "marked", "word", "sent", "answer", "steps"]
def tw1(co:V):List (ax×V):=Yp.zip [co]
def tw2(co si:V):List (ax×V):=Yp.zip [co,si]
def tw3(co si pl:V):List (ax×V):=Yp.zip [co,si,pl]
def tw4(co si pl mk:V):List (ax×V):=Yp.zip [co,si,pl,mk]
def tw5(co si pl mk wd:V):List (ax×V):=Yp.zip [co,si,pl,mk,wd]
def tw6(co si pl mk wd se:V):List (ax×V):=Yp.zip [co,si,pl,mk,wd,se]
def tw7(co si pl mk wd se an:V):List (ax×V):=Yp.zip [co,si,pl,mk,wd,se,an]
def vI(co si pl mk wd se an st:V):List (ax×V):=Yp.zip [co,si,pl,mk,wd,se,an,st]
section
variable {co si pl mk wd se an st x:V}
def P1:fW "code" co []=tw1 co:=rfl
def U5:(tw1 co).length<1000:=dW Y
def P4:fW "sides" si^tw1 co=tw2 co si:=jN (i:=1) ()^dW Y
def U6:(tw2 co si).length<1000:=dW Y
def P5:fW "at" pl^tw2 co si=tw3 co si pl:=jN (i:=2) ()^dW Y
def U7:(tw3 co si pl).length<1000:=dW Y
def P6:fW "marked" mk^tw3 co si pl=tw4 co si pl mk:=jN (i:=3) ()^dW Y
def U8:(tw4 co si pl mk).length<1000:=dW Y
def P7:fW "word" wd^tw4 co si pl mk=tw5 co si pl mk wd:=jN (i:=4) ()^dW Y
def U9:(tw5 co si pl mk wd).length<1000:=dW Y
def P8:fW "sent" se^tw5 co si pl mk wd=tw6 co si pl mk wd se:=jN (i:=5) ()^dW Y
def Va:(tw6 co si pl mk wd se).length<1000:=dW Y
def P9:fW "answer" an^tw6 co si pl mk wd se=tw7 co si pl mk wd se an:=jN (i:=6) ()^dW Y
def Vb:(tw7 co si pl mk wd se an).length<1000:=dW Y
def Qa:fW "steps" st^tw7 co si pl mk wd se an=vI co si pl mk wd se an st:=jN (i:=7) ()^dW Y
def Vc:(vI co si pl mk wd se an st).length<1000:=dW Y
def Vd:(vI co si pl mk wd se an st).lookup ("code" : ax)=!co:=gm (o:=!0) ()
def Ve:(vI co si pl mk wd se an st).lookup ("sides" : ax)=!si:=gm (o:=!1) ()
def Vf:(vI co si pl mk wd se an st).lookup ("at" : ax)=!pl:=gm (o:=!2) ()
def Vg:fW "at" x^vI co si pl mk wd se an st=vI co si x mk wd se an st:=jN (i:=2) ()^dW Y
def Vh:(vI co si pl mk wd se an st).lookup ("marked" : ax)=!mk:=gm (o:=!3) ()
def Vi:fW "marked" x^vI co si pl mk wd se an st=vI co si pl x wd se an st:=jN (i:=3) ()^dW Y
def Vj:(vI co si pl mk wd se an st).lookup ("word" : ax)=!wd:=gm (o:=!4) ()
def Vk:fW "word" x^vI co si pl mk wd se an st=vI co si pl mk x se an st:=jN (i:=4) ()^dW Y
def Vl:(vI co si pl mk wd se an st).lookup ("sent" : ax)=!se:=gm (o:=!5) ()
def Vm:(vI co si pl mk wd se an st).lookup ("answer" : ax)=!an:=gm (o:=!6) ()
def Vn:fW "answer" x^vI co si pl mk wd se an st=vI co si pl mk wd se x st:=jN (i:=6) ()^dW Y
def Vo:(vI co si pl mk wd se an st).lookup ("steps" : ax)=!st:=gm (o:=!7) ()
def Vp:fW "steps" x^vI co si pl mk wd se an st=vI co si pl mk wd se an x:=jN (i:=7) ()^dW Y
def abA:(vI co si pl mk wd se an st).lookup ("box" : ax)=none:=gm (o:=none) ()
def abB:(vI co si pl mk wd se an st).lookup ("told" : ax)=none:=gm (o:=none) ()
def abC:(vI co si pl mk wd se an st).lookup ("step" : ax)=none:=gm (o:=none) ()
def abD:(vI co si pl mk wd se an st).lookup ("must_cry" : ax)=none:=gm (o:=none) ()
def abE:(vI co si pl mk wd se an st).lookup ("do_row" : ax)=none:=gm (o:=none) ()
def abF:(vI co si pl mk wd se an st).lookup ("go_on" : ax)=none:=gm (o:=none) ()
end
section
variable {U:St}{t:TA}
end
end L2
namespace ZP
def AV:entryFor table "list.__getattribute__" = !Builtin.«object.__getattribute__»:=entryFor_alias (id' := "object.__getattribute__") (by kernel_rfl) () () (by kernel_rfl)
def C7:typeLookup (.type "list") "__getattr__" = pure none:=by rw[typeLookup_type,builtinLookup_eq_fast];kernel_rfl
def C8:typeLookup (.type "list") "keys" = pure none:=by rw[typeLookup_type,builtinLookup_eq_fast];kernel_rfl
def AW(x:ae)(XL:Array J)(n:B)(sl:Array^Option J)(u:Tok):
  Meets (Builtin.«object.__getattribute__» #[[¬x,.str "keys" u],[]]) (λA R s=>s.heap.get? x=!{ cls:=.type "list", dict:=none,data:=.seq XL n,slots:=sl }/\raisesAttr (¬x) "keys" A R s):=by
 show Meets.of_wp λprog w A R s q=>?_;let#[h0,g0,d0,t0,o0]:=s;let#[hx,q]:=q;let hT:(#[h0,g0,d0,t0,o0]:aw).TypeIs (¬x) "list" := #[_,hx,Y];let hmiss:=C8;unfold Builtin.«object.__getattribute__»
 repeat (any_goals (first|assumption|wp_step))
 show wpAny_raiseAttrError q.1 q.2 (attrMsg_fits ()^by size_fits)
def Vq{x:ae}{XL:Array J}{Q:Option J->aw->O}(hx:s.heap.get? x=!{ cls:=.type "list", dict:=none,data:=.seq XL n,slots:=sl })(hA:A.handled=bc)
  (q:∀h' tk,(∀b o,s.heap.get? b=!o->h'.get? b=!o)->Q bc { s with heap:=h',toks:=tk }):wpAny (model prog w) A (getAttr? (¬x) "keys") Q E s:=by
 let#[h0,g0,d0,t0,o0]:=s;let hT:∀tk',(#[h0,g0,d0,tk',o0]:aw).TypeIs (¬x) "list" := λz=>#[_,hx,Y];let e1:=sub_AttributeError;let e2:=F.slot_list_getattribute.lookup;let e3:=F.slot_list_getattribute.bind^¬x;let e4:=C7;unfold getAttr? getAttrBy? getAttrBy
 repeat (any_goals (first|assumption|show hT _|((with_reducible show wpAny _ _ (call (Value.builtin "list.__getattribute__") _ _) _ _ _);show call_meets F.slot_list_getattribute (hT _) AV (F.args_list_getattribute_2 _ _) (AW x XL n sl _) #[hx,hA,λh' tk' e he=>?_])|wp_step))
 let#[t',u',PX]:=he.there;change wpAny _ _ (getattributeRaised _ _ _ _ _ _ _) _ _ _;unfold getattributeRaised
 repeat (any_goals (first|assumption|wp_step))
 show q _ _ he.keeps
end ZP
namespace L2
def EJ{XL:Array J}(hh:A.handled=bc)(h:cv)(Q:Option J->aw->O)(E:J->aw->O)(pl:PlainL h l XL)(g:∀h' tk,(∀b o,h.get? b=!o->h'.get? b=!o)->Q bc { s with heap:=h',toks:=tk }):wpAny (model prog w) A (getAttr? (¬l) "keys") Q E { s with heap:=h }:=by let#[#[cls,dc,da,sl],c,e0,e1,e2,e3]:=pl;simp only at e1 e2 e3;subst e1 e2 e3;show ZP.Vq e0 hh g
def HW{XL:Array J}{ks:B->Key}{vs:B->V}{Q:J->aw->O}(hx:PlainL ap l XL)(hh:A.in1.in1.handled=bc)(hn:n<=sizeLine)(hsz:XL.size=n)
  (hp:∀i,i<n->∃(T:ae)(u v:J)(o:du)(c:B),XL[i]?=!.ref T/\s.heap.get? T=!o/\o.cls=.type "tuple" /\ o.data=.seq #v[u,v] c/\RelV (kV^ks i) u/\RelV (vs i) v)
  (q:∀h' tk rs,(∀b o,s.heap.get? b=!o->h'.get? b=!o)->h'.DictOf (bL prog w) M rs->KV (fY ks vs n) rs->Q (¬M) { s with heap:=h',toks:=tk }):
  wpAny (model prog w) A (call (.type "dict") [¬l]) Q E s:=by show BE (D:=λi h=>∃rs,h.DictOf (bL prog w) M rs/\KV (fY ks vs i) rs) hx (EJ hh) hh hsz #[[],Heap.DictOf.new ap,.nil] (λi h h' it ⟨rs,⟨o,es,ep,x,r⟩,WP⟩ ne _ k=>#[rs,#[o,es,ep,k _ o (aM ne) x,r],WP]) (λi hi=>?_) λh t k ⟨rs,dd,WP⟩=>q h t rs k dd WP;let#[T,u,v,o,c,a1,a2,a3,a4,ru,rv]:=hp i hi;show#[T,u,v,o,c,a1,a2,a3,a4,λh t Q E z y g=>?_];let#[rs,dd,WP]:=y;show wpAny_dictSet_pairs (hsz:=by rw[<- WP.length];show aZ (iu ks vs i)^aZ (f6 hi) hn) (qG ru) dd λh2 d2 sb=>g h2 _ #[_,d2,WP.put (ks i) rv] sb
noncomputable def C9(ps:List (Key×V)):List (Key×V):=fY (λi=>(ps.getD i (.inl 0,.cH)).1) (λi=>(ps.getD i (.inl 0,.cH)).2) cn
def zw(H:Hp):List V->List (Key×V)->Prop:=Paired λu p=>∃t,u=¬t/\H t=!.tup [kV p.1,p.2]
def afv(K:aB):List V->Hp->VK->Prop:=λvs H Q=>∃a us ps,vs=[¬a]/\bJ K H a us/\zw H us ps/\∀p,H p=bc->Q (¬p)^upd H p^.dK^C9 ps
def MB:∀{us:List V}{ps:List (Key×V)},zw H us ps->dC=cn/\∀i,i<cn->∃t,us[i]?=!.ref t/\H t=!.tup [kV (ps.getD i (.inl 0,.cH)).1,(ps.getD i (.inl 0,.cH)).2]:=by
 intro us ps h;induction h with
 | nil=>show#[Y,λi h=>absurd h^fz _]
 | cons h t ih =>
  let#[e,k]:=ih;show#[by simp[e],λi hi=>?_];cases i with
  | zero =>
   let#[z,Y,hz]:=h;show#[z,Y,hz]
  | succ i=>show k i^Nat.lt_of_succ_lt_succ hi
theorem wH(hc:X.calm=am):fj X (.type "dict")^afv X.K:=by
 intro X1 s U H xs us Q I r h;let#[l,ul,ps,Y,hS,hP,q]:=h;let#[u,Y,r1]:=vals1 r;cases r1;let#[XL,rv,pl,hz]:=I.list hS;let#[e1,hk]:=MB hP;let hA:X.A.in1.in1.handled=none:=I.ok.hd hc;let big:@LT.lt B _ sysModules s.heap.objs.size:=I.big;let n6:@Ne B M sysModules:=∅;let hl:=rv.length;show HW (n:=cn) (ks:=λi=>(ps.getD i (.inl 0,.cH)).1) (vs:=λi=>(ps.getD i (.inl 0,.cH)).2) pl hA ∅ (by rw[bC];lia) (λi hi=>?_) λh' tk rs k' d' WP=>?_
 .let#[t,ht,htt]:=hk i hi;let#[w,hw,Pm]:=rv.get ht;cases Pm;let#[Q1,rv2,pt,_]:=I.tuple^eB.of htt;let#[o,ho,Gc,n,hd]:=pt;cases rv2 with
  | cons a1 b1 =>
   cases b1 with
   | cons a2 b2 =>
    cases b2;show#[t,_,_,o,n,by simpa using hw,ho,Gc,hd,a1,a2]
 .have I3:Inv X X1 U H { s with heap:=h',toks:=tk }:=I.kept k';let fd:lJ X X1 H s.heap.objs.size:=I.sy (aq _)^I.hok.fresh^aq _;let I4:=I3.Bw fd (o:=.dK^C9 ps) #[aZ (iu _ _ _) ∅,beq_eq_false_iff_ne.mpr n6,rs,WP,d'];show#[¬_,_,I4,Y,q _ fd.1]
def Yq{us:List V}{ps:List (Key×V)}(hS:bJ K H a us)(hP:zw H us ps)(h:∀p H',gU H p (.dK^C9 ps) H'->Q (¬p) H'):afv K [¬a] H Q:=#[a,us,ps,Y,hS,hP,λp hp=>h p _ #[hp,Y]]
def aov{x:Z}(hd:H a=!.dK kvs)(h:Q (.bl (dI kvs^.inl x).isSome) H):rDI (.int x) (¬a) H Q:=#[a,_,Y,.inl #[kvs,.inl x,.inl hd,Y,Y],h]
theorem oZ(f:B->Z):∀n,argBest (λi j=>decide (f i>f j)) n<=n/\∀i,i<=n->f i<=f (argBest (λi j=>decide (f i>f j)) n)
 | 0=>#[aq _,λi h=>by rw[Nat.le_zero.mp h];show Int.le_refl _]
 | n+1=>by
  let#[h1,h2]:=oZ f n;by_cases h:f (n+1)>f^argBest (λi j=>decide (f i>f j)) n
  .have e:argBest (λi j=>decide (f i>f j)) (n+1)=n+1:=by erw[argBest];rw[if_pos^decide_eq_true h]
   rw[e];show#[aq _,λi hi=>?_];rcases bR i (n+1) with hl|hl
   .have:=h2 i ∅;lia
   .rw[show i=n+1 by lia];show Int.le_refl _
  .have e:argBest (λi j=>decide (f i>f j)) (n+1)=argBest (λi j=>decide (f i>f j)) n:=by erw[argBest];rw[if_neg^by simpa using h]
   rw[e];show#[∅,λi hi=>?_];rcases bR i (n+1) with hl|hl;show h2 i ∅
   .rw[show i=n+1 by lia];lia
theorem BG:∀{xs:List Z}{XL:List J},Vals (xs.map V.int) XL->∃ps:List (Z×Tok),XL=ps.map (λp=>.int p.1 p.2)/\ps.map (·.1)=xs
 | [],_,.nil=>#[[],Y,Y]
 | x::xs,_,.cons r t=>by let#[u,Y]:=r;let#[ps,Y,e]:=BG t;show#[(x,u)::ps,Y,by simp[e]]
section
variable {U:St}
def abG{x:V}(d e:PyData)(k:B)(hk:k<=64)(hx:RD K H x d)(hy:RD K H y e)(hs:Sh k d)(Ix:Sh k e)(h:Q (.bl^PyData.eqv d e) H):PK K x y H Q:=#[d,e,hx,hy,hs.shaped hk,Ix.shaped hk,h]
end
section
variable {U:St}
end
section
variable {U:St}
end
def Qc:List V->Hp->VK->Prop:=λxs H Q=>∃a kvs,xs=[¬a]/\H a=!.dK kvs/\∀l,H l=bc->Q (¬l)^upd H l^.lst (kvs.map λz=>kV z.1)
def MC{k:Key}{v:J}(h:(bL P w).is k v=am):RelV (kV k) v:=by
 rw[Hg] at h;cases k with
 | inl i=>show Value.isInt_shape h
 | inr x=>show Value.isStrOf_shape h
def MD{vs:List (Key×J)}(r:KV kvs vs):∀{us:List J},dC=dv->(∀(j:B)(v:J),us[j]?=!v->∃k x,vs[j]?=!(k,x)/\(bL P w).is k v=am)->Vals (kvs.map λz=>kV z.1) us:=by
 induction r with
 | nil =>
  intro us hl _;cases us with
  | nil=>show .nil
  | cons u us=>simp at hl
 | @cons p q kvs vs h _ ih =>
  intro us hl hk;cases us with
  | nil=>simp at hl
  | cons u us =>
   let#[k,x,e,hi]:=hk 0 u Y;let e':q=(k,x):=by simpa using e
   show .cons ?_ (ih (by simpa using hl) λj v hv=>by
    let#[k,x,e,hi]:=hk (j+1) v (by simpa using hv);show#[k,x,by simpa using e,hi])
   change RelV (kV p.1) u;rw[h.1,e'];show MC hi
theorem zx(hc:X.calm=am):fj X (.type "list") Qc:=by intro X1 s U H xs us Q I r h;let#[a,kvs,Y,ha,q]:=h;let#[u,Y,ru]:=vals1 r;cases ru;let#[z,hd,vs,WP,dd]:=X3 I.hok ha;let#[ep,da]:=dd.dictAt;let hl:=WP.length;show PySem.W.kdl_call (PySem.W.kdl_dict (knd:=bL bj cr) hd) (I.ok.hd hc) da ∅ λh' tk TW c' hk hS TB=>?_;show#[¬M,_,I.laid (t':=tk) hk (aq _) (o:=.lst (kvs.map λz=>kV z.1)) #[by rw[au];show z,TW.toList,c',?_,?_],Y,q _^I.hok.fresh^aq _];show MD WP (by rw[d8];show TB.1) λj v e=>TB.2 j v (by rw[<- gR];show e);rw[hS,Array.toArray_toList]
def EK(K:aB)(a:ae)(n:B):It :=
 #[λi H=>i<n/\∃xs x,eB K H a xs/\ab=n/\xs[n-1-i]?=!x,λi H x H'=>H'=H/\∀xs,eB K H a xs->xs[n-1-i]?=!x,λi H=>i=n/\∃xs,eB K H a xs/\ab=n]
theorem ME(a it:ae)(n:B):Turn P w K tg (EK K a n) [it] it (λi h=>RV.vD h it a ((n:Z)-1-(i:B))) where
 mem:=by simp
 obj:=λi h st b hb=>by
  let e:b=it:=by simpa using hb
  subst e;let#[o,e,c,d]:=st;show#[o,e,λv z=>by rw[d] at z;cases z]
 keep:=λi h h' st k=>st.at λo e=>k it (by simp) o e
 item:=by
  intro X hP hw hK hc i X1 s U H E I hf st hg;subst hP hw hK;let#[hi,xs,x,hq,hl,hx]:=hg;let#[XL,rv,p,hz]:=I.tuple hq;let#[u,hu,ru]:=rv.get hx;let#[f0,f1,f2,f3,f4,f5]:=hf it (by simp);let XB:=rv.length;let e:(n:Z)-1-(i:B)=((n-1-i:B):Z):=∅;rw[e] at st;let h62:XL.toArray.size<2 ^ 62:=by rw[bC];show mU (show XL.length<=sizeLine by lia) ()
  show RV.next_item st p (x:=u) (by simpa using hu) h62 λh' tk Ts sb=>?_;let I1:Inv X X1 U H { s with heap:=h',toks:=tk }:=I.turned (t':=tk) (λb o hb e=>(sb.2 b hb).trans e) f0 f1 f3 f4 f5;let e2:((n-1-i:B):Z)-1=(n:Z)-1-((i+1:B):Z):=∅;rw[e2] at Ts;let#[o,eo,c,d]:=id Ts;show#[u,Y,Ek (s:={ s with heap:=h',toks:=tk }) eo c d () #[x,H,I1,ru,#[Y,λys hy=>by rw[I.Bm hy hq];show hx],Ts,λb hb=>(hf b hb).1]]
 done:=by intro X hP hw hK hc i X1 s U H E I hf st hg;subst hP hw hK;let#[hi,xs,hq,hl]:=hg;let#[f0,f1,f2,f3,f4,f5]:=hf it (by simp);let e:(n:Z)-1-(i:B) = -1:=∅;rw[e] at st;show RV.next_end (I.ok.hd hc) st λh' eb=>#[Y,I.turned (t':=s.toks) (λb o hb e=>eb b o hb e) f0 f1 f3 f4 f5]
 self:=λq q q q q st h=>RV.vE st h
def Yr(K:aB)(tl:TE):TI:=λU H R=>tl U H λx H1=>∃a xs,x=¬a/\eB K H1 a xs/\R (EK K a ab) H1
theorem Kf{x:dr}{p2 p3:Pos}(hg:Gl X "reversed")(hm:X.mg "reversed" = none)(hx:PE X x tx)(hc:X.calm=am)(he:starEach [x] bi=[(false,eval x bi)]):
  PI X tg (.Call (.Name "reversed" p2) [x] [] p3)^Yr dq tx:=by
 intro X1 s U H R I h;show wpAny_Call_Name_kw^jL I hg hm BT.za ?_;show jS ?_ he Y;rw[he];change wpAny _ _ (spliced [(false,eval x bi)]) _ _ s;show mQ (cM (hx X1 s U H _ I h) λv s1 zq=>?_);let#[y,H1,I1,r1,q1]:=zq;show oG ?_;let#[a,xs,e,hq,q]:=q1;subst e;cases r1;let#[XL,rv,pl,hz]:=I1.tuple hq;let hl:=rv.length;let hsz:XL.toArray.size<=sizeLine:=by rw[bC];lia
 let h62:XL.toArray.size<2 ^ 62:=mU hsz ();show RV.sJ pl ∅ λtk0=>?_;let st:RV.vD (s1.heap.push^RV.rj a ((XL.toArray.size:Z)-1)) bv a ((ab:Z)-1-((0:B):Z)):=#[_,jH _ rfl,Y,by simp[RV.rj,hl]];show RV.vE (s:={ s1 with heap:=_,toks:=tk0 }) st ?_;show#[bv,[bv],_,_,H1,Y,I1.kept (t':=tk0) λb o e=>eT _ e,ME a _ ab,st,λb hb=>?_,q];let e:b=s1.heap.objs.size:=by simpa using hb
 subst e;show I1.sy (aq _)^I1.hok.fresh^aq _
section
variable {nx bk ct:St->Hp->O}{U:St}
def aiT(hd:H a=!.dK kvs)(h:∀l H',gU H l (.lst (kvs.map λz=>kV z.1)) H'->Q (¬l) H'):Qc [¬a] H Q:=#[a,kvs,Y,hd,λl hl=>h l _ #[hl,Y]]
def EL(K:aB)(R:It->Hp->O):V->Hp->Prop:=λx H1=>∃a xs,x=¬a/\eB K H1 a xs/\R (EK K a ab) H1
def ale{tl:TE}{R:It->Hp->O}(h:tl U H^EL K R):Yr K tl U H R:=h
def Dc{p:ae}{R:It->Hp->O}(hS:eB K H p xs)(h:R (EK K p ab) H):EL K R (¬p) H:=#[p,xs,Y,hS,h]
theorem Qd{tb:TS}(Pv:B->St->Hp->O)(h0:Pv 0 U H)(hl:∀i U H,i<=ab->Pv i U H->eB K H a xs)
  (hs:∀i x U H,xs.reverse[i]?=!x->Pv i U H->g x U H λU2 H2=>tb #[Pv (i+1),rt,nx,Pv (i+1)] U2 H2)(hd:∀U H,Pv ab U H->nx U H):Pp (EK K a ab) g tb nx rt U H:=by show#[λi m U H=>m=ab-i/\i<=ab/\Pv i U H,#[ab,by simp,aQ _,h0],?_];rintro i m U H ⟨rfl,hi,p⟩;let q:=hl i U H hi p;by_cases hlt:i<ab;let hx:xs[ab-1-i]?=!(xs[ab-1-i]'∅):=g7 ∅;show .inr #[#[hlt,xs,_,q,Y,hx],Pv (i+1),λU' H' p'=>#[ab-(i+1),∅,Y,hlt,p'],λx H' y=>?_];let#[e,y]:=y;subst e;show hs i x U H' ?_ p;rw[List.getElem?_reverse hlt];show y xs q;let e:i=xs.length:=∅;subst e;show .inl #[#[Y,xs,q,Y],hd U H p]
end
def Og(g:TG)(tb:TS)(rt:VK)(br nx:St->Hp->O):List V->St->Hp->O
 | []=>nx
 | x::xs=>λU H=>g x U H λU2 H2=>tb #[Og g tb rt br nx xs,rt,br,Og g tb rt br nx xs] U2 H2
section
variable {nx:St->Hp->O}{U:St}{tb:TS}
def Qe{x:V}(hx:xs[i]?=!x):Og g tb rt nx nx^xs.drop i=λU H=>g x U H λU2 H2=>tb #[Og g tb rt nx nx^xs.drop (i+1),rt,nx,Og g tb rt nx nx^xs.drop (i+1)] U2 H2:=by let#[hi,e]:=fK hx;rw[CF hi,e];rfl
def abH(C:∀H,eB K H a xs)(h:Og g tb rt nx nx xs U H):Pp (TV K a) g tb nx rt U H:=by show f_tup (xs:=xs) (λi U H=>Og g tb rt nx nx (xs.drop i) U H) h (λi U H z z=>C H) (λi x U H hx p=>?_) λU H p=>?_;rw[Qe hx] at p;show p;rw[List.drop_length] at p;show p
def Kg(C:∀H,eB K H a xs)(h:Og g tb rt nx nx xs.reverse U H):Pp (EK K a ab) g tb nx rt U H:=by show Qd (xs:=xs) (λi U H=>Og g tb rt nx nx (xs.reverse.drop i) U H) h (λi U H z z=>C H) (λi x U H hx p=>?_) λU H p=>?_;rw[Qe hx] at p;show p;rw[<- lE,List.drop_length] at p;show p
def Vr(hS:eB K H a [])(h:nx U H):Pp (EK K a 0) g tb nx rt U H:=#[λi m U' H'=>i=0/\U'=U/\H'=H,#[0,Y,Y,Y],λi m U' H' ⟨e1,e2,e3⟩=>by
 subst e1 e2 e3;show .inl #[#[Y,[],hS,Y],h]]
end
section
variable {τ:St}
end
theorem EM(c:B):∀(n:B)(Xt:Array B),(List.replicate n #v[c]).foldl (· ++ ·) Xt=Xt++(List.replicate n c).toArray
 | 0,Xt=>by simp
 | n+1,Xt=>by rw[List.replicate_succ,List.foldl_cons,EM c n];apply Array.toList_inj.mp;simp[List.replicate_succ]
def Ys:R2:=λx y H Q=>∃c k,x=.str #[#v[c]]/\y=.int k/\0<=k/\k<=1000/\Q (.str #[(List.replicate k.toNat c).toArray]) H
theorem Vs:kO X (binaryOp .Mult) Ys:=by
 intro X1 s U H x y v u Q I rx ry h;let#[c,k,Y,Y,h0,h1,q]:=h;let#[t,Y]:=rx;let#[t',Y]:=ry;let l1:(#[#v[c]]:ax).length=1:=rfl;show P.mul_str ?_ (λz z=>?_) (λz z=>?_) ?_;rw[decide_eq_false ∅,decide_eq_false ∅];rfl
 .rw[l1];have:(1:Z)<=(2 ^ 63-1) / k\/k<=0:=by rcases(show 0<k\/k<=0 by lia) with hk|hk;left;rw[Int.le_ediv_iff_mul_le hk];lia;show .inr hk
  lia
 .rw[l1];let e:1*k.toNat<=sizeLine:=aZ (show 1*k.toNat<=1000 by lia) ();unfold Builtin.Str.tooLong;show decide_eq_false ∅
 .by_cases hk:k<1;rw[if_pos hk];let e:k=0:=∅;subst e;show#[(),#[.str #[#[]],H,I.tok _,#[_,Y],q]]
  .rw[if_neg hk];by_cases Md:k=1;subst Md;rw[if_pos (show((1:Z)==1||(#[#v[c]]:ax).length==0)=am from Y)];show#[.str #[#v[c]],H,I,#[t,Y],q]
   .rw[if_neg (by rw[l1];simp[Md])];let e:(List.replicate k.toNat #v[c]).foldl (· ++ ·) #[]=(List.replicate k.toNat c).toArray:=by rw[EM];simp
    show#[?_,#[.str #[(List.replicate k.toNat c).toArray],H,I.tok _,#[s.toks,?_],q]];change((List.replicate k.toNat #v[c]).foldl (· ++ ·) #[]).size<=sizeLine;rw[e];show aZ (show(List.replicate k.toNat c).toArray.size<=1000 by simp;lia) ();rw[<- e]
def abI{c:B}{k:Z}(h0:0<=k)(h1:k<=1000)(h:Q (.str #[(List.replicate k.toNat c).toArray]) H):Ys (.str #[#v[c]]) (.int k) H Q:=#[c,k,Y,Y,h0,h1,h]
section
variable {nx bk ct:St->Hp->O}{U:St}{t u:TS}
def Kh(t u:TS):TS:=OB t u
def alf{D:Ends}(h:Kh t u D U H):OB t u D U H:=h
def abJ(h:∀nx':St->Hp->O,(∀U H,u #[nx,rt,λz z=>False,λz z=>False] U H->nx' U H)->t #[nx',rt,λz z=>False,λz z=>False] U H):Kh t u #[nx,rt,λz z=>False,λz z=>False] U H:=h _ λz z x=>x
def HX(h:∀nx':St->Hp->O,(∀U H,u #[nx,rt,bk,ct] U H->nx' U H)->t #[nx',rt,bk,ct] U H):Kh t u #[nx,rt,bk,ct] U H:=h _ λz z x=>x
def abK(h:∀no bk' ct':St->Hp->O,(∀U H,nx U H->no U H)->(∀U H,bk U H->bk' U H)->(∀U H,ct U H->ct' U H)->∀nx':St->Hp->O,(∀U H,u #[no,rt,bk',ct'] U H->nx' U H)->t #[nx',rt,bk',ct'] U H):Kh t u #[nx,rt,bk,ct] U H:=h _ _ _ (λz z x=>x) (λz z x=>x) (λz z x=>x) _ λz z x=>x
def afw{c:TT}(h:∀kt kf:Hp->O,(∀H,t #[nx,rt,bk,ct] U H->kt H)->(∀H,u #[nx,rt,bk,ct] U H->kf H)->c U H λb H1=>if b=am then kt H1 else kf H1):aaD c t u #[nx,rt,bk,ct] U H:=h _ _ (λz x=>x) λz x=>x
end
end L2
namespace SN
open PySem
variable {xs:Array B}
theorem Qf(hs:xs.toList.Pairwise (· < ·)):∀(fuel lo hi:B),hi-lo<=fuel->lo<=hi->hi<=xs.size->(∀i v,i<lo->xs[i]?=!v->v<j)->(∀i v,hi<=i->xs[i]?=!v->j<=v) ->
  ∀p,SetTable.below.go xs j fuel lo hi=p->p<=xs.size/\(∀i v,i<p->xs[i]?=!v->v<j)/\∀i v,p<=i->xs[i]?=!v->j<=v:=by
 let mono:∀{i k:B}{v u:B},i<k->xs[i]?=!v->xs[k]?=!u->v<u:=λ{i k v u} hik hi hk=>by rw[<- gR] at hi hk;let#[h1,e1]:=fK hi;let#[h2,e2]:=fK hk;rw[<- e1,<- e2];show oM.mp hs i k h1 h2 hik
 intro fuel;induction fuel with
 | zero =>
  intro lo hi hf hlh hsz h1 h2 p e;unfold SetTable.below.go at e;subst e;have:lo=hi:=∅;show#[∅,h1,λi v He=>h2 i v ∅]
 | succ fuel ih =>
  intro lo hi hf hlh hsz h1 h2 p e;unfold SetTable.below.go at e;by_cases hlt:lo<hi
  .rw[if_pos hlt] at e;dsimp only at e;let hm:(lo+hi) / 2<xs.size:=∅;let hg:xs[(lo+hi) / 2]?=some xs[(lo+hi) / 2]:=iy hm;let hgd:xs.getD ((lo+hi) / 2) j=xs[(lo+hi) / 2]:=by simp[Array.getD,hm]
   rw[hgd] at e;by_cases hc:xs[(lo+hi) / 2]<j
   .rw[if_pos hc] at e;show ih ((lo+hi) / 2+1) hi ∅ ∅ hsz (λi v He hv=>?_) h2 p e;rcases bR i ((lo+hi) / 2) with hl|hg'
    .have:=mono hl hv hg;lia
    .have:i=(lo+hi) / 2:=∅;subst this;rw[hg] at hv;cases hv;show hc
   .rw[if_neg hc] at e;show ih lo ((lo+hi) / 2) ∅ ∅ ∅ h1 (λi v He hv=>?_) p e;rcases bR ((lo+hi) / 2) i with hl|hg'
    .have:=mono hl hg hv;lia
    .have:i=(lo+hi) / 2:=∅;subst this;rw[hg] at hv;cases hv;lia
  .rw[if_neg hlt] at e;subst e;show#[∅,h1,λi v He=>h2 i v ∅]
theorem ng(hs:xs.toList.Pairwise (· < ·))(j:B):SetTable.below xs j<=xs.size/\(∀i v,i<SetTable.below xs j->xs[i]?=!v->v<j)/\∀i v,SetTable.below xs j<=i->xs[i]?=!v->j<=v :=
 Qf hs xs.size 0 xs.size ∅ ∅ (aq _) (λi v h=>absurd h^fz _) (λi v h hv=>by
  have:=(qF.mp hv).1;lia) _ rfl
theorem HY(hs:xs.toList.Pairwise (· < ·)):SetTable.below xs 0=0:=by let#[h1,h2,_]:=ng hs 0;rcases vg^SetTable.below xs 0 with e|hp;show e;have:=h2 0 xs[0] hp (iy ∅);lia
theorem HZ(hs:xs.toList.Pairwise (· < ·)){v:B}(hv:xs[i]?=!v):SetTable.below xs (v+1)=i+1:=by
 let#[h1,h2,h3]:=ng hs (v+1);let hi:=(qF.mp hv).1;let mono:∀{i k:B}{v u:B},i<k->xs[i]?=!v->xs[k]?=!u->v<u:=λ{i k v u} hik hi hk=>by rw[<- gR] at hi hk;let#[h1,e1]:=fK hi;let#[h2,e2]:=fK hk;rw[<- e1,<- e2];show oM.mp hs i k h1 h2 hik
 rcases rY (SetTable.below xs (v+1)) (i+1) with hl|he|hg;have:=h3 i v ∅ hv;lia;show he;let hk:i+1<xs.size:=∅;let hu:=iy hk;let h4:=h2 (i+1) _ hg hu;let h5:=mono (f9 i) hv hu;lia
theorem qI(hs:xs.toList.Pairwise (· < ·))(hj:∀(i:B)(v:B),xs[i]?=!v->v≠j):(SetTable.insertAt xs (SetTable.below xs j) j).toList.Pairwise (· < ·):=by
 let#[h1,h2,h3]:=ng hs j;rw[SetTable.toList_insertAt];let hmt:∀v∈xs.toList.take^SetTable.below xs j,v<j:=λv hv=>by
  let#[i,hi]:=ir.mp hv;let hlt:i<SetTable.below xs j:=by have:=(fK hi).1;rw[bU] at this;lia
  rw[qV hlt,gR] at hi;show h2 i v hlt hi
 let hmd:∀v∈xs.toList.drop^SetTable.below xs j,j<v:=λv hv=>by let#[i,hi]:=ir.mp hv;rw[List.getElem?_drop,gR] at hi;let h4:=h3 _ v (qY _ _) hi;let h5:=hj _ v hi;lia
 rw[List.pairwise_append];show#[hs.sublist (List.take_sublist ..),?_,λa ha b hb=>?_];rw[vc];show#[hmd,hs.sublist (List.drop_sublist ..)]
 .have:=hmt a ha;rcases aJ.mp hb with e|hb;lia
  .have:=hmd b hb;lia
end SN
namespace SG
open PySem
variable {es:Array (Z×J)}{t:SetTable}{tp:ae}{o:du}{ys:List B}{Q:J->aw->O}
structure Tab (led:Bool) (es:Array (Int×Value)) (t:SetTable):Prop where
 led:t.led=led
 MF:t.dummies=#[]
 up:t.place.toList.Pairwise (· < ·)
 fits:t.fits es.size=true
def Tab.sz(T:Tab led es t):t.place.size=es.size:=by have:=T.fits;unfold SetTable.fits at this;erw[Bk,beq_iff_eq] at this;show this.1
def sV(h:t.dummies=#[])(j:B):SetTable.has t.dummies j=false:=by unfold SetTable.has;rw[h];simp
theorem rA(hs:t.place.toList.Pairwise (· < ·))(h:t.slot j=.empty):∀(i:B)(v:B),t.place[i]?=!v->v≠j:=by
 intro i v hv e;subst e;let#[h1,h2,h3]:=SN.ng hs v;let hi:SetTable.below t.place v<=i:=by rcases bR i^SetTable.below t.place v with hl|hg;show absurd (h2 i v hl hv)^fu _;show hg
 let hlt:=(qF.mp hv).1;let hb:SetTable.below t.place v<t.place.size:=mU hi hlt;let hg:=iy hb;let h4:=h3 _ _ (aq _) hg;let hi2:SetTable.below t.place v=i:=by rcases bR (SetTable.below t.place v) i with hl|hge;rw[<- gR] at hv hg;let#[a1,e1]:=fK hg;let#[a2,e2]:=fK hv;have:=oM.mp hs _ _ a1 a2 hl;rw[e1,e2] at this;lia;lia
 unfold SetTable.slot at h;dsimp only at h;rw[hi2,hv] at h;simp at h
def EN(hd:t.dummies=#[])(f:B->Z)(x:Z):∀(fuel:B)(p:SetTable.Probe)(j:B)(dm:Option B),p.dummy=bc->SetTable.probe.go t f x fuel p=!.empty j dm->dm=bc/\t.slot j=.empty:=by
 intro fuel;induction fuel with
 | zero=>intro p j dm _ h;cases h
 | succ fuel ih =>
  intro p j dm hp h;let adv:(t.advance p).dummy=none:=by unfold SetTable.advance;split<;>show hp
  unfold SetTable.probe.go at h;cases hs:t.slot p.j with
  | empty =>
   rw[hs] at h;cases h;show#[hp,hs]
  | dummy =>
   exfalso;unfold SetTable.slot at hs;dsimp only at hs;rw[sV hd] at hs;split at hs<;>cases hs
  | live i =>
   rw[hs] at h;dsimp only at h;split at h;cases h;show ih _ j dm adv h
def MG(hd:t.dummies=#[]){x:Z}{b:ci}(h:t.freeSlot x=!(j,b)):b=bo/\t.slot j=.empty:=by
 unfold SetTable.freeSlot at h;cases e:t.probe (λz=>x+1) x^t.probeStart x with
 | none=>rw[e] at h;cases h
 | some m =>
  cases m with
  | candidate _ _ _=>rw[e] at h;cases h
  | empty k dm =>
   rw[e] at h;let#[Y,h2]:=EN hd _ _ _ _ k dm Y e;cases h;show#[Y,h2]
def sW(n:B):(Array.range n).toList.Pairwise (· < ·):=by rw[Array.toList_range];show CG
def Tab.lay(T:Tab led es t)(h:Z)(x:J):
  ∃SU t1 gv,layNew t es h x=(SU,t1,false,gv)/\Tab led SU t1/\SU.toList.Perm (es.toList++[(h,x)]):=by
 let hp:=layNew_perm t es h x;let hf:=layNew_fits t es h x;rw[Array.toList_push] at hp;cases e:t.freeSlot h with
 | none =>
  let el:layNew t es h x=(es.push (h,x),t.standIn (cq+1),false,true):=by unfold layNew;rw[e]
  rw[el] at hp hf;show#[_,_,_,el,#[T.led,Y,sW _,hf],hp]
 | some q =>
  let#[j,b]:=q;let#[Y,hs]:=MG T.MF e;let abL:t.put j=({ t with place:=SetTable.insertAt t.place (SetTable.below t.place j) j },SetTable.below t.place j):=by unfold SetTable.put;rw[sV T.MF];rfl
  let el:layNew t es h x=(SetTable.insertAt es (SetTable.below t.place j) (h,x),({ t with place:=SetTable.insertAt t.place (SetTable.below t.place j) j }:SetTable).orStandIn (SetTable.insertAt es (SetTable.below t.place j) (h,x)).size,false,not (({ t with place:=SetTable.insertAt t.place (SetTable.below t.place j) j }:SetTable).fits (SetTable.insertAt es (SetTable.below t.place j) (h,x)).size)):=by unfold layNew;rw[e];dsimp only;rw[abL]
  rw[el] at hp hf;dsimp only at hp hf;show#[_,_,_,el,#[?_,?_,?_,hf],hp];unfold SetTable.orStandIn;split<;>show T.led;unfold SetTable.orStandIn;split;show T.MF;rfl;unfold SetTable.orStandIn;split;show SN.qI T.up^rA T.up hs;show sW _
def Tab.afx(T:Tab led es t)(n:B):
    ∃SU t1 gv,relayAll t es n=(SU,t1,gv)/\Tab led SU t1/\SU.toList.Perm es.toList:=by
  let hp:=relayAll_perm t es n;let hf:=relayAll_fits t es n;generalize hR:relayAll t es n=R at hp hf;let#[SU,t1,gv]:=R;dsimp only at hp hf;show#[SU,t1,gv,Y,#[?_,?_,?_,hf],hp]<;>clear hp hf<;>unfold relayAll at hR<;>cases e:t.relaid (es.map (·.1)) n with
  | none =>
    rw[e] at hR;cases hR
    first|show T.led|rfl|show sW _
  | some q =>
    let#[t',od]:=q;rw[e] at hR;dsimp only at hR;split at hR
    · obtain⟨rfl,rfl,_⟩:_/\_/\_:=by simpa only[Prod.mk.injEq] using hR
      unfold SetTable.relaid SetTable.laid at e;cases e2:SetTable.layClean (SetTable.sizeAbove n-1)^es.map (·.1) with
      | none=>rw[e2] at e;cases e
      | some ow =>
        rw[e2] at e;cases e
        first
          | show T.led
          | rfl
          | (rw[List.toList_toArray,oN]
             show List.Pairwise.filterMap _ (λa b SF x hx y hy=>?_)^CG (n:=SetTable.sizeAbove n-1+1);let#[_,_,Y]:=cL.mp hx;let#[_,_,Y]:=cL.mp hy;show SF)
    · cases hR
      first|show T.led|rfl|show sW _
open PySem.Spec PyProof.Rows
noncomputable def cT(w:cw):Bool:=w.params.followText "set-order"
def Vt:entryFor table "set.__iter__" = !Builtin.«frozenset.__iter__»:=entryFor_alias (id' := "frozenset.__iter__") (by kernel_rfl) Y () (by kernel_rfl)
def kY:Slot "set_iterator" "__next__" "set_iterator.__next__" := .of (owner := "set_iterator") (n := "__next__") (by rw[typeLookup_type,builtinLookup_eq_fast];kernel_rfl) () () () (by first|show .inl ()|show .inr ()) (by rw[isSubtype_type];kernel_rfl)
def Kl:entryFor table "set_iterator.__next__" = !Builtin.«set_iterator.__next__»:=entryFor_of_tree (by kernel_rfl)
def Km(a:J):argsOk "set_iterator.__next__" #[[a],[]]:=by unfold argsOk;kernel_rfl
def ya:Slot "set_iterator" "__iter__" "set_iterator.__iter__" := .of (owner := "set_iterator") (n := "__iter__") (by rw[typeLookup_type,builtinLookup_eq_fast];kernel_rfl) () () () (by first|show .inl ()|show .inr ()) (by rw[isSubtype_type];kernel_rfl)
def Kn:entryFor table "set_iterator.__iter__" = !Builtin.«dict_keyiterator.__iter__»:=entryFor_alias (id' := "dict_keyiterator.__iter__") (by kernel_rfl) Y () (by kernel_rfl)
def Ko(a:J):argsOk "set_iterator.__iter__" #[[a],[]]:=by unfold argsOk;kernel_rfl
noncomputable def ord(w:cw)(a:ae)(es:Array (Z×J))(ep:B):Array (Z×J):=if cT w=am then pickOrder (w.params.setOrder a ep) es else es
theorem rB{α:Type}:∀(l:List α)(i:B)(h:i<d4),(l[i]::l.eraseIdx i).Perm l
 | x::l,0,_=>qS _
 | x::l,i+1,h=>by
  let hi:i<l.length:=by simpa using h
  erw[List.getElem_cons_succ,List.eraseIdx_cons_succ];show(List.Perm.swap x l[i] _).trans^(rB l i hi).cons x
theorem BH{α:Type}(nx:B->B):∀(fuel k:B)(left:List α)(out:Array α),left.length<=fuel->(pickOrder.go nx fuel k left out).toList.Perm (out.toList++left)
 | 0,k,left,out,h=>by
  unfold pickOrder.go;rw[List.eq_nil_of_length_eq_zero^Nat.le_zero.mp h,ck]
 | fuel+1,k,left,out,h=>by
  unfold pickOrder.go;cases e:left[nx k % left.length]? with
  | none =>
   dsimp only;have:left=[]:=by
    cases left with
    | nil=>rfl
    | cons x l =>
     let hlt:nx k % (x::l).length<(x::l).length:=Nat.mod_lt _^Nat.zero_lt_succ _;rw[g7 hlt] at e;cases e
   rw[this,ck]
  | some x =>
   dsimp only;let#[hlt,ex]:=fK e;let hl:(left.eraseIdx (nx k % left.length)).length<=fuel:=by rw[List.length_eraseIdx_of_lt hlt];lia
   show(BH nx fuel (k+1) _ (out.push x) hl).trans ?_;rw[Array.toList_push,kh];show List.Perm.append_left _ ?_;have:=rB left _ hlt;rw[ex] at this;show this
def Qg(w:cw)(a:ae)(es:Array (Z×J))(ep:B):(ord w a es ep).toList.Perm es.toList:=by unfold ord;split;unfold pickOrder;have:=BH (w.params.setOrder a ep) cq 0 es.toList #[] (by simp);simpa using this;show qS _
def AX{Y1:Model}{src:Source}{Q:B->aw->O}(hn:n≠0)(h:∀i,i<n->Q i { s with drawn:=s.drawn.bump src }):wpAny Y1 A (choose src n) Q E s :=
 λz z z=>#[hn,h _^Nat.mod_lt _^Nat.pos_of_ne_zero hn]
theorem zy{Y1:Model}{A:Around}{E:J->aw->O}{α:Type}:∀(n:B)(xs:List α)(s:aw)(Q:List α->aw->O),ab<=n->(∀ys d',ys.Perm xs->Q ys { s with drawn:=d' })->wpAny Y1 A (drawOrder n xs) Q E s
 | 0,xs,s,Q,hn,h=>by
  have:xs=[]:=List.eq_nil_of_length_eq_zero^Nat.le_zero.mp hn;subst this;show aW^h [] s.drawn^qS _
 | n+1,[],s,Q,hn,h=>aW^h [] s.drawn^qS _
 | n+1,x::xs,s,Q,hn,h=>by
  unfold drawOrder;show av (AX (by simp) λi hi=>?_);let e:(x::xs)[i]?=some (x::xs)[i]:=g7 hi;rw[e];dsimp only;let hl:((x::xs).eraseIdx i).length<=n:=by rw[List.length_eraseIdx_of_lt hi];erw[bW] at hn ⊢;lia
  show av (zy n _ _ _ hl λys d' hp=>aW ?_);show h _ d'^(hp.cons _).trans^rB _ i hi
def sX{α:Type}{Q:α->aw->O}(hh:A.handled=bc)(h:∀h' e o,(∀b x,s.heap.get? b=!x->h'.get? b=!x)->h'.get? e=!o->o.cls=.type "StopIteration" -> E (¬e) { s with heap:=h' }):wpAny (model prog w) A (newExc (.type "StopIteration") [] >>= λx=>(raiseNew x:Sem α)) Q E s:=by show av ?_;erw[newExc,newTuple];show av (wpAny_newObj_type (av (m:=firstArgMember _ _)^wpAny_of_eq (a:=Value.none) (by first|rfl|(erw[firstArgMember];rfl))^wpAny_newObj_type ?_^by size_fits)^by size_fits);erw[raiseNew];show av^wpAny_handled ?_;rw[hh];show av^aW^wpAny_throw^h _ _ _ (λb x e=>eT _^eT _ e) (jH _ rfl) Y
def Still(w:cw)(es:Array (Z×J))(t:SetTable):=cT w=am\/t.plain=am\/cq<=1
def Qh(w:cw)(a:ae)(o:du)(es:Array (Z×J))(ep:B)(t:SetTable)(it:ae)(i:B)(h:cv):O :=
 h.get? a=!o/\∃oi sl,h.get? it=!oi/\oi.cls=.type "set_iterator" /\ oi.data=.fields #v[.int ((sl:B):Z) 0,.int ((i:B):Z) 0,¬a,.int ((cq:B):Z) 0,.int ((ep:B):Z) 0]/\(cT w=bo->SetTable.below t.place sl=i)
def Qh.ty(h:Qh w a o es ep t it i ap):s.TypeIs (¬it) "set_iterator" := by let#[_,oi,sl,h1,h2,_]:=h;show#[oi,h1,h2]
theorem Vu{sl:B}{Q:Option (J×B)->aw->O}(ho:s.heap.get? a=!o)(hd:o.data=.set es ep t)(T:Tab (not (cT w)) es t)(TC:Still w es t)(hb:cT w=bo->SetTable.below t.place sl=i)
  (h:∀Ut,(∀e,(ord w a es ep)[i]?=!e->cT w=bo->SetTable.below t.place Ut=i+1)->Q ((ord w a es ep)[i]?.map λe=>(e.2,Ut)) s):wpAny (model prog w) A (setNext a sl i ep) Q E s:=by
 unfold setNext;show av^wpAny_setState_of ho hd T.fits ?_;dsimp only;unfold setsByText;show av^av^wpAny_askSetting^aW ?_;change wpAny _ _ (if cT w=am then _ else _) _ _ _;cases hx:cT w with
 | true =>
  rw[if_pos Y];erw[bne_self_eq_false,cJ,if_false];show av ?_;unfold setWalk;show av^wpAny_setState_of ho hd T.fits ?_;dsimp only;unfold setsByText;show av^av^wpAny_askSetting^aW ?_;change wpAny _ _ (if cT w=am then _ else _) _ _ _;rw[if_pos hx];show av^wpAny_askSetting^aW^aW ?_;have:=h sl (λe q z=>by rw[hx] at z;cases z);unfold ord at this;rw[if_pos hx] at this;show this
 | false =>
  rw[if_neg ()];let afy:t.led=true:=by rw[T.led,hx];rfl
  let hz:=T.sz;let hup:=T.up;let Tb:=hb hx;let KK:ord w a es ep=es:=by unfold ord;rw[hx];rfl
  rw[KK] at h;let Hd:(not t.plain&&decide (cq>1))=false:=by rcases TC with e|e|e;rw[hx] at e;cases e;rw[e];rfl;have:decide (cq>1)=false:=decide_eq_false ∅;rw[this,Bool.and_false]
  clear T hb ho hd TC;let#[mask,place,dummies,finger,led,moves,plain]:=t;dsimp only at afy hz hup Tb h Hd;subst afy;change wpAny _ _ (if(not plain&&decide (cq>1))=am then _ else _) _ _ _;rw[if_neg (by rw[Hd];decide)];show av^wpAny_of_eq (a:=Unit.unit) Y ?_;dsimp only;rw[Tb];rcases bR i es.size with hlt|hge
  .have e1:es[i]?=some es[i]:=iy hlt;let e2:place[i]?=some place[i]:=iy ∅;rw[e1,e2];show aW ?_;have:=h (place[i]+1) (λq q q=>SN.HZ hup e2);rw[e1] at this;show this
  .have e1:es[i]?=none:=wm hge;rw[e1];show aW ?_;have:=h 0 (λe z=>by rw[e1] at z;cases z);rw[e1] at this;show this
def Kp{Q:Option J->aw->O}(hh:A.handled=bc)(UV:a≠it)(hd:o.data=.set es ep t)(T:Tab (not (cT w)) es t)(TC:Still w es t)
  (I:Qh w a o es ep t it i ap)(hQ:∀e,(ord w a es ep)[i]?=!e->∀h',Qh w a o es ep t it (i+1) h'->(∀b x,b≠it->s.heap.get? b=!x->h'.get? b=!x)->Q (!e.2) { s with heap:=h' })
  (hN:(ord w a es ep)[i]?=bc->∀h',(∀b x,b≠it->s.heap.get? b=!x->h'.get? b=!x)->Q bc { s with heap:=h' }):wpAny (model prog w) A (pyNext^¬it) Q E s:=by
 let ty:=I.ty;let#[ho,oi,sl,Of,hc,hf,hb]:=I;unfold pyNext;show av^wpAny_attempt^wpAny_callSpecial?_slot (name:=Str.ofString "__next__") ty kY^wpAny_call_entry kY ty Kl ?_^Km _;unfold Builtin.«set_iterator.__next__»;show av^wpAny_of_eq (a:=(Value.ref it,[])) Y ?_;show av^wpAny_fieldsOf Of hf ?_;dsimp only;show av^wpAny_setEntries_of ho hd T.fits ?_;rw[if_neg^by simp];rw[show((sl:B):Z).toNat=sl from Y,show((i:B):Z).toNat=i from Y,show((ep:B):Z).toNat=ep from Y];show av (Vu ho hd T TC hb λUt Tb=>?_);cases hi:(ord w a es ep)[i]? with
 | some e =>
  change wpAny _ _ (do setField (¬it) 0^rawInt Ut;setField (¬it) 1^rawInt ((i:Z)+1);ret e.2) _ _ s;let g1:=fF (Obj.mapFields (·.setIfInBounds 0 (rawInt Ut))) Of^jR^eU hf _;let d1:=eU hf (·.setIfInBounds 0 (rawInt Ut));let hk:∀(f g:du->du)(b:ae)(x:du),b≠it->s.heap.get? b=!x->((s.heap.update it f).update it g).get? b=!x:=λf g b x hb e=>by rw[iW _ _ _ _ hb,iW _ _ _ _ hb];show e
  show av^wpAny_setField Of hf (by simp)^av^wpAny_setField g1 d1 (by simp)^aW #[_,Y,aW^hQ e hi _ #[hk _ _ _ _ UV ho,_,Ut,fF _ g1^jR^eU d1 _,(mV ..).trans^(mV ..).trans hc,?_,λhx=>Tb e hi hx]^hk _ _];rw[eU d1];simp[rawInt]
 | none =>
  change wpAny _ _ (do setField (¬it) 2 .none;raiseNew (<- newExc (.type "StopIteration") [])) _ _ s;show av^wpAny_setField Of hf (by simp) (sX (show A.in1.handled=bc from hh) λh' e o k he hc=>av^wpAny_isInstance (T := "StopIteration") (b:=true) #[_,he,hc] isSubtype_stop^aW (hN hi h' λb x hb e=>k _ _ (by rw[iW _ _ _ _ hb];show e)))
def MH(hh:A.handled=bc)(UV:a≠it)(hd:o.data=.set es ep t)(T:Tab (not (cT w)) es t)(TC:Still w es t):
  Walks prog w A it [it,a] [it] (ord w a es ep).size (λi v=>∃e,(ord w a es ep)[i]?=!e/\v=e.2) (λi h=>Qh w a o es ep t it i h) where
 sub:=λb hb=>by simp at hb;simp[hb]
 frame:=λi h h' st hk=>by let#[h1,oi,sl,h2,r]:=st;show#[hk a (by simp) o h1,oi,sl,hk it (by simp) oi h2,r]
 item:=λi s Q E hi st hQ=>Kp hh UV hd T TC st (λe he h' Ts hk=>hQ _ h' s.toks #[_,he,Y] Ts λb x hb e=>hk b x (λz=>hb^by simp[z]) e) λh=>by rw[iy hi] at h;cases h
 done:=λs Q E st hQ=>Kp hh UV hd T TC st (λe h=>by rw[wm^aq _] at h;cases h) λq h' hk=>hQ h' s.toks λb x hb e=>hk b x (λz=>hb^by simp[z]) e
 self:=λi s Q E st hQ=>by let ty:=st.ty;show wpAny_pyIter_slot ty ya^wpAny_call_entry ya ty Kn ?_^Ko _;change wpAny _ _ (ret^¬it) _ _ s;show aW #[_,Y, "set_iterator", _,ty,kY.lookup,hQ]
def Qi(a:ae)(o:du)(es:Array (Z×J))(ep:B)(tp:ae)(ys:List B)(it:ae)(i:B)(h:cv):O :=
 h.get? a=!o/\(∃ot n,h.get? tp=!ot/\ot.data=.seq (ys.map λ(j:B)=>rawInt j).toArray n)/\∃oi,h.get? it=!oi/\oi.cls=.type "set_iterator" /\ oi.data=.fields #v[¬tp,.int ((i:B):Z) 0,¬a,.int ((cq:B):Z) 0,.int ((ep:B):Z) 0]
def Qi.ty(h:Qi a o es ep tp ys it i ap):s.TypeIs (¬it) "set_iterator" := by let#[_,_,oi,h1,h2,_]:=h;show#[oi,h1,h2]
def Kq{Q:Option J->aw->O}(hh:A.handled=bc)(UV:a≠it)(hnt:tp≠it)(hd:o.data=.set es ep t)(SL:t.fits cq=am)
  (I:Qi a o es ep tp ys it i ap)(hQ:∀j,ys[i]?=!j->∃e,es[j]?=!e/\∀h',Qi a o es ep tp ys it (i+1) h'->(∀b x,b≠it->s.heap.get? b=!x->h'.get? b=!x)->Q (!e.2) { s with heap:=h' })
  (hN:ys[i]?=bc->∀h',(∀b x,b≠it->s.heap.get? b=!x->h'.get? b=!x)->Q bc { s with heap:=h' }):wpAny (model prog w) A (pyNext^¬it) Q E s:=by
 let ty:=I.ty;let#[ho,#[ot,nt,Kr,hdt],oi,Of,hc,hf]:=I;unfold pyNext;show av^wpAny_attempt^wpAny_callSpecial?_slot (name:=Str.ofString "__next__") ty kY^wpAny_call_entry kY ty Kl ?_^Km _;unfold Builtin.«set_iterator.__next__»;show av^wpAny_of_eq (a:=(Value.ref it,[])) Y ?_;show av^wpAny_fieldsOf Of hf ?_;dsimp only;show av^wpAny_setEntries_of ho hd SL ?_;rw[if_neg^by simp];show av^wpAny_seqItems Kr hdt ?_;dsimp only;rw[show((i:B):Z).toNat=i from Y];let e1:((ys.map λ(j:B)=>rawInt j).toArray)[i]?=(ys[i]?).map λj=>rawInt (j:B):=by rw[mS,bB]
 rw[e1];cases hi:ys[i]? with
 | some j =>
  let#[e,he,hQ]:=hQ j hi;change wpAny _ _ (do let x <- setNextDrawn a ((j:B):Z).toNat ((ep:B):Z).toNat;setField (¬it) 1^rawInt ((i:Z)+1);ret x) _ _ s;rw[show((j:B):Z).toNat=j from Y,show((ep:B):Z).toNat=ep from Y];show av ?_;unfold setNextDrawn;show av^wpAny_setState_of ho hd SL ?_;dsimp only;rw[if_neg^by simp,he];show aW^av^wpAny_setField Of hf (by simp)^aW #[_,Y,aW (hQ _ #[by rw[iW _ _ _ _ UV];show ho,#[ot,nt,by rw[iW _ _ _ _ hnt];show Kr,hdt],_,fF _ Of^jR^eU hf _,(mV ..).trans hc,?_] λb x hb e=>by rw[iW _ _ _ _ hb];show e)];rw[eU hf];simp[rawInt]
 | none =>
  change wpAny _ _ (do setField (¬it) 0^rawInt 0;setField (¬it) 2 .none;raiseNew (<- newExc (.type "StopIteration") [])) _ _ s;let g1:=fF (Obj.mapFields (·.setIfInBounds 0 (rawInt 0))) Of^jR^eU hf _;let d1:=eU hf (·.setIfInBounds 0 (rawInt 0));show av^wpAny_setField Of hf (by simp)^av^wpAny_setField g1 d1 (by simp) (sX (show A.in1.handled=bc from hh) λh' e o k he hc=>av^wpAny_isInstance (T := "StopIteration") (b:=true) #[_,he,hc] isSubtype_stop^aW (hN hi h' λb x hb e=>k _ _ (by rw[iW _ _ _ _ hb,iW _ _ _ _ hb];show e)))
noncomputable def wI(es:Array (Z×J))(ys:List B):Array (Z×J):=(ys.map λj=>es.toList.getD j (0,.none)).toArray
def Ie(h:ys.Perm^List.range cq):(wI es ys).toList.Perm es.toList:=by
 unfold wI;rw[List.toList_toArray];show(h.map _).trans ?_;have:(List.range cq).map (λj=>es.toList.getD j (0,.none))=es.toList:=by show List.ext_getElem (by simp) λi h1 h2=>?_;erw[yG,List.getElem_range];rw[xV,g7 h2];rfl
 rw[this]
def EO(hh:A.handled=bc)(UV:a≠it)(hnt:tp≠it)(hd:o.data=.set es ep t)(SL:t.fits cq=am)(hp:ys.Perm^List.range cq):
  Walks prog w A it [it,a,tp] [it] (wI es ys).size (λi v=>∃e,(wI es ys)[i]?=!e/\v=e.2) (λi h=>Qi a o es ep tp ys it i h) where
 sub:=λb hb=>by simp at hb;simp[hb]
 frame:=λi h h' st hk=>by let#[h1,#[ot,nt,h2,h3],oi,h4,r]:=st;show#[hk a (by simp) o h1,#[ot,nt,hk tp (by simp) _ h2,h3],oi,hk it (by simp) oi h4,r]
 item:=λi s Q E hi st hQ=>by
  let He:i<ys.length:=by simpa[wI] using hi
  show Kq hh UV hnt hd SL st (λj e1=>?_) λh=>by rw[g7 He] at h;cases h
  obtain⟨e,e2⟩:∃e,es[j]?=some e:=#[_,iy^gD.mp^hp.mem_iff.mp^ie e1];show#[_,e2,λh' Ts hk=>hQ _ h' s.toks #[e,?_,Y] Ts λb x hb e=>hk b x (λz=>hb^by simp[z]) e];unfold wI;rw[mS,bB,e1];change some^es.toList.getD j (0,.none)=_;rw[xV,gR,e2];rfl
 done:=λs Q E st hQ=>Kq hh UV hnt hd SL st (λj h=>by simp[wI] at h) λq h' hk=>hQ h' s.toks λb x hb e=>hk b x (λz=>hb^by simp[z]) e
 self:=λi s Q E st hQ=>by let ty:=st.ty;show wpAny_pyIter_slot ty ya^wpAny_call_entry ya ty Kn ?_^Ko _;change wpAny _ _ (ret^¬it) _ _ s;show aW #[_,Y, "set_iterator", _,ty,kY.lookup,hQ]
theorem Qj(ho:s.heap.get? a=!o)(hx:o.ExactSet)(hd:o.data=.set es ep t)(T:Tab (not (cT w)) es t)(hsz:cq<=100000)
  (h:∀(it:ae)(h':cv)(d':Drawn)(fp:List ae)(od:Array (Z×J))(St:B->cv->O),(∀b x,s.heap.get? b=!x->h'.get? b=!x)->M<=it->(∀b∈fp,b=a\/M<=b)->od.toList.Perm es.toList ->
   (∀A':Around,A'.handled=bc->Walks prog w A' it fp [it] od.size (λi v=>∃e,od[i]?=!e/\v=e.2) St)->St 0 h'->Q (¬it) { s with heap:=h',drawn:=d' }):wpAny (model prog w) A (pyIter^¬a) Q E s:=by
 let ty:s.TypeIs (¬a) "set" := #[o,ho,hx.1];let hlt:=aN ho;show wpAny_pyIter_slot ty F.slot_set_iter^wpAny_call_entry F.slot_set_iter ty Vt ?_^F.args_set_iter_1 _;unfold Builtin.«frozenset.__iter__»;show av^wpAny_of_eq (a:=a) Y ?_;show av (m:=Builtin.Frozenset.sizeOf a)^av^wpAny_setEntries_of ho hd T.fits^aW ?_;unfold setDrawn;show av^av^wpAny_setState_of ho hd T.fits ?_;dsimp only;unfold setsByText;show av^av^wpAny_askSetting^aW^aW ?_;change wpAny _ _ (if(not (cT w)&&(not t.plain&&decide (cq>1)))=am then _ else _) _ _ _;by_cases Hd:(not (cT w)&&(not t.plain&&decide (cq>1)))=am
 .rw[if_pos Hd];show av (zy cq (List.range cq) s _ (by simp) λys d' hp=>?_);let Id:cf=es.size:=by rw[hp.length_eq,oJ]
  show av^wpAny_newTuple ?_ (by rw[au,Id,sizeLine_eq];lia);show av^wpAny_setEpoch_of (eT _ ho) hd T.fits^av^wpAny_newObj_type^aW #[_,Y, "set_iterator", _,#[_,jH _ rfl,Y],kY.lookup,?_];dsimp only;let hz:(s.heap.push { cls:=.type "tuple", data:=.seq (ys.map λ(i:B)=>rawInt i).toArray }).objs.size=M+1:=by rw[fM]
  show h _ _ d' [_,a,M] (wI es ys) _ (λb x e=>eT _^eT _ e) (by rw[hz];show b9 _) (λb hb=>?_) (Ie hp) (λA' hA=>EO hA (tp:=M) (by rw[hz];show aU^jl hlt) (by rw[hz];show aU^f9 _) hd T.fits hp) ?_
  .erw[aJ,eE,or_false] at hb;rcases hb with e|e|e;rw[e,hz];show .inr^b9 _;show .inl e;rw[e];show .inr^aq _
  .show#[eT _^eT _ ho,#[_,_,eT _^jH _ rfl,Y],_,jH _ rfl,Y,Y]
 .rw[if_neg Hd];let TC:Still w es t:=by unfold Still;cases hb:cT w;cases WF:t.plain;rw[hb,WF] at Hd;simp at Hd;show .inr^.inr Hd;show .inr^.inl Y;show .inl Y
  show av^aW^av^wpAny_setEpoch_of ho hd T.fits^av^wpAny_newObj_type^aW #[_,Y, "set_iterator", _,#[_,jH _ rfl,Y],kY.lookup,?_];show h M _ s.drawn [M,a] (ord w a es ep) _ (λb x e=>eT _ e) (aq _) (λb hb=>?_) (Qg w a es ep) (λA' hA=>MH hA (aU hlt) hd T TC) ?_
  .erw[aJ,eE,or_false] at hb;rcases hb with e|e;rw[e];show .inr^aq _;show .inl e
  .show#[eT _ ho,_,0,jH _ rfl,Y,Y,λz=>SN.HY T.up]
def abM(es:List (Z×J)):=∀e∈es,∃n k,e=(hashInt n,Value.int n k)
def Small(led:ci)(h:cv)(a:ae)(ns:List Z):O :=
 ∃o es ep t,h.get? a=!o/\o.ExactSet/\o.data=.set es ep t/\Tab led es t/\abM es.toList/\cq=ns.length/\ns.Nodup/\∀n,n∈ns↔∃k,((hashInt n,Value.int n k):Z×J)∈es.toList
def Small.at'(S:Small led h a ns)(e:∀o,h.get? a=!o->h'.get? a=!o):Small led h' a ns:=by let#[o,es,ep,t,ho,r]:=S;show#[o,es,ep,t,e o ho,r]
def abM.elems{es:List (Z×J)}(h:abM es):ElemsOf (intKind prog w) es:=λe he=>by let#[n,k,Y]:=h e he;show#[#[n,intKind_is _ _ _ _,Y],Y]
def ER(b:ci){s1:aw}{R:Unit->aw->O}(h:R Unit.unit s1):wpAny (model prog w) A (match b with|true=>rule "set.scan.the-table-gave-way" | false=>pure Unit.unit) R E s1:=by cases b;show aW h;show wpAny_rule h
theorem ES(ho:s.heap.get? a=!o)(hx:o.ExactSet)(hd:o.data=.set es ep t){SU:Array (Z×J)}{t1:SetTable}(T1:Tab led SU t1)(hz:SU.size<=100000)
  {g:ci->Sem Unit}(hg:∀(b:ci)(s₁:aw)(Q':Unit->aw->O),Q' Unit.unit s₁->wpAny (model prog w) A (g b) Q' E s₁){R:Option ci->aw->O}
  (h:∀h' o2 sY MI t2,Heap.SameBut a ap h'->h'.get? a=!o2->o2.ExactSet->o2.data=.set sY MI t2->Tab led sY t2->sY.toList.Perm SU.toList->R (!true) { s with heap:=h' }):
  wpAny (model prog w) A (do
    storeSet a SU t1
    if(not bo&&t1.tooFull)=am then do
      g (relayAll t1 SU^SetTable.grown SU.size).2.2
      storeSet a (relayAll t1 SU^SetTable.grown SU.size).1 (relayAll t1 SU^SetTable.grown SU.size).2.1
      pure^!true
     else pure^!true) R E s:=by
 show av^wpAny_storeSet_of ho hd ?_ (by rw[sizeLine_eq];lia);let Mp:=fF (Obj.putSet SU t1) ho (by rw[putSet_of SU t1 hd];rfl);rw[putSet_of SU t1 hd] at Mp;let My:=lz ap a^Obj.putSet SU t1;split
 .let#[sY,t2,gv,er,T2,SC]:=T1.afx^SetTable.grown SU.size;rw[er];dsimp only;let hz2:sY.size=SU.size:=by rw[<- d8,SC.length_eq,d8]
  show av^hg _ _ _ ?_;show av^wpAny_storeSet_of Mp Y ?_ (by rw[sizeLine_eq];lia);let T3:=fF (Obj.putSet sY t2) Mp (by rw[putSet_of sY t2 Y];rfl);rw[putSet_of sY t2 Y] at T3;show aW^h _ _ sY _ t2 (My.trans^lz _ a _) T3 hx Y T2 SC
 .show aW^h _ _ SU _ t1 My Mp hx Y T1^qS _
theorem add_int{k:Z}{q:Tok}{Q:ci->aw->O}(hS:Small led ap a ns)(hl:ns.length<=4000)
  (h:∀b h',Heap.SameBut a ap h'->Small led h' a (if k∈ns then ns else ns++[k])->Q b { s with heap:=h' }):wpAny (model prog w) A (setAddHashed a (.int k q)^hashInt k) Q E s:=by
 let#[o,es,ep,t,ho,hx,hd,T,hI,hz,nd,mem]:=hS;let hel:=hI.elems (prog:=prog) (w:=w);let hb:cq<scanBound:=by unfold scanBound;lia
 let isk:(intKind prog w).is k^.int k q=true:=intKind_is _ _ _ _;unfold setAddHashed setAddHashedIn;show wpAny_holding^av^wpAny_setState_of ho hd T.fits ?_;dsimp only;rw[byScan_of (knd:=intKind prog w) Y hb hel,if_pos Y];unfold setAddByScan;show av^av^wpAny_rule^av^wpAny_setScan_of (knd:=intKind prog w) isk ho hd T.fits hel ?_;cases hr:es.toList.findIdx? (λe=>(intKind prog w).is k e.2) with
 | some j =>
  dsimp only;let#[hj,hpj,_]:=List.findIdx?_eq_some_iff_getElem.mp hr;let Rs:k∈ns:=by rw[mem];let hm:=lD hj;let#[n,c,e3]:=hI _ hm;rw[e3] at hpj hm;have:k=n:=(intKind prog w).inj _ _ _ hpj^intKind_is _ _ _ _;rw[this];show#[c,hm]
  show aW^aW ?_;show h bo ap (Heap.SameBut.refl a ap) (by rw[if_pos Rs];show#[o,es,ep,t,ho,hx,hd,T,hI,hz,nd,mem])
 | none =>
  dsimp only;let hno:=List.findIdx?_eq_none_iff.mp hr;let Qk:k∉ns:=λRs=>by let#[c,hc]:=(mem _).mp Rs;have:=hno _ hc;rw[intKind_is] at this;cases this
  let#[SU,t1,gv,hlay,T1,SC]:=T.lay (hashInt k)^.int k q;let hz1:SU.size=cq+1:=by rw[<- d8,SC.length_eq,aP,d8];rfl
  rw[hlay];dsimp only;show av^ER gv ?_;let fin:∀h' o2 sY MI t2,Heap.SameBut a ap h'->h'.get? a=!o2->o2.ExactSet->o2.data=.set sY MI t2->Tab led sY t2->sY.toList.Perm SU.toList->Q am { s with heap:=h' }:=λh' o2 sY MI t2 sb g2 x2 d2 T2 p2=>by
   let p3:=p2.trans SC;show h am h' sb ?_;rw[if_neg Qk];show#[o2,sY,MI,t2,g2,x2,d2,T2,λe he=>?_,by rw[aP,<- d8,p3.length_eq,aP,d8,hz];rfl,?_,λn=>?_];rcases aR.mp^p3.mem_iff.mp he with he|he;show hI e he;show#[k,q,aC.mp he];rw[fN];show#[nd,by simp,λx hx' y hy e=>Qk (by rw[<- aC.mp hy,<- e];show hx')]
   .rw[aR,aC,mem n];constructor;rintro(⟨c,hc⟩|e);show#[c,p3.mem_iff.mpr^jK _ hc];rw[e];show#[q,p3.mem_iff.mpr^by simp];rintro⟨c,hc⟩;rcases aR.mp^p3.mem_iff.mp hc with hc|hc;show .inl #[c,hc];rw[aC] at hc;have:=congrArg Prod.snd hc;injection this with e1 e2;show .inr e1
  split
  .show av ?_;rw[hashByValue_scannable 8 (x:=.int k q) Y];show aW ?_;erw[plainKind,if_true];show ES ho hx hd T1 ∅ (λb s₁ Q' hq=>?_) λh' o2 sY MI t2 sb g2 x2 d2 T2 p2=>?_
   .cases b<;>first|show aW hq|show wpAny_rule hq
   .show aW^fin h' o2 sY MI t2 sb g2 x2 d2 T2 p2
  .show av^aW ?_;erw[if_true];show ES ho hx hd T1 ∅ (λb s₁ Q' hq=>?_) λh' o2 sY MI t2 sb g2 x2 d2 T2 p2=>?_
   .cases b<;>first|show aW hq|show wpAny_rule hq
   .show aW^fin h' o2 sY MI t2 sb g2 x2 d2 T2 p2
noncomputable def Dd(val:B->Z):B->List Z
 | 0=>[]
 | i+1=>if val i∈Dd val i then Dd val i else Dd val i++[val i]
theorem Ql(val:B->Z)(i:B):(Dd val i).length<=i:=by induction i with grind [Dd]
theorem Qm(val:B->Z)(i:B)(n:Z):n∈Dd val i↔∃j,j<i/\n=val j:=by induction i with grind [Dd]
theorem Qn{G:Array GenState->Array GenState->O}{P:B->J->O}{St:B->aw->O}(W:WalksS prog w A.in1 I fp wr G n P St)(d:ae)(hd:d∉fp)(Sp:B->cv->O)
  (at':∀i h h',Sp i h->(∀b o,b∉wr->h.get? b=!o->h'.get? b=!o)->Sp i h')
  (add:∀(E':J->aw->O) i v (s':aw) (Q:ci->aw->O),i<n->P i v->Sp i d6->(∀b h' tk,s'.toks<=tk->Heap.SameBut d d6 h'->Sp (i+1) h'->Q b { s' with heap:=h',toks:=tk })->wpAny (model prog w) A.in1 (setAdd d v) Q E' s'):
  ∀(m i:B)(s:aw),n-i=m->i<=n->St i s->Sp i ap->(∀s',Moved (d::wr) G s s'->Sp n d6->R (.ok^.ret .none) s') ->
   codeAny (model prog w) A (.builtin "set.update.loop" #[[¬d,¬I],[]]) R s:=by
 let hdw:d∉wr:=λh=>hd^W.sub _ h;let up:∀b∈wr,b∈d::wr:=λb hb=>dz _ hb;intro m;induction m with
 | zero =>
  intro i s em hi st hS hR;obtain rfl:i=n:=∅;show codeAny_builtin PyProof.Rows.F.entry_set_update_loop ?_;rw[kQ PyProof.Rows.F.plain_set_update_loop];show av (m:=pyNext^¬I) (W.done s _ _ st λs' hm=>?_);show aW^hR s' (hm.mono up) (at' _ _ _ hS λb o hb e=>hm.heap b o hb e)
 | succ m ih =>
  intro i s em hi st hS hR;let hlt:i<n:=∅;show codeAny_builtin PyProof.Rows.F.entry_set_update_loop ?_;rw[kQ PyProof.Rows.F.plain_set_update_loop];show av (m:=pyNext^¬I) (W.item i s _ _ hlt st λv s' hP Ts hm=>?_);let No:=at' _ _ _ hS λb o hb e=>hm.heap b o hb e;show av (m:=holding [v]^setAdd d v)^wpAny_holding ?_;show add _ i v s' _ hlt hP No λb h' tk KF sb hSi=>?_;show aW #[plainId_quiet PyProof.Rows.F.plain_set_update_loop _,ih (i+1) _ ∅ hlt (W.frame _ s' _ _ Ts KF λb hb o e=>?_) hSi λs2 KB Yt=>?_];rw[sb.2 b (λz:b=d=>hd (by rw[<- z];show hb))];show e;show hR s2 (Moved.trans W.gtrans ((hm.mono up).then_heap KF λb o hb e=>?_) KB) Yt;rw[sb.2 b (λz:b=d=>hb (by rw[z];show iZ))];show e
def Vv(a:J)
  (h:Q (¬M) { s with heap:=s.heap.push { cls:=.type "set", dict:=none,data:=.set #[] 0 (.fresh 0 0 (not (cT w))) } }):
  codeAny (model prog w) A (.call (.builtin "set.__new__") #[[.type "set", a],[]]) (wants Q E) s:=by
 show codeAny_of_tree ?_;show av (m:=checkBuiltinCall "set.__new__" #[[.type "set", a],[]])^wpAny_of_eq (PySem.F.newCall_set_1 a)^aW #[plainId_quiet F.plain_set_new _,codeAny_builtin F.entry_set_new ?_];rw[kQ F.plain_set_new];unfold Builtin.«set.__new__» Builtin.Frozenset.newClass;let hsub:=sub_set_self;let#[hp,g,d,tk,os]:=s;dsimp only
 wp_walk
 show wpAny_askSetting^aW ?_;dsimp only;erw[newObj];show av^wpAny_alloc^aW^aW ?_;show h
def BI:Tab led #[]^.fresh 0 0 led:=#[Y,Y,by change List.Pairwise _ [];show List.Pairwise.nil,Y]
def ET(e:h.get? a=!{ cls:=.type "set", dict:=none,data:=.set #[] 0 (.fresh 0 0 led) }):Small led h a [] :=
 #[_,#[],0,_,e,#[Y,Y,Y],Y,BI,(λe he=>by simp at he),Y,mT,λn=>by simp]
set_option maxHeartbeats 3200000 in
theorem set_list{XV:Array Value}(hh:A.handled=none)(hl:s.heap.IsList l XV)(Sp:Nat->Heap->Prop)
  (sp0:∀h',(∀b o,s.heap.get? b=!o->h'.get? b=!o)->h'.get? s.heap.objs.size=!{ cls:=.type "set", dict:=none,data:=.set #[] 0 (.fresh 0 0 (not (cT w))) }->Sp 0 h')
  (at':∀i h h',Sp i h->(∀b o,b<=s.heap.objs.size->h.get? b=!o->h'.get? b=!o)->Sp i h')
  (add:∀(A':Around)(E':Value->Shared->Prop) i v (s':Shared) (Q:Bool->Shared->Prop),A'.handled=none->A'.units<=A.units+8->XV[i]?=!v->Sp i s'.heap->(∀b h' tk,s'.toks<=tk->Heap.SameBut s.heap.objs.size s'.heap h'->Sp (i+1) h'->Q b { s' with heap:=h',toks:=tk })->wpAny (model prog w) A' (setAdd s.heap.objs.size v) Q E' s')
  (h:∀(h':Heap)(tk:Nat),Sp XV.size h'->(∀b o,b<s.heap.objs.size->s.heap.get? b=!o->h'.get? b=!o)->Q (¬s.heap.objs.size) { s with heap:=h',toks:=tk }):
  wpAny (model prog w) A (call (.type "set") [¬l]) Q E s:=by
 let#[c0,t0,m0]:=F.called_set.mro;let m1:=F.called_set.made;let m2:=F.called_set.sub;show wpAny_call^codeAny_of_tree ?_;change wpAny _ _ (callAny (.type "set") #[[¬l],[]]) _ _ _;show aW #[Code.quiet_builtin _ (),(codeAny_builtin F.entry_type_call ?_)];rw[Around.under_plain (weight_type_call_type "set" [¬l] []) rfl];let m3:=F.called_set.notType;let m4:=F.called_set.canCreate;let m5:=PySem.F.typeCall_set_1^¬l
 repeat (any_goals (first|assumption|wp_step))
 show codeAny_mono (Vv (¬l) (E:=E) (Q:=λobj z=>obj=¬s.heap.objs.size/\z={ s with heap:=s.heap.push { cls:=.type "set", dict:=none,data:=.set #[] 0 (.fresh 0 0 (not (cT w))) } }) #[rfl,rfl]) λr z hr=>?_;cases r with
 | error e=>show hr
 | ok fl =>
  cases fl with
  | ret obj =>
   let#[rfl,rfl]:=hr;generalize hH:s.heap.push { cls:=.type "set", dict:=none,data:=.set #[] 0 (.fresh 0 0 (not (cT w))) }=H1;let g1:H1.get? s.heap.objs.size=!{ cls:=.type "set", dict:=none,data:=.set #[] 0 (.fresh 0 0 (not (cT w))) }:=by rw[<- hH];show jH _ rfl
   let k1:∀b o,s.heap.get? b=!o->H1.get? b=!o:=λb o e=>by rw[<- hH];show eT _ e
   let z1:H1.objs.size=s.heap.objs.size+1:=by rw[<- hH,fM]
   let ty:Shared.TypeIs { s with heap:=H1 } (¬s.heap.objs.size) "set" := #[_,g1,rfl];let m6:=F.called_set.init.lookup;let m7:=F.called_set.init.bind^¬s.heap.objs.size
   repeat (any_goals (first|assumption|wp_step))
   show codeAny_mono (codeAny_call_builtin (R:=wants (λr z=>r=.none/\∃h' tk,z={ s with heap:=h',toks:=tk }/\Sp XV.size h'/\∀b o,b<s.heap.objs.size->s.heap.get? b=!o->h'.get? b=!o) E)
    F.called_set.init.plain F.entry_set_init^check_set_init_1 ty ?_) λr2 s2 hr2=>?_
   .have Op:H1.IsList l XV:=by let#[ol,e1,e2,n1,e3]:=hl;show#[ol,k1 _ _ e1,e2,n1,e3]
    let#[ol,e1,e2,n1,e3]:=hl;let#[cc,dd,xx,ss]:=ol;simp only at e2 e3;subst e2 e3;let e4:=k1 _ _ e1;let f1:=PySem.F.sub_list_set;let f2:=PySem.F.sub_list_frozenset;let f3:(Value.type "list" == Value.type "dict")=false:=()
    unfold Builtin.«set.__init__» noKeywords Builtin.Frozenset.updateFrom;generalize hp:pyIter=PI
    wp_walk
    subst hp;show wpAny_pyIter_list Op^av^wpAny_runValue ?_;let hlS:l<s.heap.objs.size:=aN e1;let n2:l≠H1.objs.size:=by rw[z1];show aU^jl hlS
    let n3:s.heap.objs.size∉[H1.objs.size,l]:=by rw[z1];intro z;rcases aJ.mp z with z|z;lia;show absurd (aC.mp z)^jQ hlS
    show Qn ((Walks.list (by simp[hh]) _ l n2 XV).toS) s.heap.objs.size n3 Sp (λi h h' q hk=>at' i h h' q λb o hb e=>hk b o (λz=>?_) e) (λE' i v s' Q hi hP hSp hQ=>add _ E' i v s' Q (by simp[hh]) (by erw[Around.in1];lia) hP hSp hQ) (XV.size-0) 0 _ ∅ (aQ _) #[#[_,jH _ rfl,rfl,rfl],(Op.push _)] (sp0 _ (λb o e=>eT _^k1 _ _ e)^eT _ g1) ?_;rw[aC.mp z,z1] at hb;lia;intro s3 hm Yt;let#[h3,g3,d3,t3,o3]:=s3;obtain rfl:g3=s.gens:=hm.gens;obtain rfl:d3=s.drawn:=hm.drawn;obtain rfl:o3=s.os:=hm.os;show aW^aW #[rfl,h3,t3,rfl,Yt,λb o hb e=>?_];show hm.heap b o (λz=>?_)^eT _^k1 _ _ e;rcases aJ.mp z with z|z;show absurd z^aU hb
    .rw[aC.mp z,z1] at hb;lia
   .cases r2 with
    | error e=>show hr2
    | ok f2 =>
     cases f2 with
     | ret r =>
      let#[rfl,h3,t3,rfl,Yt,hk3]:=hr2
      repeat (any_goals (first|assumption|wp_step))
      show h _ _ Yt hk3
     | _=>show hr2.elim
  | _=>show hr.elim
def ints_of{l:List J}(h:∀v∈l,∃n k,v=Value.int n k):∃ns:List Z,IntsAre l ns:=by
 induction l with
 | nil=>show#[[],.nil]
 | cons v l ih =>
  let#[n,k,Y]:=h v (by simp);let#[ns,r]:=ih λu hu=>h u (by simp[hu]);show#[n::ns,.cons n k r]
def Vw{l:List J}(r:IntsAre l ns):∀n,n∈ns↔∃k,Value.int n k∈l:=by
 induction r with
 | nil=>intro n;simp
 | @cons m k l ns _ ih =>
  intro n;rw[aJ,ih n];constructor;rintro(e|⟨c,hc⟩);rw[e];show#[k,by simp];show#[c,by simp[hc]];rintro⟨c,hc⟩;rcases aJ.mp hc with e|hc;cases e;show .inl Y;show .inr #[c,hc]
def Vx:typeLookup (.type "set") "__len__" = pure^!.builtin "set.__len__":=by rw[typeLookup_type,builtinLookup_eq_fast];kernel_rfl
theorem Qo{XV:Array J}{val:B->Z}(hh:A.handled=bc)(hl:s.heap.IsList l XV)(hv:∀(i:B)(v:J),XV[i]?=!v->∃t,v=Value.int (val i) t)(hn:XV.size<=4000)
  (h:∀(h':cv)(tk:B),Small (not (cT w)) h' M^Dd val XV.size->(∀b o,b<M->s.heap.get? b=!o->h'.get? b=!o)->Q (¬M) { s with heap:=h',toks:=tk }):
  wpAny (model prog w) A (call (.type "set") [¬l]) Q E s:=by show set_list hh hl (λi h=>Small (not (cT w)) h M^Dd val i) (λh' z e=>ET e) (λi h h' q hk=>q.at' λo e=>hk _ o (aq _) e) (λA' E' i v s' Q hh' z hi hS hQ=>?_) h;let#[t,Y]:=hv i v hi;unfold setAdd;show wpAny_holding^av^(intKind prog w).pyHash (k:=val i) (intKind_is _ _ _ _) ?_;let hl:=Ql val i;let hlt:=(qF.mp hi).1;show add_int (s:={ s' with toks:=s'.toks+1 }) hS ∅ λb h' sb Yu=>?_;show hQ b h' _ (b9 _) sb Yu
set_option maxHeartbeats 2000000 in
theorem wJ{Q:List Value->Shared->Prop}(hh:A.handled=none)(ho:s.heap.get? a=!o)(hx:o.ExactSet)(hd:o.data=.set es ep t)(T:Tab (not (cT w)) es t)(hsz:es.size<=100000)
  (hQ:∀(s':Shared)(vs:List Value),(∀b x,s.heap.get? b=!x->s'.heap.get? b=!x)->s'.gens=s.gens->s'.os=s.os->s.heap.objs.size<s'.heap.objs.size->vs.Perm^es.toList.map (·.2)->Q vs s'):
  wpAny (model prog w) A (collect^¬a) Q E s:=by
 unfold collect;show av^wpAny_runValue^codeAny_builtin F.entry_proto_collect ?_;rw[kQ F.plain_proto_collect];show av (m:=newList [])^wpAny_newObj_type^aW #[plainId_quiet F.plain_list_iadd _,codeAny_builtin F.entry_list_iadd ?_];rw[kQ F.plain_list_iadd];change wpAny _ A.in1 (Builtin.List.listExtendWith (¬s.heap.objs.size) (¬a)^¬s.heap.objs.size) _ _ _;generalize hH:s.heap.push { cls:=.type "list", data:=.seq ([]:List Value).toArray }=H;let hz:H.objs.size=s.heap.objs.size+1:=by rw[<- hH,fM]
 let hk:∀b x,s.heap.get? b=!x->H.get? b=!x:=λb x e=>by rw[<- hH];show eT _ e
 let hN:H.get? s.heap.objs.size=!{ cls:=.type "list", data:=.seq ([]:List Value).toArray }:=by rw[<- hH];show jH _ rfl
 let hlt:=aN ho;unfold Builtin.List.listExtendWith;show av^wpAny_typeOf (T := "set") #[o,hk _ _ ho,hx.1] ?_;let h1:Builtin.List.listSameRef (¬s.heap.objs.size)^.ref a=false:=by change((s.heap.objs.size==a):Bool)=false;show beq_eq_false_iff_ne.mpr^jQ hlt
 let h2:(Value.type "set" == Value.type "list")=false:=()
 let h3:(Value.type "set" == Value.type "tuple")=false:=()
 erw[h1,h2,h3,Bool.or_false,cJ,if_false];show av (Qj (s:={ s with heap:=H }) (hk _ _ ho) hx hd T hsz λit H2 d2 fp od St Kk Wp hfp Ks W0 st=>av^wpAny_holding ?_);let hao:H2.get? a=!o:=Kk _ _^hk _ _ ho;dsimp only at Kk Wp hfp;unfold Builtin.List.listLengthHint;show av^wpAny_specialOf (T := "set") (v:=¬a) #[o,hao,hx.1] Vx ?_
 wp_delta
 show av^wpAny_isInstance (T := "set") (v:=¬a) (b:=true) #[o,hao,hx.1] (by rw[isSubtype_type];kernel_rfl) ?_;show av (m:=typeOf^¬a)^wpAny_typeOf (T := "set") #[o,hao,hx.1]^aW ?_;rw[if_pos ()];let hnf:s.heap.objs.size∉fp:=λhm=>by rcases hfp _ hm with e|e;show absurd e^jQ hlt;rw[hz] at e;show absurd e^Nat.not_le.mpr^f9 _
 let hn4:od.size<=sizeLine:=by have:=Ks.length_eq;rw[d8,d8] at this;rw[this,sizeLine_eq];lia
 let g1:H2.get? s.heap.objs.size=!{ cls:=.type "list", data:=.seq ([]:List Value).toArray }:=Kk _ _ hN;let g2:=fF (Obj.mapSeq (·.push Value.none)) g1 rfl;let g3:=fF (Obj.mapSeq (·.pop)) g2 rfl;let W:=(W0 A.in1^by simp[hh]).toS;let Ts:St 0 ((H2.update s.heap.objs.size^Obj.mapSeq (·.push Value.none)).update s.heap.objs.size^Obj.mapSeq (·.pop)) :=
  (W0 A.in1^by simp[hh]).frame 0 _ _ st λb hb o e=>by let UV:b≠s.heap.objs.size:=λz=>hnf (by rw[<- z];show hb);rw[iW _ _ _ _ UV,iW _ _ _ _ UV];show e
 show av (m:=rule "list.extend.makes-room")^wpAny_rule^av (m:=Builtin.List.listTouch^¬s.heap.objs.size) ?_;show av (m:=updateSeq s.heap.objs.size (·.push .none))^wpAny_updateSeq g1 rfl^wpAny_updateSeq g2 rfl ?_;show aW #[plainId_quiet F.plain_extend_loop _,codeAny_extend_loopS W hn4 _ hnf _ _ 0 _ _ _ rfl (aQ _) Ts g3 (ItemsOf.nil _) λs' TW c' hm No TB=>?_];show av (m:=load s.heap.objs.size)^wpAny_load No^aW^hQ s' TW.toList (λb x e=>hm.heap b x (λhb=>?_) ?_) hm.gens hm.os (aN No) ?_
 .have hl:=aN e;rcases aJ.mp hb with z|z;rw[z] at hl;show absurd hl^fu _
  .rw[aC.mp z] at hl;rw[hz] at Wp;show absurd (cR hl^Nat.le_of_succ_le Wp)^fu _
 .have hb:=aU^aN e;change((H2.update s.heap.objs.size _).update s.heap.objs.size _).get? b=!x;rw[iW _ _ _ _ hb,iW _ _ _ _ hb];show Kk _ _^hk _ _ e
 .have e:TW.toList=od.toList.map (·.2):=by
   show yy λi=>?_;rw[bB];erw[gR];rcases bR i TW.size with hi|hi
   .let#[e,he,hv]:=TB.2 i TW[i]^iy hi;rw[iy hi,he,hv];rfl
   .rw[wm hi,wm (by rw[<- TB.1];show hi)];rfl
  rw[e];show Ks.map _
theorem sorted_ints(hh:A.handled=bc)(S:Small (not (cT w)) ap a ns)(PP:ns.length<64)
  (h:∀(p:ae)(h':cv)(d':Drawn)(tk:B)(out:Array J)(c:B)(ns':List Z),M<=p->(∀b x,s.heap.get? b=!x->h'.get? b=!x)->h'.get? p=!{ cls:=.type "list", data:=.seq out c }->IntsAre out.toList ns'->(∀n,n∈ns'↔n∈ns)->ns'.Pairwise (· <= ·)->ns'.length=ns.length->Q (¬p) { s with heap:=h',drawn:=d',toks:=tk }):
  wpAny (model prog w) A (call (.builtin "sorted") [¬a]) Q E s:=by
 let#[o,es,ep,t,ho,hx,hd,T,hI0,hz,nd,mem]:=S;show CB kind_sorted plain_sorted entry_sorted (args_sorted1 _) ?_;unfold Builtin.«sorted»;show av (m:=checkCount "sorted" 1 1 _)^aW^av (wJ (by simp[hh]) ho hx hd T ∅ ?_);intro s1 Xt k1 g1 o1 Ig hp;let#[h1,gg,dd,tk1,oo]:=s1;dsimp only at k1 g1 o1 Ig;subst g1 o1;let NM:Xt.length=ns.length:=by rw[hp.length_eq,au,d8,hz]
 let shape:∀v∈Xt,∃n k,v=Value.int n k:=λv hv=>by let#[e,he,Y]:=aG.mp^hp.mem_iff.mp hv;let#[n,k,Y]:=hI0 e he;show#[n,k,Y]
 let#[ms,hI]:=ints_of shape;let hmm:∀n,n∈ms↔n∈ns:=λn=>by rw[Vw hI n,mem n];constructor;rintro⟨k,hk⟩;let#[e,he,ee]:=aG.mp^hp.mem_iff.mp hk;let#[n',k',Y]:=hI0 e he;cases ee;show#[_,he];rintro⟨k,hk⟩;show#[k,hp.mem_iff.mpr^aG.mpr #[_,hk,Y]]
 show av^wpAny_newList ?_ (by rw[NM,sizeLine_eq];lia);let h64:Xt.length<64:=∅;let gN:(h1.push^seqObj "list" Xt.toArray 0).get? eD=!seqObj "list" Xt.toArray 0:=jH _ rfl;show av^wpAny_holding^wpAny_call_entry slot_list_sort #[_,gN,Y] entry_list_sort (list_sort_tree gN hI h64 λout ns' a1 a2 a3=>#[_,Y,?_])^args_list_sort _;let#[c,hc]:=sortedHeap_at (h:=h1.push^seqObj "list" Xt.toArray 0) (a:=eD) (vs:=Xt) (n:=0) (out:=out) gN;let hle:M<=h1.objs.size:=f6 Ig;show aW #[_,Y,h eD _ dd tk1 out c ns' hle (λb x e=>?_) hc a1 (λn=>(a2.mem_iff).trans^hmm n) a3 ?_];let hb:=aN^k1 b x e;rw[sortedHeap_old (aU hb) (by rw[size_push'];show jl hb)];show eT _^k1 b x e;rw[a2.length_eq,<- NM];show(IntsAre.length hI).symm
end SG
namespace SN
open PySem
theorem Qp{xs ys:List Z}(h:xs.Nodup)(q:∀x∈xs,x∈ys):ab<=ys.length:=by
 induction xs generalizing ys with
 | nil=>simp
 | cons x l ih=>have:=@ih^ys.erase x;grind
theorem afA{ms:List Z}(nd:ns.Nodup)(sub:∀n∈ns,n∈ms)(hl:ms.length<=ns.length):ms.Nodup:=by
 induction ms generalizing ns with
 | nil=>simp
 | cons x l ih=>have:=@ih^ns.erase x;have:=@Qp ns l nd;grind
theorem lt_eq{xs ys:List Z}(hx:xs.Pairwise (· < ·))(hy:ys.Pairwise (· < ·))(h:∀n,n∈xs↔n∈ys):xs=ys:=by
 induction xs generalizing ys with
 | nil=>show(List.eq_nil_iff_forall_not_mem.mpr^by grind).symm
 | cons x l ih =>
  cases ys with
  | nil=>have:=h x;grind
  | cons y m =>
   rw[vc] at hx hy;have:=@ih m hx.2 hy.2;have:=h x;have:=h y
   grind
noncomputable def gn(ns:List Z):List Int:=((List.range 8).filter λk:B=>decide ((k:Z)∈ns)).map λk:B=>(k:Z)
def EU(ns:List Z):(gn ns).Pairwise (· < ·):=by unfold gn;rw[oN];show List.Pairwise.imp (λh=>Int.ofNat_lt.mpr h)^List.Pairwise.sublist (List.filter_sublist) (CG)
theorem j6(h:∀n∈ns,0<=n/\n<8)(n:Z):n∈gn ns↔n∈ns:=by unfold gn;erw[aG,eW,gD,decide_eq_true_eq];constructor;rintro⟨k,⟨_,h2⟩,rfl⟩;show h2;intro hn;let#[h0,h8]:=h n hn;show#[n.toNat,#[∅,?_],∅];rw[Int.toNat_of_nonneg h0];show hn
end SN
namespace L2
def BJ(w:cw)(p:ae)(ns:List Z):cv->Prop:=λh=>∃ms:List Z,SG.Small (not (SG.cT w)) h p ms/\∀n,n∈ms↔n∈ns
theorem zA:∀{l:List J}{ns:List Z},IntsAre l ns->Vals (ns.map V.int) l
 | _,_,.nil=>.nil
 | _,_,.cons n t r=>.cons #[t,Y]^zA r
def BT.J2:PySem.bootBuiltins "set" = !.type "set":=()
def BT.sZ:PySem.bootBuiltins "sorted" = !.builtin "sorted":=()
section
variable {U:St}
def Inv.drw(I:Inv X X1 U H s)(d':Drawn):Inv X X1 U H { s with drawn:=d' } :=
 #[I.ok,I.os,I.bare,I.base,I.loc,I.cell,I.free,I.oR,I.pin,I.hok,I.len]
def Ku(K:aB)(w:cw):List V->Hp->VK->Prop:=λxs H Q=>∃(l:ae)(ns:List Z),xs=[¬l]/\bJ K H l^ns.map V.int/\ns.length<=4000/\∀p H',gU H p (.ext (BJ w p ns)) H'->Q (¬p) H'
theorem BK(hc:X.calm=am):fj X (.type "set")^Ku dq X.w:=by
 intro X1 s U H xs us Q I r h;let#[l,ns,Y,hl,h4,q]:=h;let#[u,Y,ru]:=vals1 r;cases ru;let#[vs,rv,#[ol,n0,e1,e2,e3,e4],_]:=I.list hl;let isl:s.heap.IsList l vs.toArray:=#[ol,e1,e2,n0,e4];let hsz:vs.toArray.size=ns.length:=by have:=rv.length;rw[au] at this;rw[bC];show this.symm
 let QR:∀(i:B)(n:Z),ns[i]?=!n->ns.getD i 0=n:=λi n e=>by rw[xV,e];rfl
 show SG.Qo (val:=λi=>ns.getD i 0) (I.ok.hd hc) isl (λi v hv=>?_) ∅ λh' tk hS hk=>?_
 .have hi:i<ns.length:=by have:=(qF.mp hv).1;lia
  let e5:ns[i]?=some ns[i]:=g7 hi;let#[u,hu,t,Y]:=rv.get (i:=i) (x:=.int ns[i]) (by rw[bB,e5];rfl);rw[mS,hu] at hv;cases hv;rw[QR i _ e5];show#[t,Y]
 .show#[¬M,_,I.laid (t':=tk) (λb o e=>hk b o (aN e) e) (aq _) (o:=.ext (BJ X.w s.heap.objs.size ns)) #[#[_,hS,λn=>?_],?_,λh1 h2 hp he=>?_],rfl,q _ _ #[I.hok.fresh^aq _,rfl]];rw[SG.Qm,hsz];constructor;rintro⟨j,hj,rfl⟩;let e5:ns[j]?=some ns[j]:=g7 hj;rw[QR j _ e5];show lD hj;intro hn;let#[j,hj,e5]:=qW.mp hn;show#[j,hj,?_];rw[QR j n^by rw[g7 hj,e5]];let#[o,_,_,_,ho,_]:=hS;show#[o,ho];let#[ms,No,hm]:=hp;show#[ms,No.at' he,hm]
def Ih(w:cw):List V->Hp->VK->Prop:=λxs H Q=>∃(p:ae)(ns:List Z),xs=[¬p]/\H p=!.ext (BJ w p ns)/\(∀ms:List Int,ms.Nodup->(∀n,n∈ms↔n∈ns)->ms.length<64)/\∀(l:List Int)(q:Addr)(H':Hp),l.Pairwise (· < ·)->(∀n:Int,n∈l↔n∈ns)->gU H q (.lst^l.map V.int) H'->Q (¬q) H'
theorem zB(hc:X.calm=am):fj X (.builtin "sorted")^Ih X.w:=by
 intro X1 s U H xs us Q I r h;let#[p,ns,Y,hp,hb,q]:=h;let#[u,Y,ru]:=vals1 r;cases ru;let#[#[ms,hS,hm],_,_]:=I.hok p _ hp;let nd:ms.Nodup:=by let#[_,_,_,_,_,_,_,_,_,_,nd,_]:=hS;show nd
 let hml:=hb ms nd hm;show SG.sorted_ints (I.ok.hd hc) hS hml λa h' d' tk out c ns' hle hk ho hI hmem Qq XB=>?_;let nd':ns'.Nodup:=SN.afA nd (λn hn=>(hmem n).mpr hn) ∅;let hlt:ns'.Pairwise (· < ·):=(Qq.and nd').imp λ⟨h1,h2⟩=>∅;show#[¬a,_,(I.drw d').laid (t':=tk) hk hle (o:=.lst^ns'.map V.int) #[?_,out.toList,c,zA hI,?_],Y,q ns' _ _ hlt (λn=>(hmem n).trans^hm n) #[I.hok.fresh hle,Y]];rw[au,sizeLine_eq];lia;rw[ho,Array.toArray_toList]
def abN(hl:bJ K H l^ns.map V.int)(h4:ns.length<=4000)(h:∀p H',gU H p (.ext (BJ w p ns)) H'->Q (¬p) H'):Ku K w [¬l] H Q:=#[l,ns,rfl,hl,h4,h]
theorem abO(hl:bJ K H l^ns.map V.int)(hb:∀n∈ns,0<=n/\n<8)(h4:ns.length<=4)(h:∀p H',gU H p (.ext (BJ w p ns)) H'->Q (¬p) H'):Ku K w [¬l] H Q:=#[l,ns,rfl,hl,∅,h]
theorem Kv{p:ae}(hp:H p=!.ext (BJ w p ns))(hb:∀n∈ns,0<=n/\n<8)(h:∀q H',gU H q (.lst^(SN.gn ns).map V.int) H'->Q (¬q) H'):Ih w [¬p] H Q:=by
 show#[p,ns,Y,hp,λms nd hm=>?_,λl q H' hlt hmem n=>?_]
 .have:=SN.Qp nd (ys:=[0,1,2,3,4,5,6,7]) λx hx=>by let#[h0,h8]:=hb x^(hm x).mp hx;have:x=0\/x=1\/x=2\/x=3\/x=4\/x=5\/x=6\/x=7:=∅;simpa using this
  simp at this;lia
 .have e:l=SN.gn ns:=SN.lt_eq hlt (SN.EU ns) λn=>(hmem n).trans (SN.j6 hb n).symm;rw[e] at n;show h q H' n
end
end L2
namespace SN
open PySem PySem.W PyProof.Rows
variable {es:Array DictEntry}{ps:List (Z×Z)}
structure Pl (n:Nat) (p:Array Nat):Prop where
 sz:p.size=n
 pm:p.toList.Perm^List.range n
def Pl.get(P:Pl n p)(hi:i<n):p.toList[i]?=!p.getD i 0:=by
 let h:i<p.size:=by rw[P.sz];show hi
 rw[gR,iy h];simp[Array.getD,h]
def Pl.lt{n:B}{p:Array B}(P:Pl n p){i:B}(hi:i<n):p.getD i 0<n:=gD.mp^P.pm.mem_iff.mp^ie^P.get hi
def Pl.inj(P:Pl n p)(hi:i<n)(hj:j<n)(e:p.getD i 0=p.getD j 0):i=j:=by let nd:p.toList.Nodup:=P.pm.nodup_iff.mpr List.nodup_range;let h1:=P.get hi;let h2:=P.get hj;rw[<- e] at h2;show(List.getElem?_inj (fK h1).1 nd).mp^h1.trans h2.symm
def Pl.of{q:Array B}(P:Pl n p)(h:q.Perm p):Pl n q:=#[by rw[h.size_eq];show P.sz,(Array.perm_iff_toList_perm.mp h).trans P.pm]
def Pl.start(n:B):Pl n^List.toArray^List.range n:=#[by simp,qS _]
noncomputable def kv(r:B->Z)(p:Array B)(i:B):Int:=r^p.getD i 0
def Up(r:B->Z)(p:Array B)(k:B):=∀i j,i<j->j<k->kv r p i<kv r p j
def Dn(r:B->Z)(p:Array B)(k:B):=∀i j,i<j->j<k->kv r p j<kv r p i
def Kw{r:B->Z}{q:Array B}(h:p[i]?=q[j]?):kv r p i=kv r q j:=by unfold kv;rw[Array.getD_eq_getD_getElem?,Array.getD_eq_getD_getElem?,h]
section
variable {L9:B->B->(ci->aw->O)->aw->O}{r:B->Z}
def Pl.ne(P:Pl n p)(inj:∀i j,i<n->j<n->r i=r j->i=j)(hi:i<n)(hj:j<n)(h:i≠j):kv r p i≠kv r p j:=λe=>h^P.inj hi hj^inj _ _ (P.lt hi) (P.lt hj) e
theorem Ii(hc:∀i j,i<n->j<n->∀C,C (decide (r i<r j)) s->L9 i j C s)(inj:∀i j,i<n->j<n->r i=r j->i=j)(P:Pl n p){Q:B->aw->O}:∀f k,1<=k->k+f<=n->Up r p k ->
  (∀m,k<=m->m<=k+f->Up r p m->(m<k+f->kv r p m<kv r p (m-1))->Q m s)->(kas_asc p f k).kasWp L9 Q s
 | 0,k,_,_,u,h=>h k (aq _) (aq _) u λz=>absurd z^fu _
 | f+1,k,h1,hn,u,h=>by
  change L9 (p.getD k 0) (p.getD (k-1) 0) _ s;show hc _ _ (P.lt ∅) (P.lt ∅) _ ?_;by_cases hl:r^p.getD k 0<r^p.getD (k-1) 0;rw[decide_eq_true hl];show h k (aq _) ∅ u λq=>hl
  .rw[decide_eq_false hl];show Ii hc inj P f (k+1) ∅ ∅ (λi j hij hj=>?_) λm a b c d=>h m ∅ ∅ c λz=>d ∅;by_cases hk:j<k;show u i j hij hk
   .have e:j=k:=∅;subst e;let ne:=P.ne inj (i:=j) (j:=j-1) ∅ ∅ ∅;let lt:kv r p (j-1)<kv r p j:=by have:Not (kv r p j<kv r p (j-1)):=hl;lia
    by_cases hi:i=j-1;rw[hi];show lt;show Int.lt_trans (u i (j-1) ∅ ∅) lt
theorem Kx(hc:∀i j,i<n->j<n->∀C,C (decide (r i<r j)) s->L9 i j C s)(inj:∀i j,i<n->j<n->r i=r j->i=j)(P:Pl n p){Q:Array B×B×B->aw->O}:∀f k,2<=k->k+f<=n->Dn r p k ->
  (∀m,k<=m->m<=k+f->Dn r p m->Q (p,m,0) s)->(kas_desc f p k 0).kasWp L9 Q s
 | 0,k,_,_,u,h=>h k (aq _) (aq _) u
 | f+1,k,h1,hn,u,h=>by
  change L9 (p.getD k 0) (p.getD (k-1) 0) _ s;show hc _ _ (P.lt ∅) (P.lt ∅) _ ?_;by_cases hl:r^p.getD k 0<r^p.getD (k-1) 0;rw[decide_eq_true hl];show Kx hc inj P f (k+1) ∅ ∅ (λi j hij hj=>?_) λm a b c=>h m ∅ ∅ c;by_cases hk:j<k;show u i j hij hk;let e:j=k:=∅;subst e;let lt:kv r p j<kv r p (j-1):=hl;by_cases hi:i=j-1;rw[hi];show lt;show Int.lt_trans lt (u i (j-1) ∅ ∅)
  .rw[decide_eq_false hl];change L9 (p.getD (k-1) 0) (p.getD k 0) _ s;show hc _ _ (P.lt ∅) (P.lt ∅) _ ?_;let ne:=P.ne inj (i:=k) (j:=k-1) ∅ ∅ ∅;let lt:r^p.getD (k-1) 0<r^p.getD k 0:=by have:Not (kv r p k<kv r p (k-1)):=hl;unfold kv at ne this;lia
   rw[decide_eq_true lt];show h k (aq _) ∅ u
theorem abP{m:B}(P:Pl n p)(hm:m<=n)(d:Dn r p m):Pl n^kas_rev p 0 m/\Up r (kas_rev p 0 m) m:=by
 show#[P.of^mirror_perm _ _ _ _,λi j hij hj=>?_];let at_:∀i,i<m->kv r (kas_rev p 0 m) i=kv r p (m-1-i):=λi hi=>Kw (by
  unfold kas_rev;rw[getElem?_mirror_all (by rw[P.sz];show hm),if_pos #[aQ _,hi]];congr 1;lia)
 rw[at_ i ∅,at_ j hj];show d _ _ ∅ ∅
theorem Qs(hc:∀i j,i<n->j<n->∀C,C (decide (r i<r j)) s->L9 i j C s)(inj:∀i j,i<n->j<n->r i=r j->i=j)(P:Pl n p){m:B}(h1:1<=m)(hm:m<=n)(d:Dn r p m){Q:B×Array B->aw->O}
  (h:∀k q,Pl n q->1<=k->k<=n->Up r q k->Q (k,q) s):(kas_tail3 m n p).kasWp L9 Q s:=by let#[P',u]:=abP P hm d;unfold kas_tail3;rw[KasT.kasWp_bind];show Ii hc inj P' _ _ h1 ∅ u λk a b c z=>h k _ P' ∅ ∅ c
theorem Qt(hc:∀i j,i<n->j<n->∀C,C (decide (r i<r j)) s->L9 i j C s)(inj:∀i j,i<n->j<n->r i=r j->i=j)(P:Pl n p)(h2:2<=n){Q:B×Array B->aw->O}
  (h:∀k q,Pl n q->1<=k->k<=n->Up r q k->Q (k,q) s):(kas_count n p).kasWp L9 Q s:=by unfold kas_count;rw[KasT.kasWp_bind];show Ii hc inj P _ _ (aq _) ∅ (λi j z z=>∅) λm a b c d=>?_;by_cases e:m=n;rw[if_pos^by simp[e]];show h m p P a ∅ c;rw[if_neg^by simp[e]];by_cases g:m>1;rw[if_pos g];change L9 (p.getD 0 0) (p.getD (m-1) 0) _ s;show hc _ _ (P.lt ∅) (P.lt ∅) _ ?_;rw[decide_eq_true^show r^p.getD 0 0<r^p.getD (m-1) 0 from c 0 (m-1) ∅ ∅];show h m p P a ∅ c;rw[if_neg g];let e1:m=1:=∅;subst e1;unfold kas_descPart;rw[KasT.kasWp_bind];show Kx hc inj P _ _ (aq _) ∅ (λi j hij hj=>?_) λk a' b' d'=>?_;let e0:i=0:=∅;let e1:j=1:=∅;subst e0 e1;show d ∅;show Qs hc inj P ∅ ∅ d' h
theorem up_place(hc:∀i j,i<n->j<n->∀C,C (decide (r i<r j)) s->L9 i j C s)(inj:∀i j,i<n->j<n->r i=r j->i=j)(P:Pl n p){k:B}(hk:k<n)(u:Up r p k){Q:B->aw->O}:∀f a b,b-a<=f->a<=b->b<=k->(∀i,i<a->kv r p i<kv r p k)->(∀i,b<=i->i<k->kv r p k<kv r p i) ->
  (∀l,l<=k->(∀i,i<l->kv r p i<kv r p k)->(∀i,l<=i->i<k->kv r p k<kv r p i)->Q l s)->(kas_place p k f a b).kasWp L9 Q s
 | 0,a,b,hf,SF,hb,lo,hi,h=>by
  let e:a=b:=∅;subst e;show h a hb lo hi
 | f+1,a,b,hf,SF,hb,lo,hi,h=>by
  unfold kas_place;by_cases g:a>=b;rw[if_pos g];let e:a=b:=∅;subst e;show h a hb lo hi
  .rw[if_neg g];change L9 (p.getD k 0) (p.getD ((a+b) / 2) 0) _ s;show hc _ _ (P.lt hk) (P.lt ∅) _ ?_;let ne:=P.ne inj (i:=k) (j:=(a+b) / 2) hk ∅ ∅;by_cases hl:r^p.getD k 0<r^p.getD ((a+b) / 2) 0;rw[decide_eq_true hl];let FS:kv r p k<kv r p ((a+b) / 2):=hl;show up_place hc inj P hk u f a ((a+b) / 2) ∅ ∅ ∅ lo (λi h1 h2=>?_) h;by_cases e:i=(a+b) / 2;rw[e];show FS;show Int.lt_trans FS (u _ i ∅ h2)
   .rw[decide_eq_false hl];let FS:kv r p ((a+b) / 2)<kv r p k:=by have:Not (kv r p k<kv r p ((a+b) / 2)):=hl;lia
    show up_place hc inj P hk u f ((a+b) / 2+1) b ∅ ∅ hb (λi h1=>?_) hi h;by_cases e:i=(a+b) / 2;rw[e];show FS;show Int.lt_trans (u i _ ∅ ∅) FS
theorem Qu(hc:∀i j,i<n->j<n->∀C,C (decide (r i<r j)) s->L9 i j C s)(inj:∀i j,i<n->j<n->r i=r j->i=j){Q:Array B->aw->O}(h:∀q,Pl n q->Up r q n->Q q s):∀f k (p:Array B),Pl n p->k+f=n->Up r p k->(kas_bin f p k).kasWp L9 Q s
 | 0,k,p,P,e,u=>h p P (by rw[<- e];show u)
 | f+1,k,p,P,e,u=>by
  unfold kas_bin;rw[KasT.kasWp_bind];show up_place hc inj P (k:=k) ∅ u k 0 k ∅ (aQ _) (aq _) (λi hi=>absurd hi^fz _) (λi h1 h2=>absurd h2 ∅) λl hl lo hi=>?_;show Qu hc inj h f (k+1) _ (P.of^bubble_perm _ _ _) ∅ λi j hij hj=>?_;let at_:∀i,kv r (bubble p k (k-l)) i=if i=l then kv r p k else if l<i/\i<=k then kv r p (i-1) else kv r p i:=λi=>by let g:=getElem?_bubble (xs:=p) (src:=k) (by rw[P.sz];lia) (k-l) ∅ i;rw[show k-(k-l)=l by lia] at g;split at g;rw[if_pos^by assumption];show Kw g;rw[if_neg^by assumption];split at g;rw[if_pos^by assumption];show Kw g;rw[if_neg^by assumption];show Kw g
  rw[at_ i,at_ j]
  repeat' split
  all_goals first
   | (exfalso;lia)
   | show lo _ ∅
   | show hi _ ∅ ∅
   | show u _ _ ∅ ∅
theorem Vy(hc:∀i j,i<n->j<n->∀C,C (decide (r i<r j)) s->L9 i j C s)(inj:∀i j,i<n->j<n->r i=r j->i=j)(h2:2<=n){Q:Array B->aw->O}(h:∀q,Pl n q->Up r q n->Q q s):(kas_sort n).kasWp L9 Q s:=by unfold kas_sort;rw[KasT.kasWp_bind];show Qt hc inj (Pl.start n) h2 λk q P h1 hk u=>?_;by_cases g:k<n;rw[if_pos g];show Qu hc inj h _ _ q P ∅ (by rw[Nat.max_eq_left h1];show u);rw[if_neg g];let e:k=n:=∅;show h q P (by rw[<- e];show u)
end
open PySem.Spec
def lW(h:cv)(d:ae)(es:Array DictEntry)(ep:B):=∃o,h.get? d=!o/\o.ExactDict/\o.data=.dict es ep
def lW.at'(x:lW h d es ep)(e:∀o,h.get? d=!o->h'.get? d=!o):lW h' d es ep:=let⟨o,ho,r⟩:=x;#[o,e _ ho,r]
def lW.ty(x:lW ap d es ep):s.TypeIs (¬d) "dict" := let⟨o,ho,hx,_⟩:=x;#[o,ho,hx.1]
def EV{Q:J->aw->O}(hs:(d==sysModules)=bo)(x:lW ap d es ep)
  (hQ:Q (¬M) { s with heap:=s.heap.push { cls:=.type "dict_keyiterator", data:=.fields #v[¬d,.int 0 0,.int cq 0,.int ep 0] } }):wpAny (model prog w) A (pyIter^¬d) Q E s:=by let ty:=x.ty;let#[o,ho,_,hd]:=x;show wpAny_pyIter_slot ty F.slot_dict_iter^wpAny_call_entry F.slot_dict_iter ty F.entry_dict_iter ?_^F.args_dict_iter_1 _;unfold Builtin.«dict.__iter__» Builtin.Dict.dictSlotNone;show av (av^wpAny_notOrdered_dict ty^show wpAny _ _ (pure^Value.ref d) _ _ s from aW ?_);change wpAny _ _ (Builtin.Dict.showsAll d >>= _) _ _ s;unfold Builtin.Dict.showsAll;rw[hs,if_neg oB];show av^aW^av^wpAny_dictEntries ho hd^av^wpAny_dictEpoch ho hd^av^wpAny_newObj_type^aW #[_,Y, "dict_keyiterator", _,#[_,jH _ rfl,Y],F.slot_dict_keyiterator_next.lookup,?_];simpa[rawInt] using hQ
theorem tD{Q:Option J->aw->O}(hh:A.handled=bc)(Wp:s.heap.IsKeyIter it d i cq ep)(x:lW ap d es ep)
  (hQ:∀e,es[i]?=!e->∀h',h'.IsKeyIter it d (i+1) cq ep->Heap.SameBut it ap h'->Q (!e.key) { s with heap:=h' })
  (hN:es[i]?=bc->∀h',Heap.ExtBut it ap h'->Q bc { s with heap:=h' }):wpAny (model prog w) A (pyNext^¬it) Q E s:=by
 let ty:=Wp.typeIs;let#[o,ho,hc,hf]:=Wp;let#[od,hod,_,BL]:=x;unfold pyNext;show av^wpAny_attempt^wpAny_callSpecial?_slot (name:=Str.ofString "__next__") ty F.slot_dict_keyiterator_next^wpAny_call_entry F.slot_dict_keyiterator_next ty F.entry_dict_keyiterator_next ?_^F.args_dict_keyiterator_next_1 _;show av^aW^av^av ?_
 first|show av (wpAny_typeNameOfWhole_keyiter ty^aW^av^wpAny_fieldsOf ho hf ?_)|show av^wpAny_typeNameOf_keyiter ty^aW^av^wpAny_fieldsOf ho hf ?_
 rw[show Builtin.Dict_items.ownsTuple "dict_keyiterator" = false by decide];erw[cJ,if_false];change wpAny _ _ (if(Value.ref d==Value.none)=am then _ else _) _ _ s;rw[if_neg^show Not ((Value.ref d==Value.none)=am) from oB];show av^aW^av^wpAny_dictEntries hod BL ?_;rw[if_neg^by simp];show av^aW^av^wpAny_dictEpoch hod BL ?_;rw[if_neg^by simp];show aW ?_;cases he:es[i]? with
 | some e =>
  erw[show Not ((i:Z)<0) by lia,if_false,iX,he];show av ?_
  first|show av (wpAny_typeNameOfWhole_keyiter ty^aW^av^wpAny_isOneOf_keyiter ty ?_)|show av^wpAny_typeNameOf_keyiter ty^aW^av^wpAny_isOneOf_keyiter ty ?_
  change wpAny _ _ (setField (¬it) 1 (rawInt ((i:Z)+1)) >>= _) _ _ s;let zf:(s.heap.update it^Obj.mapFields (·.setIfInBounds 1 (rawInt ((i:Z)+1)))).IsKeyIter it d (i+1) cq ep :=
   #[_,fF _ ho^jR^eU hf _,(mV ..).trans hc,by rw[eU hf];simp[rawInt]]
  show av^wpAny_setField ho hf (by simp)^av^wpAny_holding ?_;show av (wpAny_isOneOf_keyiter (s:={ s with heap:=s.heap.update it (Obj.mapFields (·.setIfInBounds 1 (rawInt ((i:Z)+1)))) }) zf.typeIs^show wpAny _ _ (pure e.key) _ _ _ from ?_);show aW^aW #[_,Y,aW^hQ e he _ zf (lz ..)]
 | none =>
  erw[show Not ((i:Z)<0) by lia,if_false,iX,he];show av ?_
  first|show av (wpAny_typeNameOfWhole_keyiter ty^aW ?_)|show av^wpAny_typeNameOf_keyiter ty^aW ?_
  change wpAny _ _ (setField (¬it) 0 .none >>= _) _ _ s;show av^wpAny_setField ho hf (by simp) (SG.sX (show A.in1.handled=bc from hh) λh' e o k he' hc=>av^wpAny_isInstance (T := "StopIteration") (b:=true) #[_,he',hc] isSubtype_stop^aW (hN he h' λb x hb e=>k _ _^(lz ..).extBut b x hb e))
def MJ(hh:A.handled=bc)(I d:ae)(UV:d≠I)(es:Array DictEntry)(ep:B):Walks prog w A I [I,d] [I] cq (λi v=>∃e,es[i]?=!e/\v=e.key) (λi h=>h.IsKeyIter I d i cq ep/\lW h d es ep) where
 sub:=λb hb=>by simp at hb;simp[hb]
 frame:=λz z z st hk=>#[st.1.at λo e=>hk I (by simp) o e,st.2.at' λo e=>hk d (by simp) o e]
 item:=λi s Q E hi st hQ=>by show tD hh st.1 st.2 (λe e1 h' h1 h2=>hQ _ h' s.toks #[_,e1,Y] #[h1,st.2.at' λo e=>h2.extBut d o UV e] λb o hb e=>h2.extBut b o (λh=>hb^by simp[h]) e) λh=>by rw[iy hi] at h;cases h
 done:=λs Q E st hQ=>tD hh st.1 st.2 (λe h=>by rw[wm^aq _] at h;cases h) λz h' h1=>hQ h' s.toks λb o hb e=>h1 b o (λh=>hb^by simp[h]) e
 self:=λz z z z st hQ=>wpAny_pyIter_keyiter st.1 hQ
def Vz(lo:(d==sysModules)=bo):KdlSrc prog w "dict" d d cq (λi v=>∃e,es[i]?=!e/\v=e.key) (λh=>lW h d es ep) where
 type:=λz x=>x.ty
 there:=λz x=>#[let⟨_,ho,_⟩:=x;aN ho,let⟨_,ho,_⟩:=x;aN ho]
 keep:=λz z x hk=>x.at' λo e=>hk d (.inl Y) o e
 notList:=()
 notTuple:=()
 hint:=λz z z z x hq=>kdl_hint_dict x.ty hq
 iter:=λz s hh x=>#[_,_,(λz z hq=>EV lo x hq),MJ hh _ d (let⟨_,ho,_⟩:=x;aU^aN ho) es ep,#[#[_,jH _ rfl,Y,Y],x.at' λo e=>eT _ e]]
def Qv(hh:A.handled=bc)(lo:(d==sysModules)=bo)(x:lW ap d es ep)(hz:cq<=sizeLine)
  (hR:∀h' tk Xt c,(∀b o,s.heap.get? b=!o->h'.get? b=!o)->h'.get? M=!{ cls:=.type "list", dict:=none,data:=.seq Xt c,slots:=#[] }->ItemsOf (λi v=>∃e,es[i]?=!e/\v=e.key) Xt cq->R (.ok^.ret^¬M) { s with heap:=h',toks:=tk }):
  codeAny (model prog w) A (.builtin "proto.collect" #[[¬d],[]]) R s:=by show codeAny_builtin F.entry_proto_collect ?_;rw[kQ F.plain_proto_collect];let hlt:d<s.heap.objs.size:=let⟨_,ho,_⟩:=x;aN ho;show av (m:=newList [])^wpAny_newObj_type^aW #[plainId_quiet F.plain_list_iadd _,codeAny_builtin F.entry_list_iadd ?_];rw[kQ F.plain_list_iadd];change wpAny _ A.in1 (Builtin.List.listExtendWith (¬M) (¬d)^¬M) _ _ _;show kdl_extend (s:={ s with heap:=s.heap.push { cls:=.type "list", data:=.seq ([]:List J).toArray } }) (R:=R) (Vz lo) hh (x.at' λo e=>eT _ e) M (jQ hlt) (jQ hlt) _ 0 (jH _ rfl) (λh' tk Xt c hk hS TB=>hR h' tk Xt c (λb o e=>hk b o (aU^aN e)^eT _ e) hS TB) hz
def EW{Q:List J->aw->O}(hh:A.handled=bc)(lo:(d==sysModules)=bo)(x:lW ap d es ep)(hz:cq<=sizeLine)
  (hQ:∀h' tk Xt,(∀b o,s.heap.get? b=!o->h'.get? b=!o)->M<dA->ItemsOf (λi v=>∃e,es[i]?=!e/\v=e.key) Xt cq->Q Xt.toList { s with heap:=h',toks:=tk }):wpAny (model prog w) A (collect^¬d) Q E s:=by unfold collect;show av^wpAny_runValue (Qv hh lo x hz λh' tk Xt c hk hS TB=>?_);show av (m:=load M)^wpAny_load hS^aW^hQ h' tk Xt hk (aN hS) TB
abbrev kC(h:cv):List J->List (Z×Z)->Prop:=Paired λv p=>∃x o n t u,v=¬x/\h.get? x=!o/\o.cls=.type "tuple" /\ o.data=.seq #v[.int p.1 t,.int p.2 u] n
noncomputable def rk(p:Z×Z):Int:=p.1*1000+p.2
theorem afB{a b c d:Z}(h1:0<=b/\b<1000)(h2:0<=d/\d<1000):decide (rk (a,b)<rk (c,d))=if a=c then decide (b<d) else decide (a<c):=by unfold rk;dsimp only;split;rw[decide_eq_decide];lia;rw[decide_eq_decide];lia
theorem abQ{p q:Z×Z}(h1:0<=p.2/\p.2<1000)(h2:0<=q.2/\q.2<1000)(e:rk p=rk q):p=q:=by let#[a,b]:=p;let#[c,d]:=q;unfold rk at e;dsimp only at *;let e1:a=c:=∅;let e2:b=d:=∅;rw[e1,e2]
theorem VA{x y:ae}{ox oy:du}{a b c d:Z}{t1 t2 t3 t4:Tok}{Q:ci->aw->O}(hx:s.heap.get? x=!ox)(dx:ox.data=.seq #v[.int a t1,.int b t2] n)(hy:s.heap.get? y=!oy)(dy:oy.data=.seq #v[.int c t3,.int d t4] k)
  (h:Q (if a=c then decide (b<d) else decide (a<c)) s):wpAny (model prog w) A (keyLt' (tuples' am) (¬x)^¬y) Q E s:=by show kat_lt hx dx hy dy^kat_cons^wpAny_eqBool_int ?_;by_cases e:a=c;rw[if_pos e] at h;rw[show(a==c)=am by simpa using e];show kat_yes^kat_cons^wpAny_eqBool_int ?_;by_cases e2:b=d;rw[show(b==d)=am by simpa using e2];rw[decide_eq_false ∅] at h;show kat_yes^kat_nil h;rw[show(b==d)=bo by simpa using e2];show kat_no^kat_one _ _^PyProof.Rows.lt_int h;rw[if_neg e] at h;rw[show(a==c)=bo by simpa using e];show kat_no^oneLt_int h
def VB(hp:kC h vs ps):∃fs:List J,KatTups h vs fs/\fs.length=cn/\∀v∈fs,∃i t,v=Value.int i t:=by
 induction hp with
 | nil=>show#[[],.nil,Y,λv hv=>nomatch hv]
 | cons z _ ih =>
  let#[x,o,n,t,u,e,h1,h2,h3]:=z;let#[fs,a1,a2,a3]:=ih;subst e;show#[_::fs,KatTups.cons h1 h2 h3 Y a1,by simp[a2],λv hv=>?_];rcases aJ.mp hv with e|hv;show#[_,_,e];show a3 v hv
def Qw(hp:kC h vs ps):∀{i:B},i<cn->∃x o n t u,vs.getD i Value.none=¬x/\h.get? x=!o/\o.data=.seq #v[.int (ps.getD i (0,0)).1 t,.int (ps.getD i (0,0)).2 u] n:=by
 induction hp with
 | nil=>show λ{i} hi=>absurd hi^fz _
 | cons z _ ih =>
  intro i hi;cases i with
  | zero =>
   let#[x,o,n,t,u,e,h1,h2,h3]:=z;show#[x,o,n,t,u,e,h1,h3]
  | succ i =>
   let#[x,o,n,t,u,h]:=ih (i:=i) (by simpa using hi);show#[x,o,n,t,u,by simpa using h]
def kC.keep(x:kC h vs ps)(k:∀b o,o.cls=.type "tuple" -> h.get? b=!o->h'.get? b=!o):kC h' vs ps:=L2.Paired.LU x λv p ⟨x,o,n,t,u,e,h1,h2,h3⟩=>#[x,o,n,t,u,e,k _ _ h2 h1,h2,h3]
theorem VC:∀{vs:List J},dv<2->(vs.toArray.zip vs.toArray).map (·.2)=List.toArray ((List.toArray^List.range dv).toList.map λi=>vs.getD i Value.none)
 | [],_=>by simp
 | [v],_=>by simp[ve]
 | _::_::_,h=>by erw[bW] at h;lia
set_option maxHeartbeats 1000000 in
theorem EX{r:Nat->Int}{P:PySem.Fin->Shared->Prop}(ho:s.heap.get? a=!seqObj "list" vs.toArray n)(h64:vs.length<64)
  (hT:∀G:Heap,(∀b o vs' n',o.cls=.type "tuple" -> o.data=.seq vs' n'->s.heap.get? b=!o->G.get? b=!o)->∃fs:List Value,KatTups G vs fs/\fs.length=vs.length/\∀v∈fs,∃i t,v=Value.int i t)
  (hc:∀G:Heap,(∀b o vs' n',o.cls=.type "tuple" -> o.data=.seq vs' n'->s.heap.get? b=!o->G.get? b=!o)->∀i j,i<vs.length->j<vs.length->∀(E':Value->Shared->Prop)(C:Bool->Shared->Prop),C (decide (r i<r j)) { s with heap:=G }->wpAny (model prog w) A (keyLt' (tuples' true) (vs.getD i Value.none)^vs.getD j Value.none) C E' { s with heap:=G })
  (inj:∀i j,i<vs.length->j<vs.length->r i=r j->i=j)
  (h:∀q:Array Nat,Pl vs.length q->Up r q vs.length->P (.done^.ret .none) { s with heap:=sortedHeap s.heap a vs (List.toArray (q.toList.map λi=>vs.getD i Value.none)) }):
  wpAny (model prog w) A (Builtin.«list.sort» #[[¬a],[]]) P E s:=by
 let ha:a<s.heap.objs.size:=aN ho;obtain⟨e1,ho1⟩:∃e1,(s.heap.update a (Obj.mapSeq λx=>#[])).get? a=some (seqObj "list" #[] e1):=#[_,get?_update_seq ho (λx=>#[])];let kp:∀b o,b≠a->s.heap.get? b=!o->(((s.heap.update a (Obj.mapSeq λx=>#[])).push^seqObj "tuple" vs.toArray 0).push^seqObj "list" #[] 0).get? b=!o:=λb o hba e=>eT _^eT _^(iW _ _ _ _ hba).trans e;let ho6:(((s.heap.update a (Obj.mapSeq λx=>#[])).push^seqObj "tuple" vs.toArray 0).push^seqObj "list" #[] 0).get? a=!seqObj "list" #[] e1:=eT _^eT _ ho1;rw[list_sort_plain];show av^listItems_at ho rfl^av^listUpdate_at ho rfl ?_ (by rw[bC,sizeLine_eq];lia)^aQ _;show av^seqEpoch_at ho1 rfl^av^wpAny_newTuple ?_ (by change vs.length<=_;rw[sizeLine_eq];lia);show av^wpAny_newList (wpAny_holding ?_)^aQ _;change wpAny (model prog w) A _ P E { s with heap:=((s.heap.update a (Obj.mapSeq λx=>#[])).push (seqObj "tuple" vs.toArray 0)).push (seqObj "list" #[] 0) };let KG:∀b o vs' n',o.cls=.type "tuple" -> o.data=.seq vs' n'->s.heap.get? b=!o->(((s.heap.update a (Obj.mapSeq λx=>#[])).push^seqObj "tuple" vs.toArray 0).push^seqObj "list" #[] 0).get? b=!o:=λb o x x hc x e=>kp b o (λz=>by subst z;rw[ho] at e;cases e;show absurd (show Value.type "list" = .type "tuple" from hc) ()) e;let uh:∀out,((((s.heap.update a (Obj.mapSeq λx=>#[])).push^seqObj "tuple" vs.toArray 0).push^seqObj "list" #[] 0)).update a (Obj.mapSeq λx=>out)=sortedHeap s.heap a vs out:=λx=>rfl;generalize (((s.heap.update a (Obj.mapSeq λx=>#[])).push^seqObj "tuple" vs.toArray 0).push^seqObj "list" #[] 0)=G at *;dsimp only;let fin:∀q:Array Nat,Pl vs.length q->Up r q vs.length->P (.done^.ret .none) { s with heap:=G.update a (Obj.mapSeq λx=>List.toArray (q.toList.map λi=>vs.getD i Value.none)) }:=λq hq u=>by rw[uh];show h q hq u
 by_cases h2:vs.toArray.size<2
 .rw[if_pos h2,if_pos h2];show av^aW ?_;rw[StateT.run_pure];show av^aW^av^seqEpoch_at ho6 rfl^av^listUpdate_at ho6 rfl ?_ (aQ _) ?_
  .erw[bne_self_eq_false,cJ,if_false];have:=fin (List.toArray^List.range vs.length) (Pl.start _) (λi j hij hj=>by rw[bC] at h2;lia);let e:(arrOf^SortSt.mk' general' (vs.toArray.zip vs.toArray) #[] 7 none).map (·.2)=List.toArray ((List.toArray^List.range vs.length).toList.map λi=>vs.getD i Value.none):=by show VC (by rw[bC] at h2;show h2)
   rw[e];show aW this
  .change((vs.toArray.zip vs.toArray).map _).size<=_;rw[Array.size_map,Array.size_zip,bC,sizeLine_eq];lia
 .have h2':2<=vs.length:=by rw[bC] at h2;lia
  rw[if_neg h2,if_neg h2];let#[fs,k1,k2,k3]:=hT G KG;show av (kat_kind (T:=.type "int") k1 ∅ (λv hv=>by let#[i,t,rfl]:=k3 v hv;show Looks.of_pure rfl) rfl ?_);let kd:((Value.type "int") != (Value.type "tuple"))=true:=()
  rw[kd];show av (wpAny_mono (kat_run (prog:=prog) (w:=w) (A:=A) (κ:=tuples' true) (vs:=vs) (ks:=vs) (Q:=λTs s'=>s'={ s with heap:=G }/\failedOf Ts=none/\∃q,Pl vs.length q/\Up r q vs.length/\(arrOf Ts).map (·.2)=List.toArray (q.toList.map λi=>vs.getD i Value.none))
   (G:=λq s'=>s'={ s with heap:=G }/\Pl vs.length q/\Up r q vs.length) rfl h2' ∅ (λq Ts s' x har hf hg=>#[hg.1,hf,q,hg.2.1,hg.2.2,kat_snds rfl har]) ?_) ?_ λx x e=>e)
  .show Vy (r:=r) (λi j hi hj C hC=>?_) inj ∅ λq hq u=>#[rfl,hq,u];show hc G KG i j hi hj _ C hC
  .rintro⟨⟨⟩,Ts⟩ s' ⟨rfl,hf,q,hq,u,eo⟩;dsimp only;show av^seqEpoch_at ho6 rfl^av^listUpdate_at ho6 rfl ?_ (aQ _) ?_;rw[hf];erw[bne_self_eq_false,cJ,if_false];rw[eo];show aW^fin q hq u;rw[eo,bC,au,d8,hq.sz,sizeLine_eq];lia
theorem EY{P:PySem.Fin->aw->O}(ho:s.heap.get? a=!seqObj "list" vs.toArray n)(hP:kC ap vs ps)(hb:∀p∈ps,0<=p.2/\p.2<1000)(nd:ps.Nodup)(h64:cn<64)
  (h:∀q:Array B,Pl cn q->(∀i j,i<j->j<cn->rk^ps.getD (q.getD i 0) (0,0)<rk^ps.getD (q.getD j 0) (0,0))->P (.done^.ret .none) { s with heap:=sortedHeap ap a vs (List.toArray (q.toList.map λi=>vs.getD i Value.none)) }):
  wpAny (model prog w) A (Builtin.«list.sort» #[[¬a],[]]) P E s:=by
 let XB:dv=ps.length:=hP.length;let PG:∀G:cv,(∀b o vs' n',o.cls=.type "tuple" -> o.data=.seq vs' n'->s.heap.get? b=!o->G.get? b=!o)->kC G vs ps:=λG k=>L2.Paired.LU hP λv p ⟨x,o,n,t,u,e,h1,h2,h3⟩=>#[x,o,n,t,u,e,k _ _ _ _ h2 h3 h1,h2,h3];let mem:∀i,i<cn->ps.getD i (0,0)∈ps:=λi hi=>by rw[xV,g7 hi];show lD hi
 show EX (r:=λi=>rk^ps.getD i (0,0)) ho ∅ (λG k=>by rw[XB];show VB^PG G k) (λG k i j hi hj E' C hC=>?_) (λi j hi hj e=>?_) λq hq u=>?_;rw[XB] at hi hj;let#[x,ox,n1,t1,u1,ex,gx,dx]:=Qw (PG G k) hi;let#[y,oy,n2,t2,u2,ey,gy,dy]:=Qw (PG G k) hj;rw[ex,ey];show VA (s:={ s with heap:=G }) gx dx gy dy ?_;rw[<- afB (hb _^mem i hi) (hb _^mem j hj)];show hC;rw[XB] at hi hj;let e2:=abQ (hb _^mem i hi) (hb _^mem j hj) e;rw[xV,g7 hi,xV,g7 hj] at e2;show(yF nd).mp e2;rw[XB] at hq u;show h q hq u
theorem Ij{Q:J->aw->O}(hh:A.handled=bc)(lo:(d==sysModules)=bo)(x:lW ap d es ep)(hP:kC ap (es.toList.map (·.key)) ps)(hb:∀p∈ps,0<=p.2/\p.2<1000)(nd:ps.Nodup)(h64:cn<64)
  (h:∀(p:ae)(h':cv)(tk c:B)(q:Array B),M<=p->(∀b x,s.heap.get? b=!x->h'.get? b=!x)->h'.get? p=!{ cls:=.type "list", data:=.seq (List.toArray (q.toList.map λi=>(es.toList.map (·.key)).getD i Value.none)) c }->Pl cn q->(∀i j,i<j->j<cn->rk^ps.getD (q.getD i 0) (0,0)<rk^ps.getD (q.getD j 0) (0,0))->Q (¬p) { s with heap:=h',toks:=tk }):
  wpAny (model prog w) A (call (.builtin "sorted") [¬d]) Q E s:=by
 let hes:cq=ps.length:=by have:=hP.length;rw[au,d8] at this;show this
 show CB kind_sorted plain_sorted entry_sorted (args_sorted1 _) ?_;unfold Builtin.«sorted»;show av (m:=checkCount "sorted" 1 1 _)^aW^av^EW (by simp[hh]) lo x (by rw[hes,sizeLine_eq];lia) ?_;intro h1 tk1 Xt k1 Ig XV;let abR:Xt.toList=es.toList.map (·.key):=by
  apply yy;intro i;rcases bR i es.size with hi|hi
  .have He:i<Xt.size:=by rw[XV.1];show hi
   let#[e,he,ee]:=XV.2 i Xt[i]^iy He;rw[gR,iy He,bB,gR,he,ee];rfl
  .rw[iY (by rw[d8,XV.1];show hi),iY (by rw[au,d8];show hi)]
 rw[abR];let Os:(es.toList.map (·.key)).length=ps.length:=hP.length;let hP1:kC h1 (es.toList.map (·.key)) ps:=hP.keep λb o z e=>k1 b o e;generalize es.toList.map (·.key)=vs at *;show av^wpAny_newList ?_ (by rw[Os,sizeLine_eq];lia);let gN:(h1.push^seqObj "list" vs.toArray 0).get? eD=!seqObj "list" vs.toArray 0:=jH _ rfl;show av^wpAny_holding^wpAny_call_entry slot_list_sort #[_,gN,Y] entry_list_sort (EY gN (hP1.keep λb o z e=>eT _ e) hb nd h64 λq hq u=>#[_,Y,?_])^args_list_sort _;let#[c,hc]:=sortedHeap_at (h:=h1.push^seqObj "list" vs.toArray 0) (a:=eD) (vs:=vs) (n:=0) (out:=List.toArray (q.toList.map λi=>vs.getD i Value.none)) gN;show aW #[_,Y,h eD _ tk1 c q (f6 Ig) (λb x e=>?_) hc hq u];let hb:=aN^k1 b x e;rw[sortedHeap_old (aU hb) (by rw[size_push'];show jl hb)];show eT _^k1 b x e
end SN
namespace L2
variable {p q:Z×Z}{ps:List (Z×Z)}
abbrev o5(H:Hp):List V->List (Z×Z)->Prop:=Paired λv p=>∃a,v=¬a/\H a=!.tup [.int p.1,.int p.2]
def tE{α β:Type}{F:α->β->O}{l₁:List α}{l₂:List β}(hp:Paired F l₁ l₂):∀{i:B}{x:α},l₁[i]?=!x->∃y,l₂[i]?=!y/\F x y:=by
 induction hp with
 | nil=>show λ{i x} e=>by simp at e
 | cons h _ ih =>
  intro i x e;cases i with
  | zero=>cases e;show#[_,Y,h]
  | succ i=>show ih e
noncomputable def AM(p:Z×Z):List Key:=[.inl p.1,.inl p.2]
def VD(e:AM p=AM q):p=q:=by let#[a,b]:=p;let#[c,d]:=q;unfold AM at e;dsimp only at e;injection e with e1 e2;injection e1 with e1;injection e2 with e2 _;injection e2 with e2;rw[e1,e2]
section
variable {U:St}
def Inv.pair(I:Inv X X1 U H s)(h:H a=!.tup [.int p.1,.int p.2]):∃o n t u,s.heap.get? a=!o/\o.cls=.type "tuple" /\ o.data=.seq #v[.int p.1 t,.int p.2 u] n:=by
 let#[_,XL,r,o,h1,h2,n,h3]:=(show dS bj cr H ap a^.tup [.int p.1,.int p.2] from I.hok a _ h);cases r with
 | cons r1 r =>
  cases r with
  | cons r2 r =>
   cases r;let#[t,Y]:=r1;let#[u,Y]:=r2;show#[o,n,t,u,h1,h2,h3]
noncomputable def T6(h:cv)(p:Z×Z):J->ci
 | .ref a=>match h.get? a with
  | some o=>match o.data with
   | .seq XL _=>match XL.toList with
    | [.int i _,.int j _]=>decide ((i,j)=p)
    | _=>false
   | _=>false
  | none=>false
 | _=>false
def Qx{o:du}{t u:Tok}(e:h.get? a=!o)(d:o.data=.seq #v[.int p.1 t,.int p.2 u] n):T6 h q^.ref a=decide (p=q):=by unfold T6;dsimp only;rw[e];dsimp only;rw[d]
def MK{oa ob:du}{m:B}{t1 t2 u1 u2:Tok}(ea:s.heap.get? a=!oa)(ca:oa.cls=.type "tuple")(da:oa.data=.seq #v[.int p.1 t1,.int p.2 t2] n)(eb:s.heap.get? b=!ob)(cb:ob.cls=.type "tuple")(db:ob.data=.seq #v[.int q.1 u1,.int q.2 u2] m)(hu:A.units+1<cLine):
  SeqAt.EqAt A s (¬a) (¬b) (decide (p=q)):=by
 let ra:Reads ap (¬a) (.tuple [.int p.1,.int p.2]) _:=.tuple ea ca da (by simpa using ReadsAll.cons (.int p.1 t1)^.cons (.int p.2 t2) .nil);let rb:Reads ap (¬b) (.tuple [.int q.1,.int q.2]) _:=.tuple eb cb db (by simpa using ReadsAll.cons (.int q.1 u1)^.cons (.int q.2 u2) .nil);let e:PyData.eqv (.tuple [.int p.1,.int p.2])^.tuple [.int q.1,.int q.2]=decide (p=q):=by let#[a,b]:=p;let#[c,d]:=q;change((a==c)&&((b==d)&&true))=_;by_cases h1:a=c;by_cases h2:b=d;subst h1 h2;simp;simp[h2];simp[h1]
 rw[<- e];show SeqAt.eqAt_reads _ _ A s _ _ _ _ ra rb Y rfl hu
def Ky(I:Inv X X1 U H s)(q:Z×Z)(hp:o5 H xs ps)(hv:Vals xs us):us.any^T6 ap q=decide (q∈ps):=by
 induction hp generalizing us with
 | nil=>cases hv;simp
 | @cons _ p _ ps z _ ih =>
  let#[a,e,h]:=z;cases hv with
  | cons rv rs =>
  subst e;cases rv;let#[o,n,t,u,h1,h2,h3]:=I.pair h;rw[lA,Qx h1 h3,ih rs];by_cases e:p=q;simp[e];let e':Not (q=p):=λz=>e z.symm;simp[e,e']
def Qy(I:Inv X X1 U H s)(hu:A.units+1<cLine)(hb:H b=!.tup [.int q.1,.int q.2]):∀{xs:List V}{ps:List (Z×Z)}{us:List J},o5 H xs ps->Vals xs us->∀u∈us,SeqAt.EqAt A s u (¬b)^T6 ap q u:=by
 intro xs ps us hp rv;induction hp generalizing us with
 | nil=>cases rv;show λu hm=>nomatch hm
 | cons z r ih =>
  cases rv with
  | cons rv rs =>
   intro u hm;let#[a,e,h]:=z;rcases aJ.mp hm with z|z
   .subst z e;cases rv;let#[o,n,t,u,h1,h2,h3]:=I.pair h;let#[o',n',t',u',h1',h2',h3']:=I.pair hb;rw[Qx h1 h3];show MK h1 h2 h3 h1' h2' h3' hu
   .show ih rs u z
def ML(K:aB)(neg:ci):R2:=λx y H Q=>∃(b l:ae)(q:Z×Z)(xs:List V)(ps:List (Z×Z)),x=¬b/\y=¬l/\H b=!.tup [.int q.1,.int q.2]/\bJ K H l xs/\o5 H xs ps/\Q (.bl (if neg then not (decide (q∈ps)) else decide (q∈ps))) H
theorem Ik(hu:X.A.units+64<cLine):kO X (compareOp .In)^ML dq false:=by intro X1 s U H x y v u Q I rx ry h;let#[b,l,q,xs,ps,Y,Y,hb,hl,hp,k]:=h;cases rx;cases ry;let#[XL,r,pl,hz]:=I.list hl;show SeqAt.in_listAt (T6 ap q) pl.isList (λw hw=>Qy I (by change X.A.units+1+1<cLine;lia) hb hp r w^by simpa using hw) #[.bl _,H,I,Y,?_];rw[show XL.toArray.any^T6 ap q=XL.any (T6 ap q) by simp,Ky I q hp r];show k
theorem MM(hu:X.A.units+64<cLine):kO X (compareOp .NotIn)^ML dq true:=by intro X1 s U H x y v u Q I rx ry h;let#[b,l,q,xs,ps,Y,Y,hb,hl,hp,k]:=h;cases rx;cases ry;let#[XL,r,pl,hz]:=I.list hl;show SeqAt.notIn_listAt (T6 ap q) pl.isList (λw hw=>Qy I (by change X.A.units+1+1<cLine;lia) hb hp r w^by simpa using hw) #[.bl _,H,I,Y,?_];rw[show XL.toArray.any^T6 ap q=XL.any (T6 ap q) by simp,Ky I q hp r];show k
def Kz(e:dq=K)(hu:X.A.units+64<cLine):kO X (compareOp .In)^ML K false:=e▸Ik hu
def Il(e:dq=K)(hu:X.A.units+64<cLine):kO X (compareOp .NotIn)^ML K true:=e▸MM hu
def Qz:List V->Hp->VK->Prop:=λxs H Q=>∃(d:ae)(ps:List (Z×Z))(f:Z×Z->V),xs=[¬d]/\H d=!.dT (ps.map λp=>(AM p,f p))/\(∀p∈ps,0<=p.2/\p.2<1000)/\cn<64 /\
 ∀l us qs H',gU H l (.lst us) H'->o5 H us qs->qs.Perm ps->qs.Pairwise (λp q=>SN.rk p<SN.rk q)->Q (¬l) H'
def range_getD{α:Type}(d:α):∀xs:List α,(List.range ab).map (λi=>xs.getD i d)=xs:=λxs=>by apply yy;intro i;rw[bB];rcases bR i xs.length with h|h;rw[List.getElem?_range h];simp[h];rw[iY^by simpa using h,iY h];rfl
theorem Im(hc:X.calm=am):fj X (.builtin "sorted") Qz:=by
 intro X1 s U H xs us Q I r h;let#[d,ps,f,Y,hd,hb,h64,k]:=h;let#[u,Y,ru]:=vals1 r;cases ru;let#[z,lo,ys,WP,o,es,ep,h1,h2,h3,h4,h5]:=(show dS bj cr H ap d^.dT (ps.map λp=>(AM p,f p)) from I.hok d _ hd);let hkeys:es.toList.map (·.key)=(ys.map (·.2.1)).map Value.ref:=by rw[h4,gC,gC];rfl
 let QR:∀{ps:List (Z×Z)}{ys:List (List Key×ae×J)},Paired (λ(p:List Key×V)(q:List Key×ae×J)=>p.1=q.1/\H q.2.1=!.tup^p.1.map kV/\RelV p.2 q.2.2) (ps.map λp=>(AM p,f p)) ys->Paired (λ(a:ae)(p:Z×Z)=>H a=!.tup [.int p.1,.int p.2]) (ys.map (·.2.1)) ps/\ys.map (·.1)=ps.map AM:=by
  intro ps;induction ps with
  | nil=>intro ys r;cases r;show#[.nil,Y]
  | cons p ps ih =>
   intro ys r;cases r with
   | cons hq t =>
    let#[a1,a2]:=ih t;show#[.cons hq.2.1 a1,by rw[cu,cu,a2,<- hq.1]]
 let#[abS,alm]:=QR WP;let nd:ps.Nodup:=by rw[alm] at h5;show(oN.mp h5).imp λh e=>h (by rw[e])
 let hP:SN.kC ap (es.toList.map (·.key)) ps:=by
  rw[hkeys];let go:∀{as:List ae}{ps:List (Z×Z)},Paired (λ(a:ae)(p:Z×Z)=>H a=!.tup [.int p.1,.int p.2]) as ps->SN.kC ap (as.map Value.ref) ps:=by
   intro as ps r;induction r with
   | nil=>show .nil
   | cons h _ ih =>
    let#[o,n,t,u,a1,a2,a3]:=I.pair h;show .cons #[_,o,n,t,u,Y,a1,a2,a3] ih
  show go abS
 let EZ:=abS.length;show SN.Ij (I.ok.hd hc) lo #[o,h1,h2,h3] hP hb nd h64 λp h' tk c q hle hk ho hq hup=>?_;rw[hkeys] at ho;generalize hA:ys.map (·.2.1)=as at *;let hget:∀i,i<cn->(as.map Value.ref).getD i Value.none=Value.ref^as.getD i 0/\H^as.getD i 0=!.tup [.int (ps.getD i (0,0)).1,.int (ps.getD i (0,0)).2]:=λi hi=>by let He:i<as.length:=∅;let#[b,hb1,hb2]:=tE abS (i:=i) (x:=as[i])^g7 He;erw[xV,bB,g7 He,hb1,Option.map_some,Option.getD_some];show#[trivial,hb2]
 let hmem:∀i∈q.toList,i<ps.length:=λi hi=>gD.mp^hq.pm.mem_iff.mp hi;let wK:∀{l:List B},(∀i∈l,i<cn)->Vals (l.map λi=>V.ref^as.getD i 0) (l.map λi=>(as.map Value.ref).getD i Value.none)/\o5 H (l.map λi=>V.ref^as.getD i 0) (l.map λi=>ps.getD i (0,0)):=by
  intro l;induction l with
  | nil=>intro _;show#[.nil,.nil]
  | cons i l ih =>
   intro hl;let#[a1,a2]:=ih λj hj=>hl j^dz _ hj;let#[b1,b2]:=hget i (hl i^by simp);rw[cu,cu,cu];show#[.cons ?_ a1,.cons #[_,Y,b2] a2];rw[b1];rfl
 let#[v1,v2]:=wK hmem;show#[¬p,_,I.laid (t':=tk) hk hle (o:=.lst (q.toList.map λi=>V.ref^as.getD i 0)) #[?_,_,c,v1,ho],Y,k p _ (q.toList.map λi=>ps.getD i (0,0)) _ #[I.hok.fresh hle,Y] v2 ?_ ?_];rw[au,d8,hq.sz,sizeLine_eq];lia;have:=hq.pm.map λi=>ps.getD i (0,0);rw[range_getD] at this;show this
 .rw[oN,oM];intro i j hi hj hij;let hql:q.toList.length=ps.length:=by rw[d8,hq.sz]
  let g1:=hq.get (i:=i) ∅;let g2:=hq.get (i:=j) ∅;rw[g7 hi] at g1;rw[g7 hj] at g2;rw[Option.some.inj g1,Option.some.inj g2];show hup i j hij ∅
end
section
variable {nx bk ct:St->Hp->O}{U:St}
def KA(hb:H b=!.tup [.int q.1,.int q.2])(hl:bJ K H l xs)(hp:o5 H xs ps)(h:Q (.bl (decide (q∈ps))) H):ML K bo (¬b) (¬l) H Q:=#[b,l,q,xs,ps,Y,Y,hb,hl,hp,h]
def QA(hb:H b=!.tup [.int q.1,.int q.2])(hl:bJ K H l xs)(hp:o5 H xs ps)(h:Q (.bl (not (decide (q∈ps)))) H):ML K am (¬b) (¬l) H Q:=#[b,l,q,xs,ps,Y,Y,hb,hl,hp,h]
def VE{f:Z×Z->V}(hd:H d=!.dT (ps.map λp=>(AM p,f p)))(hb:∀p∈ps,0<=p.2/\p.2<1000)(h64:cn<64)
  (h:∀l us qs H',gU H l (.lst us) H'->o5 H us qs->qs.Perm ps->qs.Pairwise (λp q=>SN.rk p<SN.rk q)->Q (¬l) H'):Qz [¬d] H Q:=#[d,ps,f,Y,hd,hb,h64,h]
def aiW(h:∀p H',gU H p (.dT []) H'->Q (¬p) H'):Pb U H Q:=λp hp=>h p _ #[hp,Y]
theorem afC{kvs:List (List Key×V)}{k:List Key}{R:Hp->O}(hd:H a=!.dT kvs)(hb:H b=!.tup^k.map kV)(hz:ce<=1000000)(h:∀H',nU H a (.dT^putK kvs k v) H'->R H'):rDP v (¬a) (¬b) H R :=
 #[a,_,Y,L8.t hd hb (by rw[sizeLine_eq];lia),h _ rfl]
def aln{i:Z}(hd:H a=!.dK kvs)(h:Q (.bl (not ((dI kvs^.inl i).isSome))) H):afo (.int i) (¬a) H Q:=#[a,_,Y,.inl #[kvs,.inl i,.inl hd,Y,Y],h]
end
def Io(e:dq=K)(e2:cr=w)(hc:X.calm=am):fj X (.type "set")^Ku K w:=e▸e2▸BK hc
def E1(e2:cr=w)(hc:X.calm=am):fj X (.builtin "sorted")^Ih w:=e2▸zB hc
section
variable {nx bk ct:St->Hp->O}{U:St}
end
end L2
namespace HM
variable {k y:bV}{v:J}{x:ae}{Q:ci->aw->O}{t:SetTable}{ks:List bV}
abbrev gA:=Option (Z×Z)
abbrev bV:=Z×Option (Z×Z)
def iA(h:cv):gA->J->O
 | none,v=>∃t,v=.str "mark" t
 | some p,v=>∃a o n t u,v=¬a/\h.get? a=!o/\o.cls=.type "tuple" /\ o.data=.seq #v[.int p.1 t,.int p.2 u] n
def cP(h:cv)(k:bV)(a:ae):=∃o n t v,h.get? a=!o/\o.cls=.type "tuple" /\ o.data=.seq #v[.int k.1 t,v] n/\iA h k.2 v
noncomputable def oq:gA->PyData
 | none=>.str "mark"
 | some p=>.tuple [.int p.1,.int p.2]
noncomputable def De(k:bV):PyData:=.tuple [.int k.1,oq k.2]
def VF:PyData.strOk "mark" = true:=()
def yc(k:gA):(oq k).canLay0=true:=by cases k<;>simp[oq,PyData.canLay0,PyData.canLayAll0,VF]
def KC(k:bV):(De k).canLay0=true:=by simp[De,PyData.canLay0,PyData.canLayAll0,yc]
def vJ(k:gA):(oq k).depth<=1:=by cases k<;>simp[oq,PyData.depth,PyData.depthAll]
theorem MN(k:bV):(De k).depth<=2:=by have:=vJ k.2;erw[De,PyData.depth,PyData.depthAll];lia
def QB(p q:Z×Z):PyData.eqv (.tuple [.int p.1,.int p.2])^.tuple [.int q.1,.int q.2]=decide (p=q):=by let#[a,b]:=p;let#[c,d]:=q;change((a==c)&&((b==d)&&true))=_;by_cases h1:a=c;by_cases h2:b=d;subst h1 h2;simp;simp[h2];simp[h1]
def Df(x y:gA):PyData.eqv (oq x)^oq y=decide (x=y):=by
 cases x with
 | none =>
  cases y with
  | none=>change(("mark" : ax) == "mark")=_;simp
  | some q=>simp[oq,PyData.eqv]
 | some p =>
  cases y with
  | none=>simp[oq,PyData.eqv]
  | some q =>
   change PyData.eqv (.tuple [.int p.1,.int p.2])^.tuple [.int q.1,.int q.2]=_;rw[QB];by_cases e:p=q;simp[e];simp[e]
def VG(x y:bV):PyData.eqv (De x)^De y=decide (x=y):=by let#[p,a]:=x;let#[q,b]:=y;change((p==q)&&(PyData.eqv (oq a)^oq b&&true))=_;rw[Df];by_cases h1:p=q;by_cases h2:a=b;subst h1 h2;simp;simp[h2];simp[h1]
def iA.reads{k:gA}(x:iA h k v):Reads h v (oq k) []:=by
 cases k with
 | none=>let#[t,Y]:=x;show .str _ _
 | some p =>
  let#[a,o,n,t,u,Y,h1,h2,h3]:=x;show .tuple h1 h2 h3 (by simpa using ReadsAll.cons (.int p.1 t)^.cons (.int p.2 u) .nil)
theorem cP.reads(x:cP h k a):Reads h (¬a) (De k) []:=by let#[o,n,t,v,h1,h2,h3,h4]:=x;show .tuple h1 h2 h3 (by simpa using ReadsAll.cons (.int k.1 t)^.cons h4.reads .nil)
def iA.stay{k:gA}(x:iA h k v)(e:∀b o vs n,o.cls=.type "tuple" -> o.data=.seq vs n->h.get? b=!o->h'.get? b=!o):iA h' k v:=by
 cases k with
 | none=>show x
 | some p =>
  let#[a,o,n,t,u,e1,h1,h2,h3]:=x;show#[a,o,n,t,u,e1,e _ _ _ _ h2 h3 h1,h2,h3]
theorem cP.stay(x:cP h k a)(e:∀b o vs n,o.cls=.type "tuple" -> o.data=.seq vs n->h.get? b=!o->h'.get? b=!o):cP h' k a:=by let#[o,n,t,v,h1,h2,h3,h4]:=x;show#[o,n,t,v,e _ _ _ _ h2 h3 h1,h2,h3,h4.stay e]
theorem iA.inj{x y:gA}(a:iA h x v)(b:iA h y v):x=y:=by
 cases x with
 | none =>
  let#[t,Y]:=a;cases y with
  | none=>rfl
  | some q=>let#[_,_,_,_,_,e,_]:=b;cases e
 | some p =>
  let#[a1,o,n,t,u,Y,h1,h2,h3]:=a;cases y with
  | none=>let#[_,e]:=b;cases e
  | some q =>
   let#[a2,o2,n2,t2,u2,e,g1,g2,g3]:=b;cases e;rw[h1] at g1;cases g1;rw[h3] at g3;let e1:=congrArg Array.toList (Data.seq.inj g3).1;erw[List.cons.injEq,Value.int.injEq] at e1;let#[#[e1,_],#[e2,_],_]:=e1;show congrArg some^Prod.ext e1 e2
theorem cP.inj{x:bV}(hx:cP h x a)(hy:cP h y a):x=y:=by let#[o,n,t,v,h1,h2,h3,h4]:=hx;let#[o2,n2,t2,v2,g1,g2,g3,g4]:=hy;rw[h1] at g1;cases g1;rw[h3] at g3;let e:=Data.seq.inj g3;let e1:=congrArg Array.toList e.1;erw[List.cons.injEq,Value.int.injEq] at e1;let#[#[e1,_],e2,_]:=e1;subst e2;have:=h4.inj g4;let#[p,a]:=x;let#[q,b]:=y;show Prod.ext e1 this
theorem abT{x y:gA}(hu:A.units+1<cLine)(hx:iA ap x u)(hy:iA ap y v)(h:Q (decide (x=y)) s):wpAny (model prog w) A (eqBool u v) Q E s:=by show SeqAt.eqBoolOverData prog w A E s u v (oq x) (oq y) [] [] Q hx.reads hy.reads (yc x) (yc y) ?_ (by rw[Df];show h);have:=vJ x;lia
theorem Ip{x:bV}(hu:A.units+2<cLine)(hx:cP ap x a)(hy:cP ap y b)(h:Q (decide (x=y)) s):wpAny (model prog w) A (eqBool (¬a)^¬b) Q E s:=by show SeqAt.eqBoolOverData prog w A E s _ _ (De x) (De y) [] [] Q hx.reads hy.reads (KC x) (KC y) ?_ (by rw[VG];show h);have:=MN x;lia
noncomputable def tF(prog:de)(w:cw):gA->Z
 | none=>(strKind prog w).hash "mark"
 | some p=>tupleKeyHash (intKind prog w) [p.1,p.2]
def tG:gA->B
 | none=>1
 | some _=>3
noncomputable def aX(prog:de)(w:cw)(k:bV):Int:=reduceHash^Builtin.Tuple.tupleHashOf [(intKind prog w).hash k.1,tF prog w k.2]
def QC{o:du}{p:Z×Z}{t u:Tok}(h1:h.get? a=!o)(h2:o.cls=.type "tuple")(h3:o.data=.seq #v[.int p.1 t,.int p.2 u] n):IsTupleKey (intKind prog w) h [p.1,p.2] a :=
 #[o,_,n,h1,h2,h3,.cons (intKind_is _ _ _ _)^.cons (intKind_is _ _ _ _) .nil]
def QD{k:gA}{Q:Z->aw->O}(hu:A.units<cLine)(hk:iA ap k v)(h:Q (tF prog w k) { s with toks:=s.toks+tG k }):wpAny (model prog w) A (pyHash v) Q E s:=by
 cases k with
 | none =>
  let#[t,Y]:=hk;show(strKind prog w).pyHash (k := "mark") (strKind_is _ _ _ _) h
 | some p =>
  let#[a,o,n,t,u,Y,h1,h2,h3]:=hk;show wpAny_pyHash_tuple hu (QC h1 h2 h3) h
theorem E9{Q:Z->aw->O}(hu:A.units+1<cLine)(hk:cP ap k a)(h:Q (aX prog w k) { s with toks:=s.toks+(1+tG k.2+1) }):wpAny (model prog w) A (pyHash^¬a) Q E s:=by
 let#[o,n,t,v,ho,hc,hd,hv]:=hk;let hT:s.TypeIs (¬a) "tuple" := #[o,ho,hc];unfold pyHash
 first|unfold pyHashByItsType|skip
 first|show av (wpAny_cRoomFor_or (.inr ∅) ?_)|skip
 show av^wpAny_specialOf hT F.slot_tuple_hash.lookup ?_;change wpAny _ _ (if(some^Value.builtin "tuple.__hash__"==!Value.none)=am then _ else _) Q E s;rw[if_neg (by rw[beq_builtin_none];show oB)];show av^wpAny_specialOf hT F.slot_tuple_hash.lookup ?_;change wpAny _ _ (callSpecialIfBoundUnlessNone? (¬a) "__hash__" _ >>= _) Q E s;show av^wpAny_callSpecialIfBoundUnlessNone?_slot hT F.slot_tuple_hash^wpAny_call_entry F.slot_tuple_hash hT F.entry_tuple_hash ?_^F.args_tuple_hash_1 _;change wpAny _ _ (Builtin.Tuple.tupleItemsOf (¬a) >>= _) _ _ s;show av^wpAny_tupleItemsOf ho hd ?_;show av ?_;rw[<- wk];change wpAny _ _ (forIn [Value.int k.1 t,v] _ _) _ _ _;rw[qT];show av^av^(intKind prog w).pyHash (k:=k.1) (intKind_is _ _ _ _) ?_;show av^aW^aW ?_;dsimp only;rw[qT];show av^av^QD (k:=k.2) (by erw[Around.in1];lia) hv ?_;show av^aW^aW ?_;dsimp only;rw[List.forIn_nil];show aW ?_;change wpAny _ _ (retInt^Builtin.Tuple.tupleHashOf [(intKind prog w).hash k.1,tF prog w k.2]) _ _ _;show wpAny_ret_mkInt ?_;change wpAny _ _ (if(decide (-(2:Z) ^ 63<=Builtin.Tuple.tupleHashOf [(intKind prog w).hash k.1,tF prog w k.2])&&decide (Builtin.Tuple.tupleHashOf [(intKind prog w).hash k.1,tF prog w k.2]<2 ^ 63))=am then _ else _) Q E _;unfold aX reduceHash at h;split;ext hr;rw[if_pos hr] at h;show aW (by simpa[oO] using h);ext hr;rw[if_neg hr] at h;show av (wpAny_rule^aW^by simpa[oO] using h)
def MO{k:gA}(hk:iA ap k v)(h:Q am s):wpAny (model prog w) A (eqIsQuiet (n+1) v) Q E s:=by
 cases k with
 | none =>
  let#[t,Y]:=hk;rw[eqIsQuiet_byValue _ rfl];show aW h
 | some p =>
  let#[a,o,m,t,u,Y,h1,h2,h3]:=hk;let hT:s.TypeIs (¬a) "tuple" := #[o,h1,h2];unfold eqIsQuiet;show av^wpAny_specialOf hT F.slot_tuple_eq.lookup ?_;change wpAny _ _ (isInstance (¬a) (.type "tuple") >>= _) _ _ s;show av^wpAny_isInstance hT isSubtype_tuple_tuple ?_;erw[ig,cJ,if_false];show av^wpAny_seqItems h1 h3 ?_;show av ?_;change wpAny _ _ (forIn #v[Value.int p.1 t,Value.int p.2 u] _ _) _ _ s;rw[<- wk];show wpAny_forIn_list _ (λrest r s'=>r.1=bc/\s'=s/\∀v∈rest,carriedByValue v=am) _ ?_ ?_ _ _ #[Y,Y,λv hv=>by simp at hv;rcases hv with e|e<;>rw[e]<;>rfl];rintro v rest r s' ⟨hr,rfl,U2⟩;rw[eqIsQuiet_byValue _^U2 v iZ];show av^aW ?_;erw[ig,cJ,if_false];show aW #[Y,Y,λu Fb=>U2 u^dz _ Fb];rintro⟨r1,r2⟩ s' ⟨hr,rfl,_⟩;simp only at hr;subst hr;show aW h
def vK(hk:cP ap k a)(h:Q am s):wpAny (model prog w) A (eqIsQuiet 8^¬a) Q E s:=by
 let#[o,n,t,v,ho,hc,hd,hv]:=hk;let hT:s.TypeIs (¬a) "tuple" := #[o,ho,hc];unfold eqIsQuiet;show av^wpAny_specialOf hT F.slot_tuple_eq.lookup ?_;change wpAny _ _ (isInstance (¬a) (.type "tuple") >>= _) _ _ s;show av^wpAny_isInstance hT isSubtype_tuple_tuple ?_;erw[ig,cJ,if_false];show av^wpAny_seqItems ho hd ?_;show av ?_;change wpAny _ _ (forIn #v[Value.int k.1 t,v] _ _) _ _ s;rw[<- wk];show wpAny_forIn_list _ (λrest r s'=>r.1=bc/\s'=s/\∀u∈rest,(∃i t,u=Value.int i t)\/iA ap k.2 u) _ ?_ ?_ _ _ #[Y,Y,λu hu=>by simp at hu;rcases hu with e|e;show .inl #[_,_,e];show .inr (e▸hv)]
 .rintro u rest r s' ⟨hr,rfl,U2⟩;show av ?_;let go:wpAny (model prog w) A (eqIsQuiet 7 u) (λb s2=>b=am/\s2=s') E s':=by rcases U2 u iZ with⟨i,t,rfl⟩|hu;rw[eqIsQuiet_byValue _ rfl];show aW #[Y,Y];show MO (n:=6) hu #[Y,Y]
  show wpAny_mono go (λb s2=>?_) λz z x=>x;rintro⟨rfl,rfl⟩;erw[ig,cJ,if_false];show aW #[Y,Y,λu Fb=>U2 u^dz _ Fb]
 .rintro⟨r1,r2⟩ s' ⟨hr,rfl,_⟩;simp only at hr;subst hr;show aW h
noncomputable def iN(prog:de)(w:cw):HeapKind prog w bV where
 is:=cP
 hash:=aX prog w
 draws:=λk=>1+tG k.2+1
 room:=λA=>A.units+2<cLine
 inj:=λhx hy=>hx.inj hy
 keeps:=λx ho hd hs=>x.stay λb u vs n hc IH e=>by rw[hs.2 b (λz=>by subst z;rw[ho] at e;cases e;rw[hd] at IH;cases IH)];show e
 pyHash:=λhu hk h=>E9 ∅ hk h
 eqBool:=λhu hx hy h=>Ip hu hx hy h
 quiet:=λhk h=>vK hk h
noncomputable def sq(x:Z):B->B×B
 | 0=>(SetTable.bits x % 8,SetTable.bits x)
 | n+1=>(((sq x n).1*5+1+(sq x n).2 / 32) % 8,(sq x n).2 / 32)
theorem Yv(x:Z):∀n,(sq x n).1<8
 | 0=>Nat.mod_lt _ ()
 | n+1=>Nat.mod_lt _ ()
theorem Fc(x:Z):∀n,(sq x n).2*32 ^ n<2 ^ 64
 | 0=>by
  change SetTable.bits x*1<_;unfold SetTable.bits;lia
 | n+1=>by
  let ih:=Fc x n;change(sq x n).2 / 32*32 ^ (n+1)<_;let h:(sq x n).2 / 32*32<=(sq x n).2:=Nat.div_mul_le_self _ _;let h2:(sq x n).2 / 32*32 ^ (n+1)=((sq x n).2 / 32*32)*32 ^ n:=by rw[Nat.pow_succ,Nat.mul_assoc,Nat.mul_comm (32 ^ n) 32]
  rw[h2];show mU (Nat.mul_le_mul_right _ h) ih
theorem VH(x:Z)(n:B)(h:13<=n):(sq x n).2=0:=by
 let h1:=Fc x n;rcases vg (sq x n).2 with e|hp;show e
 .have h2:32 ^ 13<=32 ^ n:=Nat.pow_le_pow_right () h;let h3:1*32 ^ n<=(sq x n).2*32 ^ n:=Nat.mul_le_mul_right _ hp;let h4:(32:B) ^ 13=2 ^ 65:=()
  lia
def nh(x:Z)(n:B)(h:13<=n):(sq x (n+1)).1=((sq x n).1*5+1) % 8:=by change((sq x n).1*5+1+(sq x n).2 / 32) % 8=_;rw[VH x n h]
def abU(x:Z)(j:B)(hj:j<8):∃n,n<=20/\(sq x n).1=j:=by
 let h0:=Yv x 13;let e1:=nh x 13 ();let e2:=nh x 14 ();let e3:=nh x 15 ();let e4:=nh x 16 ();let e5:=nh x 17 ();let e6:=nh x 18 ();let e7:=nh x 19 ();let cyc:∀(a j:Fin 8),j.val=a.val\/j.val=(a.val*5+1) % 8\/j.val=((a.val*5+1) % 8*5+1) % 8\/j.val=(((a.val*5+1) % 8*5+1) % 8*5+1) % 8\/j.val=((((a.val*5+1) % 8*5+1) % 8*5+1) % 8*5+1) % 8 \/
   j.val=(((((a.val*5+1) % 8*5+1) % 8*5+1) % 8*5+1) % 8*5+1) % 8\/j.val=((((((a.val*5+1) % 8*5+1) % 8*5+1) % 8*5+1) % 8*5+1) % 8*5+1) % 8\/j.val=(((((((a.val*5+1) % 8*5+1) % 8*5+1) % 8*5+1) % 8*5+1) % 8*5+1) % 8*5+1) % 8:=()
 have:=cyc #[(sq x 13).1,h0] #[j,hj];dsimp only at this;rw[<- e1,<- e2,<- e3,<- e4,<- e5,<- e6,<- e7] at this;rcases this with e|e|e|e|e|e|e|e;show#[13,(),e.symm];show#[14,(),e.symm];show#[15,(),e.symm];show#[16,(),e.symm];show#[17,(),e.symm];show#[18,(),e.symm];show#[19,(),e.symm];show#[20,(),e.symm]
noncomputable def MP(x:Z)(n:B):SetTable.Probe:={ j:=(sq x n).1,more:=0,i:=(sq x n).1,perturb:=(sq x n).2,dummy:=none }
theorem MQ(h:t.mask=7)(x:Z):t.probeStart x=MP x 0:=by
 unfold SetTable.probeStart MP sq;rw[h];let hl:SetTable.bits x % 8<8:=Nat.mod_lt _ ();let e:SetTable.runEnd 7 (SetTable.bits x % 8)-SetTable.bits x % 8=0:=by unfold SetTable.runEnd;rw[if_neg ∅];lia
 change SetTable.Probe.mk _ _ _ _ _=_;rw[show(7:B)+1=8 from Y,e]
theorem Fd(h:t.mask=7)(x:Z)(n:B):t.advance^MP x n=MP x (n+1):=by
 unfold SetTable.advance;rw[if_neg (by change Not (0>0);lia)];unfold SetTable.leap;rw[h];dsimp only;let hl:=Yv x (n+1);let e1:((MP x n).i*5+1+(MP x n).perturb / 32) % (7+1)=(sq x (n+1)).1:=rfl;let e2:(MP x n).perturb / 32=(sq x (n+1)).2:=rfl;rw[e1,e2];let e:SetTable.runEnd 7 (sq x (n+1)).1-(sq x (n+1)).1=0:=by unfold SetTable.runEnd;rw[if_neg ∅];lia
 rw[e];rfl
def tH(hs:t.place.toList.Pairwise (· < ·))(hd:t.dummies=#[])(j:B):(t.slot j=.empty/\∀i:B,t.place[i]?≠!j)\/∃i,t.slot j=.live i/\t.place[i]?=!j:=by
 cases e:t.slot j with
 | empty=>show .inl #[Y,λi hi=>SG.rA hs e i j hi Y]
 | dummy =>
  exfalso;unfold SetTable.slot at e;dsimp only at e;rw[SG.sV hd] at e;split at e<;>cases e
 | live i =>
  show .inr #[i,Y,?_];unfold SetTable.slot at e;dsimp only at e;split at e;ext h;cases e;simpa using h;split at e<;>cases e
theorem BN(hs:t.place.toList.Pairwise (· < ·))(hd:t.dummies=#[])(h:t.place[i]?=!j):t.slot j=.live i:=by
 rcases tH hs hd j with⟨_,e⟩|⟨k,e1,e2⟩;show absurd h^e i
 .have:k=i:=by
   rw[<- gR] at h e2;let#[a1,b1]:=fK h;let#[a2,b2]:=fK e2;rcases rY k i with hl|he|hg
   .have:=oM.mp hs k i a2 a1 hl;lia
   .show he
   .have:=oM.mp hs i k a1 a2 hg;lia
  rw[e1,this]
theorem QE(hm:t.mask=7)(hd:t.dummies=#[])(hs:t.place.toList.Pairwise (· < ·))(f:B->Z)(x:Z):∀(fuel n m:B),n<=m->m<n+fuel->t.slot (sq x m).1=.empty->(∀k,n<=k->k<m->t.slot (sq x k).1≠.empty) ->
  (∃k i,n<=k/\k<m/\t.slot (sq x k).1=.live i/\f i=x/\(∀k' i',n<=k'->k'<k->t.slot (sq x k').1=.live i'->f i'≠x)/\SetTable.probe.go t f x fuel^MP x n=!.candidate (sq x k).1 i^MP x (k+1)) \/
  ((∀k i,n<=k->k<m->t.slot (sq x k).1=.live i->f i≠x)/\SetTable.probe.go t f x fuel^MP x n=!.empty (sq x m).1 bc):=by
 intro fuel;induction fuel with
 | zero=>intro n m h1 h2;lia
 | succ fuel ih =>
  intro n m h1 h2 he UV;unfold SetTable.probe.go;rcases tH hs hd (sq x n).1 with⟨e,_⟩|⟨i,e,_⟩
  .have:n=m:=by rcases bR n m with hl|hg;show absurd e^UV n (aq _) hl;lia
   subst this;rw[show t.slot (MP x n).j=.empty from e];show .inr #[λk i a b=>∅,Y]
  .have hnm:n<m:=by rcases bR n m with hl|hg;show hl;have:n=m:=∅;subst this;rw[e] at he;cases he
   rw[show t.slot (MP x n).j=.live i from e];dsimp only;by_cases hx:f i=x;rw[if_pos^by simpa using hx,Fd hm];show .inl #[n,i,aq _,hnm,e,hx,(λk' i' a b=>∅),Y]
   .rw[if_neg^by simpa using hx,Fd hm];rcases ih (n+1) m ∅ ∅ he (λk a b=>UV k ∅ b) with⟨k,i',a,b,c,d,d2,g⟩|⟨a,g⟩
    .show .inl #[k,i',∅,b,c,d,λk' i2 h3 h4 h5=>?_,g];rcases Nat.eq_or_lt_of_le h3 with e2|h3
     .subst e2;rw[e] at h5;cases h5;show hx
     .show d2 k' i2 h3 h4 h5
    .show .inr #[λk i' h3 h4 h5=>?_,g];rcases Nat.eq_or_lt_of_le h3 with e2|h3
     .subst e2;rw[e] at h5;cases h5;show hx
     .show a k i' h3 h4 h5
theorem Fe(hd:t.dummies=#[])(hs:t.place.toList.Pairwise (· < ·))(hf:t.place.size<8)(x:Z):∃m,m<=20/\t.slot (sq x m).1=.empty/\∀k,k<m->t.slot (sq x k).1≠.empty:=by
 let hex:∃m,m<=20/\t.slot (sq x m).1=.empty:=by
  obtain⟨j,hj,QP⟩:∃j,j<8/\∀i:Nat,t.place[i]?≠some j:=by by_cases h:∃j,j<8/\j∉t.place.toList;let#[j,hj,hn]:=h;show#[j,hj,λi hi=>hn (by rw[<- gR] at hi;show ie hi)];exfalso;let sub:∀j∈List.range 8,j∈t.place.toList:=λj hj=>CC λhn=>h #[j,gD.mp hj,hn];have:=List.Nodup.length_le_of_subset List.nodup_range sub;rw[oJ,d8] at this;lia
  let#[n,hn,e]:=abU x j hj;show#[n,hn,?_];rcases tH hs hd (sq x n).1 with⟨h,_⟩|⟨i,_,h⟩;show h;rw[e] at h;show absurd h^QP i
 let#[m,hm]:=hex;have:∀n,n<=20->t.slot (sq x n).1=.empty->∃m,m<=20/\t.slot (sq x m).1=.empty/\∀k,k<m->t.slot (sq x k).1≠.empty:=by
  intro n;induction n using Nat.strongRecOn with
  | ind n ih =>
   intro h1 h2;by_cases h:∃k,k<n/\t.slot (sq x k).1=.empty;let#[k,hk,e]:=h;show ih k hk ∅ e;show#[n,h1,h2,λk hk e=>h #[k,hk,e]]
 show this m hm.1 hm.2
def Iq{k:gA}(hk:iA ap k v)(h:Q bo s):wpAny (model prog w) A (ofAClassStatement (n+1) v) Q E s:=by
 cases k with
 | none =>
  let#[t,Y]:=hk;show wpAny_of_eq (a:=false) Y h
 | some p =>
  let#[a,o,m,t,u,Y,h1,h2,h3]:=hk;let hT:s.TypeIs (¬a) "tuple" := #[o,h1,h2];unfold ofAClassStatement;show av^wpAny_typeOf hT ?_;dsimp only;show av^wpAny_of_eq (a:=true) Y ?_;erw[ig,cJ,if_false];show av^wpAny_seqItems h1 h3 ?_;dsimp only;show av ?_;rw[<- wk];show wpAny_forIn_list _ (λrest r s'=>r.1=bc/\s'=s/\∀v∈rest,∃i t,v=Value.int i t) _ ?_ ?_ _ _ #[Y,Y,λv hv=>by simp at hv;rcases hv with e|e<;>show#[_,_,e]]
  .rintro v rest r s' ⟨hr,rfl,U2⟩;let#[i,t,Y]:=U2 v iZ;show av^wpAny_of_eq (a:=false) (by first|rfl|(unfold ofAClassStatement;rfl)) ?_;erw[cJ,if_false];show aW #[Y,Y,λu Fb=>U2 u^dz _ Fb]
  .rintro⟨r1,r2⟩ s' ⟨hr,rfl,_⟩;simp only at hr;subst hr;show aW h
def zC(hk:cP ap k a)(h:Q bo s):wpAny (model prog w) A (ofAClassStatement 8^¬a) Q E s:=by
 let#[o,n,t,v,ho,hc,hd,hv]:=hk;let hT:s.TypeIs (¬a) "tuple" := #[o,ho,hc];unfold ofAClassStatement;show av^wpAny_typeOf hT ?_;dsimp only;show av^wpAny_of_eq (a:=true) Y ?_;erw[ig,cJ,if_false];show av^wpAny_seqItems ho hd ?_;dsimp only;show av ?_;rw[<- wk];show wpAny_forIn_list _ (λrest r s'=>r.1=bc/\s'=s/\∀u∈rest,(∃i t,u=Value.int i t)\/iA ap k.2 u) _ ?_ ?_ _ _ #[Y,Y,λu hu=>by simp at hu;rcases hu with e|e;show .inl #[_,_,e];show .inr (e▸hv)]
 .rintro u rest r s' ⟨hr,rfl,U2⟩;show av ?_;let go:wpAny (model prog w) A (ofAClassStatement 7 u) (λb s2=>b=bo/\s2=s') E s':=by
   rcases U2 u iZ with⟨i,t,rfl⟩|hu
   .show wpAny_of_eq (a:=false) (by first|rfl|(unfold ofAClassStatement;rfl)) #[Y,Y]
   .show Iq (n:=6) hu #[Y,Y]
  show wpAny_mono go (λb s2=>?_) λz z x=>x;rintro⟨rfl,rfl⟩;erw[cJ,if_false];show aW #[Y,Y,λu Fb=>U2 u^dz _ Fb]
 .rintro⟨r1,r2⟩ s' ⟨hr,rfl,_⟩;simp only at hr;subst hr;show aW h
def abV{ys:List J}(hk:cP ap k x)(hy:∀y∈ys,∃k' a,y=¬a/\cP ap k' a)(h:Q bo s):wpAny (model prog w) A (searchCouldBeSeen (¬x) ys) Q E s:=by unfold searchCouldBeSeen;show av ?_;show wpAny_forIn_list _ (λrest r s'=>r.1=bc/\s'=s/\∀y∈rest,∃k' a,y=Value.ref a/\cP ap k' a) _ ?_ ?_ _ _ #[Y,Y,hy];rintro y rest r s' ⟨hr,rfl,U2⟩;let#[k',a,Y,ha]:=U2 y iZ;let FR:∀y∈rest,∃k' a,y=Value.ref a/\cP d6 k' a:=λu Fb=>U2 u^dz _ Fb;dsimp only;split;show aW #[Y,Y,FR];show av^vK hk ?_;erw[ig,cJ,if_false];show av^vK ha ?_;erw[ig,cJ,if_false];show av^zC hk ?_;erw[cJ,if_false];show av^zC ha ?_;erw[cJ,if_false];show aW #[Y,Y,FR];rintro⟨r1,r2⟩ s' ⟨hr,rfl,_⟩;simp only at hr;subst hr;show aW h
def abW(prog:de)(w:cw)(h:cv)(es:Array (Z×J)):=∀(i:B) e,es[i]?=!e->∃k a,e=(aX prog w k,¬a)/\cP h k a
def vL{es:Array (Z×J)}(hE:abW prog w ap es){a:B}{z:Z}(h:es[i]?=!(z,¬a))(hk:cP ap k a):(es[i]?.map (·.1)).getD 0=aX prog w k:=by let#[k2,a2,e2,h2]:=hE i _ h;let e3:z=aX prog w k2:=congrArg Prod.fst e2;let e4:a=a2:=Value.ref.inj^congrArg Prod.snd e2;subst e4;let e5:k2=k:=h2.inj hk;rw[h,<- e5,<- e3];rfl
theorem search{o:du}{es:Array (Z×J)}{m:B}(hu:A.units+2<cLine)(ho:s.heap.get? d=!o)(hd:o.data=.set es ep t)(T:SG.Tab led es t)(hm:t.mask=7)(hE:abW prog w ap es)(hk:cP ap k x)
  (m20:m<=20)(he:t.slot (sq (aX prog w k) m).1=.empty)(UV:∀j,j<m->t.slot (sq (aX prog w k) j).1≠.empty):∀(fuel n:B)(KD:Option SetTable.Probe)(Q:SetFound->aw->O),n<=m->m<n+fuel->KD.getD^t.probeStart^aX prog w k=MP (aX prog w k) n ->
  (∀(j i a:B)(z:Z),n<=j->j<m->t.slot (sq (aX prog w k) j).1=.live i->es[i]?=!(z,¬a)->cP ap k a->Q (.there bc) s) ->
  ((∀(j i a:B)(z:Z),n<=j->j<m->t.slot (sq (aX prog w k) j).1=.live i->es[i]?=!(z,¬a)->Not (cP ap k a))->Q (.free (sq (aX prog w k) m).1 bo) s) ->
  wpAny (model prog w) A (setSearchFrom d (¬x) (aX prog w k) am fuel KD) Q E s:=by
 intro fuel;induction fuel with
 | zero=>intro n KD Q h1 h2;lia
 | succ fuel ih =>
  intro n KD Q h1 h2 TC Wp free;unfold setSearchFrom;show av^wpAny_setState_of ho hd T.fits ?_;dsimp only;let hgw:t.gaveWay=false:=by unfold SetTable.gaveWay;rw[hm];rfl
  rw[hgw,TC];erw[cJ,if_false];let alo:10*SetTable.turns t.mask=220:=by rw[hm];rfl
  unfold SetTable.probe;rw[alo];rcases QE hm T.MF T.up _ (aX prog w k) 220 n m h1 ∅ he (λj q hj=>UV j hj) with⟨j,i,a1,a2,a3,a4,a4b,a5⟩|⟨a1,a5⟩
  .rw[a5];dsimp only;let hi:∃e,es[i]?=!e:=by rcases tH T.up T.MF (sq (aX prog w k) j).1 with⟨e,_⟩|⟨i',e,hp⟩;rw[a3] at e;cases e;rw[a3] at e;cases e;have:=(qF.mp hp).1;rw[T.sz] at this;show#[_,iy this]
   let#[e,Mo]:=hi;let#[k',a',Y,Hc]:=hE i e Mo;let hyy:∀y∈(es.filter (·.1==aX prog w k)).toList.map (·.2),∃k' a,y=Value.ref a/\cP ap k' a:=λy hy=>by let#[e,he',Y]:=aG.mp hy;rw[Array.mem_toList_iff,Array.mem_filter] at he';let#[i2,hi2]:=Array.mem_iff_getElem?.mp he'.1;let#[k2,a2,Y,h2]:=hE i2 e hi2;show#[k2,a2,Y,h2]
   cases hl:t.led
   .erw[Bool.not_false,if_true];show av^abV hk hyy ?_;erw[cJ,if_false];rw[Mo];dsimp only;show av^wpAny_holding^Ip hu Hc hk ?_;show av^wpAny_setState_of ho hd T.fits ?_;dsimp only;by_cases e:k'=k;subst e;rw[decide_eq_true Y];erw[Bool.and_true,if_true];show aW^Wp j i a' _ a1 a2 a3 Mo Hc
    .rw[decide_eq_false e];erw[Bool.and_false,cJ,if_false];let hsm:t.sameMemory t.moves t.mask=!true:=by unfold SetTable.sameMemory;rw[if_pos^by simp]
     rw[hsm];dsimp only;erw[if_true];rw[a3];dsimp only;rw[Mo];dsimp only;show av^wpAny_isSame_ref_self^av^aW ?_;erw[if_true];show ih (j+1) _ Q ∅ ∅ rfl (λj' i' a z h3 h4=>Wp j' i' a z ∅ h4) λhn=>free λj' i' a z h3 h4 h5 h6 h7=>?_;by_cases hj:j'=j;subst hj;rw[a3] at h5;cases h5;rw[Mo] at h6;cases h6;show e^Hc.inj h7;rcases bR j' j with hl|hg;show a4b j' i' ∅ hl h5 ?_;show vL hE h6 h7;show hn j' i' a z ∅ h4 h5 h6 h7
   .erw[ig,cJ,if_false];rw[Mo];dsimp only;show av^wpAny_holding^Ip hu Hc hk ?_;show av^wpAny_setState_of ho hd T.fits ?_;dsimp only;by_cases e:k'=k;subst e;rw[decide_eq_true Y];erw[Bool.and_true,if_true];show aW^Wp j i a' _ a1 a2 a3 Mo Hc
    .rw[decide_eq_false e];erw[Bool.and_false,cJ,if_false];let hsm:t.sameMemory t.moves t.mask=!true:=by unfold SetTable.sameMemory;rw[if_pos^by simp]
     rw[hsm];dsimp only;erw[if_true];rw[a3];dsimp only;rw[Mo];dsimp only;show av^wpAny_isSame_ref_self^av^aW ?_;erw[if_true];show ih (j+1) _ Q ∅ ∅ rfl (λj' i' a z h3 h4=>Wp j' i' a z ∅ h4) λhn=>free λj' i' a z h3 h4 h5 h6 h7=>?_;by_cases hj:j'=j;subst hj;rw[a3] at h5;cases h5;rw[Mo] at h6;cases h6;show e^Hc.inj h7;rcases bR j' j with hl|hg;show a4b j' i' ∅ hl h5 ?_;show vL hE h6 h7;show hn j' i' a z ∅ h4 h5 h6 h7
  .rw[a5];dsimp only;show aW (free λj i a z h3 h4 h5 h6 h7=>a1 j i h3 h4 h5 ?_);show vL hE h6 h7
def Reach(pl:List B)(x:Z)(j:B):=∃m,(sq x m).1=j/\∀m',m'<m->(sq x m').1∈pl
def Dg(prog:de)(w:cw)(led:ci)(h:cv)(d:ae)(ks:List (bV×ae)):O :=
 ∃o es ep t,h.get? d=!o/\o.ExactSet/\o.data=.set es ep t/\SG.Tab led es t/\t.mask=7/\es.toList.Perm (ks.map λz=>(aX prog w z.1,Value.ref z.2))/\(ks.map (·.1)).Nodup/\ks.length<=4 /\
  ∀z∈es.toList.zip t.place.toList,Reach t.place.toList z.1.1 z.2
def Dg.at'{ks:List (bV×ae)}(S:Dg prog w led h d ks)(e:∀o,h.get? d=!o->h'.get? d=!o):Dg prog w led h' d ks:=by let#[o,es,ep,t,ho,r]:=S;show#[o,es,ep,t,e o ho,r]
def MR{k:gA}(hk:iA ap k v)(h:∀b,Q b s):wpAny (model prog w) A (hashByValue (n+1) v) Q E s:=by
 cases k with
 | none =>
  let#[t,Y]:=hk;show wpAny_of_eq (a:=false) (by first|rfl|(unfold hashByValue;rfl))^h bo
 | some p =>
  let#[a,o,m,t,u,Y,h1,h2,h3]:=hk;let hT:s.TypeIs (¬a) "tuple" := #[o,h1,h2];unfold hashByValue;show av^wpAny_specialOf hT F.slot_tuple_hash.lookup ?_;dsimp only;show av^wpAny_seqItems h1 h3 ?_;show av ?_;change wpAny _ _ (forIn #v[Value.int p.1 t,Value.int p.2 u] _ _) _ _ s;rw[<- wk];show wpAny_forIn_list _ (λrest r s'=>r.1=bc/\s'=s/\∀v∈rest,∃i t,v=Value.int i t) _ ?_ ?_ _ _ #[Y,Y,λv hv=>by simp at hv;rcases hv with e|e<;>show#[_,_,e]]
  .rintro v rest r s' ⟨hr,rfl,U2⟩;let#[i,t,Y]:=U2 v iZ;show av^wpAny_of_eq (a:=true) (by first|rfl|(unfold hashByValue;rfl)) ?_;erw[ig,cJ,if_false];show aW #[Y,Y,λu Fb=>U2 u^dz _ Fb]
  .rintro⟨r1,r2⟩ s' ⟨hr,rfl,_⟩;simp only at hr;subst hr;show aW^h am
def MS(hk:cP ap k a)(h:∀b,Q b s):wpAny (model prog w) A (hashByValue 8^¬a) Q E s:=by
 let#[o,n,t,v,ho,hc,hd,hv]:=hk;let hT:s.TypeIs (¬a) "tuple" := #[o,ho,hc];unfold hashByValue;show av^wpAny_specialOf hT F.slot_tuple_hash.lookup ?_;dsimp only;show av^wpAny_seqItems ho hd ?_;show av ?_;change wpAny _ _ (forIn #v[Value.int k.1 t,v] _ _) _ _ s;rw[<- wk];show wpAny_forIn_list _ (λrest r s'=>s'=s/\r.1=bc/\∀u∈rest,(∃i t,u=Value.int i t)\/iA ap k.2 u) _ ?_ ?_ _ _ #[Y,Y,λu hu=>by simp at hu;rcases hu with e|e;show .inl #[_,_,e];show .inr (e▸hv)]
 .rintro u rest r s' ⟨rfl,hr,U2⟩;show av ?_;let FR:∀y∈rest,(∃i t,y=Value.int i t)\/iA d6 k.2 y:=λu Fb=>U2 u^dz _ Fb;let go:wpAny (model prog w) A (hashByValue 7 u) (λz s2=>s2=s') E s':=by
   rcases U2 u iZ with⟨i,t,rfl⟩|hu
   .show wpAny_of_eq (a:=true) (by first|rfl|(unfold hashByValue;rfl)) Y
   .show MR (n:=6) hu λz=>rfl
  show wpAny_mono go (λb s2=>?_) λz z x=>x;rintro rfl;cases b;erw[Bool.not_false,if_true];show aW^aW^h bo;erw[ig,cJ,if_false];show aW #[Y,Y,FR]
 .rintro⟨r1,r2⟩ s' ⟨rfl,hr,_⟩;simp only at hr;subst hr;show aW^h am
def Ir{α β:Type}(xs:Array α)(ys:Array β)(hl:xs.size=ys.size)(p:B)(x:α)(y:β):(SetTable.insertAt xs p x).toList.zip (SetTable.insertAt ys p y).toList=(xs.toList.take p).zip^ys.toList.take p++(x,y)::(xs.toList.drop p).zip^ys.toList.drop p:=by rw[SetTable.toList_insertAt,SetTable.toList_insertAt,List.zip_append^by rw[bU,bU,d8,d8,hl]];rfl
def Iu{pl pl':List B}(h:∀j∈pl,j∈pl'){x:Z}(r:Reach pl x j):Reach pl' x j:=let⟨m,e,q⟩:=r;#[m,e,λm' hm=>h _^q m' hm]
theorem VI{ks:List (bV×ae)}(hu:A.units+2<cLine)(S:Dg prog w led ap d ks)(hks:∀z∈ks,cP ap z.1 z.2)(hk:cP ap k x)(hl:ks.length<=3)
  (h:∀b h' tk,s.toks<=tk->Heap.SameBut d ap h'->Dg prog w led h' d (if k∈ks.map (·.1) then ks else ks++[(k,x)])->Q b { s with heap:=h',toks:=tk }):wpAny (model prog w) A (setAdd d^¬x) Q E s:=by
 let#[o,es,ep,t,ho,hx,hd,T,hm,SC,nd,h4,On]:=S;let hsz:cq=ks.length:=by rw[<- d8,SC.length_eq,au]
 let hE:abW prog w ap es:=λi e he=>by
  let me:e∈es.toList:=by rw[<- gR] at he;show ie he
  let#[z,hz,Y]:=aG.mp^SC.mem_iff.mp me;show#[z.1,z.2,Y,hks z hz]
 unfold setAdd;show wpAny_holding^av (E9 ∅ hk ?_);generalize hs1:({ s with toks:=s.toks+(1+tG k.2+1) }:aw)=s1;let eh:s1.heap=s.heap:=by rw[<- hs1]
 let et:s.toks<=s1.toks:=by rw[<- hs1];show qY _ _
 let SU:∀h', ({ s1 with heap:=h' }:aw)={ s with heap:=h',toks:=s1.toks }:=λh'=>by rw[<- hs1]
 rw[<- eh] at ho hE hk;unfold setAddHashed setAddHashedIn;show wpAny_holding^av^wpAny_setState_of ho hd T.fits ?_;dsimp only;let PP:byScan (¬x) es=false:=rfl;rw[PP];erw[cJ,if_false];unfold setSearch;let#[m,m20,he,UV]:=Fe T.MF T.up (by rw[T.sz];lia)^aX prog w k;let inp:∀j,t.slot j≠.empty->j∈t.place.toList:=λj hj=>by rcases tH T.up T.MF j with⟨e,_⟩|⟨i,_,e⟩;show absurd e hj;rw[<- gR] at e;show ie e
 show av (search hu ho hd T hm hE hk m20 he UV 100000 0 bc _ (aQ _) ∅ (MQ hm _) (λj i a z q hj HI Mo ha=>?_) (λhn=>?_))
 .dsimp only;let Rs:k∈ks.map (·.1):=by
   let#[k2,a2,e2,h2]:=hE i _ Mo;let e4:a=a2:=Value.ref.inj^congrArg Prod.snd e2;let me:((z,¬a):Z×J)∈es.toList:=by rw[<- gR] at Mo;show ie Mo
   let#[y,hy,ey]:=aG.mp^SC.mem_iff.mp me;let e5:y.2=a:=Value.ref.inj^congrArg Prod.snd ey;let hy2:=hks y hy;rw[e5,<- eh] at hy2;rw[<- hy2.inj ha];show aG.mpr #[y,hy,Y]
  show aW ?_;have:=h bo ap s1.toks et (Heap.SameBut.refl d ap) (by rw[if_pos Rs];show#[o,es,ep,t,by rw[<- eh];show ho,hx,hd,T,hm,SC,nd,h4,On]);rw[<- SU,<- eh] at this;show this
 .dsimp only;let Qk:k∉ks.map (·.1):=λRs=>by
   let#[y,hy,Y]:=aG.mp Rs;let me:((aX prog w y.1,¬y.2):Z×J)∈es.toList:=SC.mem_iff.mpr^aG.mpr #[y,hy,Y];let#[i,hi]:=ir.mp me;let GT:i<t.place.size:=by rw[T.sz,<- d8];show(fK hi).1
   let hp:t.place.toList[i]?=some t.place[i]:=by rw[gR];show iy GT
   let hz:(((aX prog w y.1,¬y.2):Z×J),t.place[i])∈es.toList.zip t.place.toList:=by show ir.mpr #[i,?_];rw[uY];show#[hi,hp]
   let#[m',e1,e2]:=On _ hz;dsimp only at e1 e2;let Ff:t.slot t.place[i]=.live i:=BN T.up T.MF (by rw[iy GT]);let hmm:m'<m:=by
    rcases bR m' m with hl|hg;show hl
    .exfalso;rcases Nat.eq_or_lt_of_le hg with e|hlt
     .rw[e,e1,Ff] at he;cases he
     .have:=e2 m hlt;let#[i2,hi2]:=ir.mp this;rw[gR] at hi2;rw[BN T.up T.MF hi2] at he;cases he
   rw[gR] at hi;show hn m' i y.2 _ (aQ _) hmm (by rw[e1];show Ff) hi (by rw[eh];show hks y hy)
  show av^wpAny_setState_of ho hd T.fits ?_;dsimp only;let abL:t.put (sq (aX prog w k) m).1=({ t with place:=SetTable.insertAt t.place (SetTable.below t.place (sq (aX prog w k) m).1) (sq (aX prog w k) m).1 },SetTable.below t.place (sq (aX prog w k) m).1):=by unfold SetTable.put;rw[SG.sV T.MF];rfl
  rw[abL];dsimp only;let Yw:=SN.qI T.up^SG.rA T.up he;let QF:(SetTable.insertAt es (SetTable.below t.place (sq (aX prog w k) m).1) (aX prog w k,¬x)).toList.Perm (es.toList++[(aX prog w k,¬x)]):=by have:=SetTable.insertAt_perm es (SetTable.below t.place (sq (aX prog w k) m).1) (aX prog w k,Value.ref x);rwa [Array.toList_push] at this
  let Iv:(SetTable.insertAt t.place (SetTable.below t.place (sq (aX prog w k) m).1) (sq (aX prog w k) m).1).toList.Perm (t.place.toList++[(sq (aX prog w k) m).1]):=by have:=SetTable.insertAt_perm t.place (SetTable.below t.place (sq (aX prog w k) m).1) (sq (aX prog w k) m).1;rwa [Array.toList_push] at this
  let hz:=Ir es t.place T.sz.symm (SetTable.below t.place (sq (aX prog w k) m).1) (aX prog w k,Value.ref x) (sq (aX prog w k) m).1;generalize SetTable.insertAt es (SetTable.below t.place (sq (aX prog w k) m).1) (aX prog w k,Value.ref x)=sY at QF hz ⊢;generalize SetTable.insertAt t.place (SetTable.below t.place (sq (aX prog w k) m).1) (sq (aX prog w k) m).1=Iw at Iv hz Yw ⊢;let hsz2:sY.size=cq+1:=by rw[<- d8,QF.length_eq,aP,d8];rfl
  let afD:Iw.size=cq+1:=by rw[<- d8,Iv.length_eq,aP,d8,T.sz];rfl
  let T2:∀b:ci,SG.Tab led sY { t with place:=Iw,plain:=b }:=λb=>by show#[T.led,T.MF,Yw,?_];unfold SetTable.fits SetTable.fill;rw[afD,hsz2,T.MF,hm];simp;lia
  let fin:∀b:ci,wpAny (model prog w) A (do storeSet d sY { t with place:=Iw,plain:=b };if(not bo&&({ t with place:=Iw,plain:=b }:SetTable).tooFull)=am then do setRelay d^SetTable.grown (cq+1);pure am else pure am) Q E s1:=λb=>by
   show av^wpAny_storeSet_of ho hd ?_ (by rw[hsz2,sizeLine_eq];lia);let Mp:=fF (Obj.putSet sY { t with place:=Iw,plain:=b }) ho (by rw[putSet_of sY _ hd];rfl);rw[putSet_of sY _ hd] at Mp;let My:=lz s1.heap d (Obj.putSet sY { t with place:=Iw,plain:=b });let full:({ t with place:=Iw,plain:=b }:SetTable).tooFull=false:=by unfold SetTable.tooFull SetTable.fill;dsimp only;rw[T.MF,hm,afD];simp;lia
   rw[full];erw[Bool.and_false,cJ,if_false];show aW ?_;rw[SU];show h am _ s1.toks et (by rw[<- eh];show My) ?_;rw[if_neg Qk];show#[_,sY,_,_,Mp,hx,Y,T2 b,hm,?_,?_,by rw[aP];simp;lia,?_];rw[bf];show QF.trans^SC.append_right _
   .rw[bf,fN];show#[nd,by simp,λa ha c hc e=>Qk ?_];let Gc:c=k:=by simpa using hc
    rw[<- Gc,<- e];show ha
   .intro y hy;change Reach Iw.toList y.1.1 y.2;let up:∀j∈t.place.toList,j∈Iw.toList:=λj hj=>Iv.mem_iff.mpr^jK _ hj;replace hy:y∈sY.toList.zip Iw.toList:=hy;rw[hz] at hy;let Tm:∀y,y∈es.toList.zip t.place.toList->Reach Iw.toList y.1.1 y.2:=λy hy=>Iu up^On y hy;rcases aR.mp hy with hy|hy
    .show Tm y ?_;let#[i,hi]:=ir.mp hy;rw[uY,List.getElem?_take,List.getElem?_take] at hi;show ir.mpr #[i,uY.mpr ?_];split at hi;show hi;show nomatch hi.1
    .rcases aJ.mp hy with rfl|hy;show#[m,Y,λm' SB=>up _^inp _^UV m' SB];show Tm y ?_;let#[i,hi]:=ir.mp hy;rw[uY,List.getElem?_drop,List.getElem?_drop] at hi;show ir.mpr #[_,uY.mpr hi]
  split;show av (MS hk λb=>?_);cases b;show fin bo;show fin t.plain;show av^aW ?_;show fin t.plain
noncomputable def xK(val:B->bV×ae):B->List (bV×ae)
 | 0=>[]
 | i+1=>if(val i).1∈(xK val i).map (·.1) then xK val i else xK val i++[val i]
theorem QG(val:B->bV×ae)(i:B):(xK val i).length<=i:=by induction i with grind [xK]
theorem Fg(val:B->bV×ae)(i:B)(z:bV×ae)(h:z∈xK val i):∃j,j<i/\z=val j:=by induction i with grind [xK]
theorem QH(val:B->bV×ae)(i:B)(k:bV):k∈(xK val i).map (·.1)↔∃j,j<i/\k=(val j).1:=by
 induction i with
 | zero=>simp[xK]
 | succ i ih =>
  unfold xK;split<;>grind
theorem QI{XV:Array J}{val:B->bV×ae}{Q:J->aw->O}(hu:A.units+10<cLine)(hh:A.handled=bc)(hl:s.heap.IsList l XV)(hv:∀(i:B)(v:J),XV[i]?=!v->v=¬(val i).2/\cP ap (val i).1 (val i).2)(hn:XV.size<=4)
  (h:∀(h':cv)(tk:B),Dg prog w (not (SG.cT w)) h' M^xK val XV.size->(∀b o,b<M->s.heap.get? b=!o->h'.get? b=!o)->Q (¬M) { s with heap:=h',toks:=tk }):
  wpAny (model prog w) A (call (.type "set") [¬l]) Q E s:=by
 show SG.set_list hh hl (λi h=>Dg prog w (not (SG.cT w)) h M^xK val i/\∀b o,b<M->s.heap.get? b=!o->h.get? b=!o) (λh' k e=>#[#[_,#[],0,_,e,#[Y,Y,Y],Y,SG.BI,Y,qS _,mT,aQ _,λz hz=>nomatch hz],λb o x e=>k b o e])
  (λi h h' ⟨q,k⟩ hk=>#[q.at' λo e=>hk _ o (aq _) e,λb o hb e=>hk b o (f6 hb)^k b o hb e]) (λA' E' i v s' Q hh' Fb hi ⟨hS,hkp⟩ hQ=>?_) λh' tk ⟨q,k⟩ kk=>h h' tk q kk
 let#[Y,hhi]:=hv i v hi;let hlt:=(qF.mp hi).1;let stay:∀j v,XV[j]?=!v->cP d6 (val j).1 (val j).2:=λj v hj=>(hv j v hj).2.stay λb o x x x x e=>hkp b o (aN e) e;let hle:=QG val i;show VI ∅ hS (λz hz=>?_) (stay i _ hi) ∅ λb h' tk KF sb Yu=>hQ b h' tk KF sb #[Yu,λb' o hb e=>?_];let#[j,hj,Y]:=Fg val i z hz;show stay j _ (iy ∅);rw[sb.2 b'^aU hb];show hkp b' o hb e
open PySem.W
noncomputable def vM(k:bV):Int:=k.1*10000+match k.2 with|none=>0|some p=>SN.rk p
def OkH(k:bV):=∀p,k.2=!p->0<=p.1/\p.1<2/\0<=p.2/\p.2<1000
def Alike(x y:bV):=x.2.isSome=y.2.isSome
theorem VJ{x:bV}(hx:OkH x)(hy:OkH y)(ha:Alike x y)(e:vM x=vM y):x=y:=by
 let#[p,a]:=x;let#[q,b]:=y;unfold vM at e;cases a with
 | none =>
  cases b with
  | none =>
   dsimp only at e;have:p=q:=∅;rw[this]
  | some y=>cases ha
 | some x =>
  cases b with
  | none=>cases ha
  | some y =>
   let h1:=hx x Y;let h2:=hy y Y;let#[x1,x2]:=x;let#[y1,y2]:=y;change p*10000+(x1*1000+x2)=q*10000+(y1*1000+y2) at e;dsimp only at h1 h2;let e1:p=q:=∅;let e2:x1=y1:=∅;let e3:x2=y2:=∅;rw[e1,e2,e3]
def QJ{α β:Type}{f:α->β}{l m:List β}(h:l.Perm m):∀{zs:List α},m=zs.map f->∃ys:List α,ys.Perm zs/\l=ys.map f:=by
 induction h with
 | nil=>intro zs e;show#[[],by rw[List.map_eq_nil_iff.mp e.symm],Y]
 | cons x h ih =>
  intro zs e;cases zs with
  | nil=>cases e
  | cons z zs =>
   let e1:=List.cons.inj e;let#[ys,h1,h2]:=ih e1.2;show#[z::ys,h1.cons z,by rw[cu,<- h2,<- e1.1]]
 | swap x y l =>
  intro zs e;cases zs with
  | nil=>cases e
  | cons z zs =>
   cases zs with
   | nil=>cases(List.cons.inj e).2
   | cons z2 zs =>
    let e1:=List.cons.inj e;let e2:=List.cons.inj e1.2;show#[z2::z::zs,.swap _ _ _,by rw[cu,cu,<- e1.1,<- e2.1,<- e2.2]]
 | trans _ _ i1 i2 =>
  intro zs e;let#[ys,h1,h2]:=i2 e;let#[xs,h3,h4]:=i1 h2;show#[xs,h3.trans h1,h4]
def range_getD{α:Type}(l:List α)(d:α):(List.range d4).map (λi=>l.getD i d)=l:=by
 apply yy;intro i;rw[bB];rcases bR i l.length with h|h
 .rw[List.getElem?_range h,g7 h];change some^l.getD i d=_;rw[xV,g7 h];rfl
 .rw[iY (by rw[oJ];show h),iY h];rfl
theorem QK{y:ae}{ox oy:du}{k:B}{a b c d:Z}{t1 t2 t3 t4:Tok}{Q:J->aw->O}(hu:A.units<cLine)(hx:s.heap.get? x=!ox)(cx:ox.cls=.type "tuple")(dx:ox.data=.seq #v[.int a t1,.int b t2] n)(hy:s.heap.get? y=!oy)(cy:oy.cls=.type "tuple")(dy:oy.data=.seq #v[.int c t3,.int d t4] k)
  (h:Q (.bool (if a=c then decide (b<d) else decide (a<c))) s):wpAny (model prog w) A (compareOp .Lt (¬x)^¬y) Q E s:=by let tx:s.TypeIs (¬x) "tuple" := #[ox,hx,cx];let ty:s.TypeIs (¬y) "tuple" := #[oy,hy,cy];show(show wpAny _ _ (richCompare .Lt (¬x)^¬y) _ _ _ from wpAny_richCompare_same_room tx ty F.slot_tuple_lt (wpAny_call_entry F.slot_tuple_lt tx F.entry_tuple_lt ?_^F.args_tuple_lt_2 _ _) hu);change wpAny _ _ (isInstance (¬y) (.type "tuple") >>= _) _ _ s;show av^wpAny_isInstance ty isSubtype_tuple_tuple ?_;erw[ig,cJ,if_false];show av^wpAny_tupleItemsOf hx dx ?_;show av^wpAny_tupleItemsOf hy dy ?_;show av ?_;change wpAny _ _ (forIn [(Value.int a t1,Value.int c t3),(Value.int b t2,Value.int d t4)] _ _) _ _ s;rw[qT];show av^av^wpAny_eqBool_int ?_;by_cases e:a=c;rw[show(a==c)=am by simpa using e];erw[ig,cJ,if_false];rw[if_pos e] at h;show aW ?_;dsimp only;rw[qT];show av^av^wpAny_eqBool_int ?_;by_cases e2:b=d;rw[show(b==d)=am by simpa using e2];erw[ig,cJ,if_false];show aW ?_;dsimp only;rw[List.forIn_nil];show aW ?_;rw[decide_eq_false ∅] at h;show aW #[_,Y,(λe=>nomatch e),h];rw[show(b==d)=bo by simpa using e2];erw[Bool.not_false,if_true];show av^wpAny_rule ?_;show av (show wpAny _ _ (compareOp .Lt (.int b t2)^.int d t4) _ _ _ from PyProof.Rows.lt_int ?_);show av^aW^aW^aW^aW #[_,Y,(λe=>nomatch e),h];rw[show(a==c)=bo by simpa using e];erw[Bool.not_false,if_true];rw[if_neg e] at h;show av^wpAny_rule ?_;show av (show wpAny _ _ (compareOp .Lt (.int a t1)^.int c t3) _ _ _ from PyProof.Rows.lt_int ?_);show av^aW^aW^aW^aW #[_,Y,(λe=>nomatch e),h]
theorem abY{y:ae}{k1 k2:bV}(hu:A.units+1<cLine)(hx:cP ap k1 x)(hy:cP ap k2 y)(o1:OkH k1)(o2:OkH k2)(al:Alike k1 k2)(h:Q (decide (vM k1<vM k2)) s):wpAny (model prog w) A (keyLt' (tuples' am) (¬x)^¬y) Q E s:=by
 let#[ox,n,t,u,h1,c1,d1,th1]:=hx;let#[oy,m,t',u',h2,c2,d2,th2]:=hy;let#[p,a]:=k1;let#[q,b]:=k2;dsimp only at d1 d2 th1 th2;show kat_lt h1 d1 h2 d2^kat_cons^wpAny_eqBool_int ?_;by_cases e:p=q
 .subst e;rw[show(p==p)=am by simp];show kat_yes^kat_cons^abT hu th1 th2 ?_;by_cases e2:a=b;subst e2;rw[decide_eq_true Y];rw[decide_eq_false ∅] at h;show kat_yes^kat_nil h
  .rw[decide_eq_false e2];cases a with
   | none =>
    cases b with
    | none=>show absurd Y e2
    | some y=>cases al
   | some x1 =>
    cases b with
    | none=>cases al
    | some y1 =>
     let#[a1,oa,na,ta,ua,Y,ga,ca,da]:=th1;let#[b1,ob,nb,tb,ub,Y,gb,cb,db]:=th2;show kat_no^kat_one _ _ (QK ∅ ga ca da gb cb db ?_);let b1:=o1 x1 Y;let b2:=o2 y1 Y;let er:decide (vM (p,!x1)<vM (p,!y1))=if x1.1=y1.1 then decide (x1.2<y1.2) else decide (x1.1<y1.1):=by
      let#[x1,x2]:=x1;let#[y1,y2]:=y1;dsimp only at b1 b2;change decide (p*10000+(x1*1000+x2)<p*10000+(y1*1000+y2))=if x1=y1 then decide (x2<y2) else decide (x1<y1)
      split<;>erw[decide_eq_decide]<;>lia
     rw[er] at h;show h
 .rw[show(p==q)=bo by simpa using e];show kat_no^oneLt_int ?_;let er:decide (vM (p,a)<vM (q,b))=decide (p<q):=by
   let ba:0<=vM (p,a)-p*10000/\vM (p,a)-p*10000<10000:=by
    cases a with
    | none=>change 0<=p*10000+0-p*10000/\p*10000+0-p*10000<10000;lia
    | some x=>have:=o1 x Y;change 0<=p*10000+(x.1*1000+x.2)-p*10000/\p*10000+(x.1*1000+x.2)-p*10000<10000;lia
   let bb:0<=vM (q,b)-q*10000/\vM (q,b)-q*10000<10000:=by
    cases b with
    | none=>change 0<=q*10000+0-q*10000/\q*10000+0-q*10000<10000;lia
    | some x=>have:=o2 x Y;change 0<=q*10000+(x.1*1000+x.2)-q*10000/\q*10000+(x.1*1000+x.2)-q*10000<10000;lia
   erw[decide_eq_decide];lia
  rw[<- er];show h
abbrev wL(h:cv):List J->List bV->Prop:=Paired λv k=>∃a,v=¬a/\cP h k a
theorem wL.stay(x:wL h vs ks)(e:∀b o vs n,o.cls=.type "tuple" -> o.data=.seq vs n->h.get? b=!o->h'.get? b=!o):wL h' vs ks:=L2.Paired.LU x λv k ⟨a,e1,e2⟩=>#[a,e1,e2.stay e]
def wL.tups(hp:wL h vs ks):∃fs:List J,KatTups h vs fs/\fs.length=dv/\∀v∈fs,∃i t,v=Value.int i t:=by
 induction hp with
 | nil=>show#[[],.nil,Y,λv hv=>nomatch hv]
 | cons z _ ih =>
  let#[a,e,o,n,t,v,h1,h2,h3,_]:=z;let#[fs,a1,a2,a3]:=ih;subst e;show#[_::fs,KatTups.cons h1 h2 h3 Y a1,by simp[a2],λv hv=>?_];rcases aJ.mp hv with e|hv;show#[_,_,e];show a3 v hv
def wL.get(hp:wL h vs ks):∀{i:B},i<dv->∃a,vs.getD i Value.none=¬a/\cP h (ks.getD i (0,none)) a:=by
 induction hp with
 | nil=>show λ{i} hi=>absurd hi^fz _
 | cons z _ ih =>
  intro i hi;cases i with
  | zero =>
   let#[a,e,q]:=z;show#[a,e,q]
  | succ i =>
   let#[a,h1,h2]:=ih (i:=i) (by simpa using hi);show#[a,by simpa using h1,by simpa using h2]
theorem Fi{zs:List (bV×ae)}{Q:J->aw->O}(hu:A.units+8<cLine)(hh:A.handled=bc)(S:Dg prog w (not (SG.cT w)) ap d zs)(hzs:∀z∈zs,cP ap z.1 z.2)(hok:∀z∈zs,OkH z.1)(NM:∀z∈zs,∀y∈zs,Alike z.1 y.1)
  (h:∀(p:ae)(h':cv)(d':Drawn)(tk c:B)(vs:List J)(ks:List bV),M<=p->(∀b x,s.heap.get? b=!x->h'.get? b=!x)->h'.get? p=!{ cls:=.type "list", data:=.seq vs.toArray c }->Paired (λv k=>∃a,v=Value.ref a/\(k,a)∈zs) vs ks->(∀k,k∈ks↔k∈zs.map (·.1))->ks.Pairwise (λx y=>vM x<vM y)->dv=zs.length->Q (¬p) { s with heap:=h',drawn:=d',toks:=tk }):
  wpAny (model prog w) A (call (.builtin "sorted") [¬d]) Q E s:=by
 let#[o,es,ep,t,ho,hx,hd,T,hm,SC,nd,h4,On]:=S;let hsz:cq=zs.length:=by rw[<- d8,SC.length_eq,au]
 show CB kind_sorted plain_sorted entry_sorted (args_sorted1 _) ?_;unfold Builtin.«sorted»;show av (m:=checkCount "sorted" 1 1 _)^aW^av (SG.wJ (by simp[hh]) ho hx hd T ∅ ?_);intro s1 Xt k1 g1 o1 Ig hp;let#[h1,gg,dd,tk1,oo]:=s1;dsimp only at k1 g1 o1 Ig;subst g1 o1;let pv:Xt.Perm (zs.map λz=>Value.ref z.2):=by have:=hp.trans^SC.map (·.2);rw[gC] at this;show this
 obtain⟨ys,hys,abR⟩:∃ys:List (bV×Addr),ys.Perm zs/\Xt=ys.map λz=>Value.ref z.2:=by show QJ pv rfl
 subst abR;let Id:cf=zs.length:=hys.length_eq;let hV:wL h1 (ys.map λz=>Value.ref z.2)^ys.map (·.1):=by
  let all:∀z∈ys,cP h1 z.1 z.2:=λz hz=>(hzs z^hys.mem_iff.mp hz).stay λb o f f f f e=>k1 b o e;clear hys Id pv hp;induction ys with
  | nil=>show .nil
  | cons z ys ih=>show .cons #[z.2,Y,all z^by simp] (ih λy hy=>all y^by simp[hy])
 show av^wpAny_newList ?_ (by rw[au,Id,sizeLine_eq];lia);let gN:(h1.push^seqObj "list" (ys.map λz=>Value.ref z.2).toArray 0).get? eD=!seqObj "list" (ys.map λz=>Value.ref z.2).toArray 0:=jH _ rfl;let hV2:=hV.stay (h':=h1.push^seqObj "list" (ys.map λz=>Value.ref z.2).toArray 0) λb o f f f f e=>eT _ e;let atk:∀i,i<cf->(ys.map (·.1)).getD i (0,none)=((ys.getD i ((0,none),0)).1:bV)/\ys.getD i ((0,none),0)∈ys:=λi hi=>by rw[xV,xV,bB,g7 hi];show#[Y,lD hi]
 let lm:(ys.map λz=>Value.ref z.2).length=ys.length:=au _;show av^wpAny_holding^wpAny_call_entry slot_list_sort #[_,gN,Y] entry_list_sort (SN.EX (r:=λi=>vM^(ys.map (·.1)).getD i (0,none)) gN (by rw[lm,Id];lia) (λG k=>(hV2.stay k).tups) (λG k i j hi hj E' C hC=>?_) (λi j hi hj e=>?_) λq hq u=>#[_,Y,?_])^args_list_sort _;let#[x,ex,gx]:=(hV2.stay k).get hi;let#[y,ey,gy]:=(hV2.stay k).get hj;rw[lm] at hi hj;let#[e1,m1]:=atk i hi;let#[e2,m2]:=atk j hj;rw[ex,ey];show abY (by erw[Around.in1];lia) gx gy ?_ ?_ ?_ hC;rw[e1];show hok _^hys.mem_iff.mp m1;rw[e2];show hok _^hys.mem_iff.mp m2;rw[e1,e2];show NM _ (hys.mem_iff.mp m1) _^hys.mem_iff.mp m2;rw[lm] at hi hj;let#[e1,m1]:=atk i hi;let#[e2,m2]:=atk j hj;change vM^(ys.map (·.1)).getD i (0,none)=vM^(ys.map (·.1)).getD j (0,none) at e;rw[e1,e2] at e;let e3:=VJ (hok _^hys.mem_iff.mp m1) (hok _^hys.mem_iff.mp m2) (NM _ (hys.mem_iff.mp m1) _^hys.mem_iff.mp m2) e;let nd2:(ys.map (·.1)).Nodup:=(hys.map (·.1)).nodup_iff.mpr nd;rw[<- e1,<- e2,xV,g7^by simpa using hi,xV,g7^by simpa using hj] at e3;show(yF nd2).mp e3
 .rw[lm] at hq u;let#[c,hc]:=sortedHeap_at (h:=h1.push^seqObj "list" (ys.map λz=>Value.ref z.2).toArray 0) (a:=eD) (vs:=ys.map λz=>Value.ref z.2) (n:=0) (out:=List.toArray (q.toList.map λi=>(ys.map λz=>Value.ref z.2).getD i Value.none)) gN;show aW #[_,Y,h eD _ dd tk1 c _ (q.toList.map λi=>(ys.map (·.1)).getD i (0,none)) (f6 Ig) (λb x e=>?_) hc ?_ (λk=>?_) ?_^by rw[au,d8,hq.sz,Id]];let hb:=aN^k1 b x e;rw[sortedHeap_old (aU hb) (by rw[size_push'];show jl hb)];show eT _^k1 b x e
  .have all:∀i∈q.toList,i<ys.length:=λi hi=>gD.mp^hq.pm.mem_iff.mp hi;clear u hc hq;generalize q.toList=l at all;induction l with
   | nil=>show .nil
   | cons i l ih =>
    let hi:=all i (by simp);show .cons ?_ (ih λj hj=>all j^by simp[hj]);let#[e1,m1]:=atk i hi;show#[(ys.getD i ((0,none),0)).2,?_,?_];change(List.map (λz=>Value.ref z.snd) ys).getD i Value.none=_;rw[xV,bB,xV,g7 hi];rfl;change((ys.map (·.1)).getD i (0,none),_)∈zs;rw[e1];show hys.mem_iff.mp m1
  .have:=(hq.pm.map λi=>(ys.map (·.1)).getD i (0,none)).mem_iff (a:=k);rw[this];let e:=range_getD (ys.map (·.1)) ((0,none):bV);rw[au] at e;rw[e];show(hys.map (·.1)).mem_iff
  .rw[oM];intro i j hi hj hij;rw[au,d8,hq.sz] at hi hj;have:=u i j hij hj;unfold SN.kv at this;rw[yG,yG];let g:∀i(hi:i<q.toList.length),q.toList[i]=q.getD i 0:=λi hi=>by rw[Array.getD_eq_getD_getElem?,<- gR,g7 hi];rfl
   rw[g,g];show this
end HM
namespace SN
open PySem PySem.W PySem.Spec PyProof.Rows
end SN
namespace L2
variable {k:HM.bV}{kvs:ia}{xs:List (HM.bV×ae×J)}
def fS(H:Hp):HM.gA->V->O
 | none,v=>v=.str "mark"
 | some p,v=>∃a,v=¬a/\H a=!.tup [.int p.1,.int p.2]
def bw(H:Hp)(v:V)(k:HM.bV):=∃a u,v=¬a/\H a=!.tup [.int k.1,u]/\fS H k.2 u
abbrev cF(H:Hp):List V->List HM.bV->Prop:=Paired^bw H
def fS.same{k:HM.gA}(h:fS H k v)(s:az H H'):fS H' k v:=by
 cases k with
 | none=>show h
 | some p=>let#[a,e,q]:=h;show#[a,e,s _ _ q]
theorem bw.same(h:bw H v k)(s:az H H'):bw H' v k:=let⟨a,u,e,q,t⟩:=h;#[a,u,e,s _ _ q,t.same s]
theorem cF.same{vs:List V}{ks:List HM.bV}(h:cF H vs ks)(s:az H H'):cF H' vs ks:=Paired.LU h λz z x=>x.same s
def adr:V->ae
 | .ref a=>a
 | _=>0
theorem bw.adr(h:bw H v k):v=¬L2.adr v:=by let#[a,u,Y,_]:=h;rfl
section
variable {U:St}
def Inv.thg(I:Inv X X1 U H s){k:HM.gA}(h:fS H k v)(r:RelV v u):HM.iA ap k u:=by
 cases k with
 | none =>
  let h:v=.str "mark" := h;subst h;show r
 | some p =>
  let#[a,Y,q]:=h;cases r;let#[o,n,t,u,h1,h2,h3]:=I.pair q;show#[a,o,n,t,u,Y,h1,h2,h3]
def Inv.hrm(I:Inv X X1 U H s)(h:bw H (¬a) k):HM.cP ap k a:=by
 let#[a',u,e,q,t]:=h;cases e;let#[_,XL,r,o,h1,h2,n,h3]:=(show dS bj cr H ap a^.tup [.int k.1,u] from I.hok a _ q);cases r with
 | cons r1 r =>
  cases r with
  | cons r2 r =>
   cases r;let#[t1,Y]:=r1;show#[o,n,t1,_,h1,h2,h3,I.thg t r2]
def zD(P:de)(w:cw)(p:ae)(zs:List (HM.bV×ae)):cv->Prop:=λh=>HM.Dg P w (not (SG.cT w)) h p zs
def Yx(K:aB)(P:de)(w:cw):List V->Hp->VK->Prop:=λxs H Q=>∃(l:ae)(vs:List V)(ks:List HM.bV),xs=[¬l]/\bJ K H l vs/\cF H vs ks/\ks.length<=4 /\
 ∀p H' zs,gU H p (.ext (zD P w p zs)) H'->(∀z∈zs,bw H (¬z.2) z.1)->(∀k,k∈zs.map (·.1)↔k∈ks)->Q (¬p) H'
theorem MT(hu:X.A.units+64<cLine)(hc:X.calm=am):fj X (.type "set")^Yx dq bj X.w:=by
 intro X1 s U H xs us Q I r h;let#[l,vs,ks,Y,hl,hk,h4,q]:=h;let#[u,Y,ru]:=vals1 r;cases ru;let#[XL,rv,#[ol,n0,e1,e2,e3,e4],_]:=I.list hl;let isl:s.heap.IsList l XL.toArray:=#[ol,e1,e2,n0,e4];let Ff:dv=ks.length:=hk.length;let hsz:XL.toArray.size=ks.length:=by have:=rv.length;rw[bC];lia
 let QR:∀i,i<ks.length->bw H (¬adr^vs.getD i^.int 0)^ks.getD i (0,none)/\vs[i]?=!.ref^adr^vs.getD i^.int 0:=λi hi=>by
  let He:i<vs.length:=∅;let#[k,Md,Kk]:=tE hk (i:=i) (x:=vs[i])^g7 He;let e1:vs.getD i^.int 0=vs[i]:=by rw[xV,g7 He];rfl
  let e2:ks.getD i (0,none)=k:=by rw[xV,Md];rfl
  rw[e1,e2,<- Kk.adr];show#[Kk,g7 He]
 show HM.QI (val:=λi=>(ks.getD i (0,none),adr^vs.getD i^.int 0)) ∅ (I.ok.hd hc) isl (λi v hv=>?_) ∅ λh' tk hS hkp=>?_
 .have hi:i<ks.length:=by have:=(qF.mp hv).1;lia
  let#[a1,a2]:=QR i hi;let#[u,hu,ru]:=rv.get a2;rw[mS,hu] at hv;cases hv;cases ru;show#[Y,I.hrm a1]
 .rw[hsz] at hS;show#[¬M,_,I.laid (t':=tk) (λb o e=>hkp b o (aN e) e) (aq _) (o:=.ext (zD X.prog X.w s.heap.objs.size _)) #[hS,?_,λh1 h2 hp he=>hp.at' he],rfl,q _ _ _ #[I.hok.fresh^aq _,rfl] (λz hz=>?_) λk=>?_];let#[o,_,_,_,ho,_]:=hS;show#[o,ho];let#[j,hj,Y]:=HM.Fg _ _ _ hz;show(QR j hj).1;rw[HM.QH];constructor;rintro⟨j,hj,rfl⟩;change ks.getD j (0,none)∈ks;rw[xV,g7 hj];show lD hj;intro hn;let#[j,hj,e5]:=qW.mp hn;show#[j,hj,?_];change k=ks.getD j (0,none);rw[xV,g7 hj,<- e5];rfl
def QL(P:de)(w:cw):List V->Hp->VK->Prop:=λxs H Q=>∃(p:ae)(zs:List (HM.bV×ae)),xs=[¬p]/\H p=!.ext (zD P w p zs)/\(∀z∈zs,bw H (¬z.2) z.1)/\(∀z∈zs,HM.OkH z.1)/\(∀z∈zs,∀y∈zs,HM.Alike z.1 y.1) /\
 ∀q H' vs ks,gU H q (.lst vs) H'->cF H vs ks->(∀k,k∈ks↔k∈zs.map (·.1))->ks.Pairwise (λx y=>HM.vM x<HM.vM y)->Q (¬q) H'
theorem Iz(hu:X.A.units+64<cLine)(hc:X.calm=am):fj X (.builtin "sorted")^QL bj X.w:=by
 intro X1 s U H xs us Q I r h;let#[p,zs,Y,hp,hz,hok,NM,q]:=h;let#[u,Y,ru]:=vals1 r;cases ru;let#[hS,_,_]:=I.hok p _ hp;let h4:zs.length<=4:=by let#[_,_,_,_,_,_,_,_,_,_,_,h4,_]:=hS;show h4
 show HM.Fi ∅ (I.ok.hd hc) hS (λz Hk=>I.hrm^hz z Hk) hok NM λa h' d' tk c vs ks hle hk ho hP hmem Qq Os=>?_;let hV:∀{vs:List J}{ks:List HM.bV},Paired (λv k=>∃a,v=Value.ref a/\(k,a)∈zs) vs ks->∃us:List V,Vals us vs/\cF H us ks:=by
  intro vs ks r;induction r with
  | nil=>show#[[],.nil,.nil]
  | cons h _ ih =>
   let#[a,Y,hm]:=h;let#[us,u1,u2]:=ih;show#[.ref a::us,.cons Y u1,.cons (hz _ hm) u2]
 let#[us,u1,u2]:=hV hP;let hl:dC<=sizeLine:=by let e1:=u1.length;rw[sizeLine_eq];lia
 show#[¬a,_,(I.drw d').laid (t':=tk) hk hle (o:=.lst us) #[hl,vs,c,u1,ho],Y,q _ _ us ks #[I.hok.fresh hle,Y] u2 hmem Qq]
def abZ{vs:List V}{ks:List HM.bV}(hl:bJ K H l vs)(hk:cF H vs ks)(h4:ks.length<=4)(h:∀p H' zs,gU H p (.ext (zD P w p zs)) H'->(∀z∈zs,bw H (¬z.2) z.1)->(∀k,k∈zs.map (·.1)↔k∈ks)->Q (¬p) H'):Yx K P w [¬l] H Q:=#[l,vs,ks,rfl,hl,hk,h4,h]
def VL{p:ae}{zs:List (HM.bV×ae)}(hp:H p=!.ext (zD P w p zs))(hz:∀z∈zs,bw H (¬z.2) z.1)(hok:∀z∈zs,HM.OkH z.1)(NM:∀z∈zs,∀y∈zs,HM.Alike z.1 y.1)(h:∀q H' vs ks,gU H q (.lst vs) H'->cF H vs ks->(∀k,k∈ks↔k∈zs.map (·.1))->ks.Pairwise (λx y=>HM.vM x<HM.vM y)->Q (¬q) H'):QL P w [¬p] H Q:=#[p,zs,rfl,hp,hz,hok,NM,h]
end
def fS.rd{k:HM.gA}{x:V}(h:fS H k x):RD K H x^HM.oq k:=by
 cases k with
 | none=>let h:x=.str "mark" := h;subst h;show .str _
 | some p=>let#[a,Y,q]:=h;show .tup (eB.of q)^.cons (.int _)^.cons (.int _) .nil
def QM(k:HM.gA):Sh 1^HM.oq k:=#[HM.yc k,HM.vJ k]
def Yy{k:HM.gA}{x:V}(h:fS H k x)(q:Q (.bl k.isNone) H):PK K x (.str "mark") H Q:=by show abG (HM.oq k) (.str "mark") 1 () h.rd (.str _) (QM k) (QM bc) ?_;have:=HM.Df k bc;rw[show PyData.str "mark" = HM.oq bc from Y,this];cases k<;>show q
abbrev ia:=List (HM.bV×ae×V)
def tK:ia->List (HM.bV×ae×J)->Prop:=Paired λ(p:HM.bV×ae×V)(q:HM.bV×ae×J)=>p.1=q.1/\p.2.1=q.2.1/\RelV p.2.2 q.2.2
def eY(P:de)(w:cw)(d:ae)(ep:B)(kvs:ia):cv->Prop:=λh=>ce<=sizeLine/\(d==sysModules)=bo/\∃xs,tK kvs xs/\∃o es,h.get? d=!o/\o.ExactDict/\o.data=.dict es ep/\es.toList=xs.map^entryOfKey^HM.iN P w/\(xs.map (·.1)).Nodup
def cU(H:Hp)(kvs:ia):=∀x∈kvs,bw H (¬x.2.1) x.1
theorem cU.same(h:cU H kvs)(s:az H H'):cU H' kvs:=λx hx=>(h x hx).same s
noncomputable def ou(kvs:ia)(k:HM.bV):Option V:=(kvs.find? λx=>decide (x.1=k)).map (·.2.2)
noncomputable def lX(kvs:ia)(k:HM.bV)(a:ae)(v:V):ia:=if(ou kvs k).isSome then kvs.map (λx=>if x.1=k then(x.1,x.2.1,v) else x) else kvs++[(k,a,v)]
def tK.val(r:tK kvs xs)(k:HM.bV):lG (ou kvs k)^(atKey xs k).map (·.2):=by
 unfold tK at r;induction r with
 | nil=>show gH
 | @cons p q ps qs h t ih =>
  unfold ou atKey at ih ⊢;rw[kj,kj,<- h.1];by_cases e:p.1=k;rw[decide_eq_true e];show h.2.2;rw[decide_eq_false e];show ih
def tK.put(r:tK kvs xs)(k:HM.bV)(ry:RelV y u):tK (lX kvs k b y)^storedH xs k b u:=by
 let e:(ou kvs k).isSome=(atKey xs k).isSome:=by rw[(r.val k).j4,Option.isSome_map]
 unfold lX storedH;rw[e];by_cases q:(atKey xs k).isSome=am
 .rw[if_pos q,if_pos q];clear e q;unfold tK at r ⊢;induction r with
  | nil=>show .nil
  | @cons p q ps qs h t ih =>
   rw[cu,cu];show .cons ?_ ih;let#[h1,h2,h3]:=h;unfold putAt;by_cases e:p.1=k;rw[if_pos e,if_pos^h1.symm.trans e];show#[h1,h2,ry];rw[if_neg e,if_neg (λz=>e^h1.trans z)];show#[h1,h2,h3]
 .rw[if_neg q,if_neg q];show dY r #[Y,Y,ry]
def Fj(kvs:ia)(k:HM.bV)(a:ae)(v:V):(lX kvs k a v).length<=ce+1:=by unfold lX;split<;>simp
section
variable {U:St}{kvs:ia}{k:HM.bV}
def DH(P:de)(w:cw)(H:Hp)(d:ae)(ep:B)(kvs:ia):=H d=!.ext (eY P w d ep kvs)/\cU H kvs
def Inv.dh(I:Inv X X1 U H s)(h:DH bj cr H d ep kvs):ce<=sizeLine/\(d==sysModules)=bo/\∃xs,tK kvs xs/\s.heap.DictOfH (HM.iN bj cr) d xs:=by
 let#[#[z,hd,xs,WP,o,es,h1,h2,h3,h4,h5],_,_]:=I.hok d _ h.1;show#[z,hd,xs,WP,o,es,ep,h1,h2,h3,h4,λx hx=>?_,h5];let all:∀{kvs:ia}{xs:List (HM.bV×ae×J)},tK kvs xs->cU H kvs->∀x∈xs,HM.cP ap x.1 x.2.1:=by
  intro kvs xs r;unfold tK at r;induction r with
  | nil=>intro _ x hx;show nomatch hx
  | @cons p q ps qs hq t ih =>
   intro hk x hx;rcases aJ.mp hx with e|hx
   .subst e;have:=I.hrm (hk p^by simp);rw[hq.1,hq.2.1] at this;show this
   .show ih (λy hy=>hk y^by simp[hy]) x hx
 show all WP h.2 x hx
theorem KH(hu:A.units+64<cLine):(HM.iN bj cr).room A.in1:=by change A.in1.units+2<cLine;erw[Around.in1];lia
def zE{Q:J->aw->O}(hu:A.units+64<cLine)(I:Inv X X1 U H s)(h:DH bj cr H d ep kvs)(hb:bw H (¬b) k)(hv:ou kvs k=!v)(q:∀w' s',Inv X X1 U H s'->RelV v w'->Q w' s'):
  wpAny (model bj cr) A (getItem (¬d)^¬b) Q E s:=by let#[z,hd,xs,WP,dd]:=I.dh h;let#[w',hw,Pm]:=lG.some_of (v:=v) (o:=(atKey xs k).map (·.2)) (by rw[<- hv];show WP.val k);let#[p,hp,FC]:=cL.mp hw;show wpAny_getItem_heap (KH hu) (I.hrm hb) dd hp ?_;rw[FC];show q w' _ (I.tok _) Pm
def IA(z:ce<=sizeLine)(hd:(d==sysModules)=bo)(WP:tK kvs xs)(dd:h'.DictOfH (HM.iN bj cr) d xs):∃ep,∀{H':Hp},dS bj cr H' h' d^.ext (eY X.prog X.w d ep kvs):=by let#[o,es,ep,h1,h2,h3,h4,_,h5]:=dd;show#[ep,λ{H'}=>#[#[z,hd,xs,WP,o,es,h1,h2,h3,h4,h5],#[o,h1],λg1 g2 hp he=>?_]];let#[z,hd,xs,WP,o,es,h1,h2]:=hp;show#[z,hd,xs,WP,o,es,he _ h1,h2]
theorem zF{r:J}{Q:Unit->aw->O}(hu:A.units+64<cLine)(I:Inv X X1 U H s)(h:DH bj cr H d ep kvs)(hb:bw H (¬b) k)(hl:ce<sizeLine)(rv:RelV v r)
  (q:∀wo s',Inv X X1 U (upd H d^.ext (eY X.prog X.w d wo^lX kvs k b v)) s'->Q Unit.unit s'):wpAny (model X.prog X.w) A (setItem (¬d) (¬b) r) Q E s:=by
 let#[z,hd,xs,WP,dd]:=I.dh h;let hz:ab<=sizeLine:=by rw[<- kR WP];show z
 let N0:(lX kvs k b v).length<=sizeLine:=by have:=Fj kvs k b v;lia
 show wpAny_setItem_heap (hsz:=hz) (KH hu) (I.hrm hb) dd λh' dd' hs=>?_;let#[wo,KK]:=IA (X:=X) N0 hd (WP.put k rv) dd';show q wo _ ?_;let ho:=KK (H':=upd H d^.ext (eY X.prog X.w d wo^lX kvs k b v));show CW I (by rw[h.1];show gH) hs ho.2.1 ho
end
def QN(P:de)(w:cw):R2:=λx y H Q=>∃d b ep kvs k v,x=¬d/\y=¬b/\DH P w H d ep kvs/\bw H (¬b) k/\ou kvs k=!v/\Q v H
def QO(P:de)(w:cw)(v x y:V)(H:Hp)(R:Hp->O):=∃d b ep kvs k,x=¬d/\y=¬b/\DH P w H d ep kvs/\bw H (¬b) k/\ce<=1000000/\∀wo H',nU H d (.ext (eY P w d wo^lX kvs k b v)) H'->R H'
def QS(P:de)(w:cw)(td ty tv:TE):TS:=λD U H=>tv U H λv H1=>td U H1 λx H2=>ty U H2 λy H3=>QO P w v x y H3 λH4=>D.nx U H4
def QT(P:de)(w:cw)(td ty tv:TE)(rd:V->V->Hp->VK->O):TS:=λD U H=>td U H λx H1=>ty U H1 λy H2=>QN P w x y H2 λv H3=>tv U H3 λy2 H4=>rd v y2 H4 λz H5=>QO P w z x y H5 λH6=>D.nx U H6
def QU(P:de)(w:cw):TE:=λz H Q=>∀p ep H',gU H p (.ext (eY P w p ep [])) H'->Q (¬p) H'
section
variable {o i:dr}{ty:TE}
def Fl:PE X (.Dict [] [] pos)^QU bj X.w:=λX1 s U H Q I h =>
 let⟨ep,ho⟩:=IA (X:=X) (kvs:=[]) (aQ _) (beq_eq_false_iff_ne.mpr^aM^aU I.big) .nil (Heap.DictOfH.new ap)
 wpAny_Dict_empty #[¬M,_,I.laid (a:=M) (o:=.ext (eY X.prog X.w s.heap.objs.size ep [])) (t':=s.toks) (λz z q=>eT _ q) (aq _) ho,rfl,h _ ep _ #[I.hok.fresh^aq _,rfl]]
def Inv.dhT{U:St}(I:Inv X X1 U H s)(h:DH bj cr H d ep kvs):s.TypeIs (¬d) "dict" := by let#[_,_,_,_,dd]:=I.dh h;show dd.typeIs
def lY(hu:X.A.units+64<cLine)(ho:PE X o td)(hi:PE X i ty)(hs:O6 i):PE X (.Subscript o i pos)^El (QN bj cr) td ty:=by intro X1 s U H Q I h;show CY PySem.F.slot_dict_getitem.lookup hs (cM (ho X1 s U H _ I h) λu s1 zq=>?_);let#[x,H1,I1,rx,q1]:=zq;show cM (hi X1 s1 U H1 _ I1 q1) λiv s2 zq=>?_;let#[y,H2,I2,ry,d,b,ep,kvs,k,v,ex,ey,hd,hb,hv,q2]:=zq;subst ex ey;obtain rfl:u=Value.ref d:=rx;obtain rfl:iv=Value.ref b:=ry;show#[I2.dhT hd,zE hu I2 hd hb hv λw' s3 I3 Pm=>#[v,H2,I3,Pm,q2]]
theorem Fo(hu:X.A.units+64<cLine)(ho:PE X o td)(hi:PE X i ty)(hv:PE X value tv)(hs:swapsWith value (!.Subscript o i PQ) pos.line bi=pure bo):
  PS X (.Assign [.Subscript o i PQ] value pos)^QS bj cr td ty tv:=by intro X1 s U H D I h;show wpAny_Assign_Subscript (cM (hv X1 s U H _ I h) λr s1 zq=>?_) hs;let#[v,H1,I1,rv,q1]:=zq;show cM (ho X1 s1 U H1 _ I1 q1) λu s2 zq=>?_;let#[x,H2,I2,rx,q2]:=zq;show cM (hi X1 s2 U H2 _ I2 q2) λiv s3 zq=>?_;let#[y,H3,I3,ry,d,b,ep,kvs,k,ex,ey,hd,hb,hl,q3]:=zq;subst ex ey;obtain rfl:u=Value.ref d:=rx;obtain rfl:iv=Value.ref b:=ry;show zF hu I3 hd hb (by rw[sizeLine_eq];lia) rv λwo s4 I4=>#[U,_,I4,q3 wo _ rfl]
theorem QV{op:Operator}{rd:V->V->Hp->VK->O}(hu:X.A.units+64<cLine)(ho:PE X o td)(hi:PE X i ty)(hv:PE X value tv)(hop:UD X op rd)
  (ha:∀ov iv new,augStore i ov iv new=(do holding [new,ov,iv]^setItem ov iv new;release [new,ov,iv] [];pure .next)):PS X (.AugAssign (.Subscript o i tpos) op value pos)^QT bj cr td ty tv rd:=by intro X1 s U H D I h;show wpAny_AugAssign_SubscriptAny (cM (ho X1 s U H _ I h) λu s1 zq=>?_) ha;let#[x,H1,I1,rx,q1]:=zq;show cM (hi X1 s1 U H1 _ I1 q1) λiv s2 zq=>?_;let#[y,H2,I2,ry,d,b,ep,kvs,k,v,ex,ey,hd,hb,Os,q2]:=zq;subst ex ey;obtain rfl:u=Value.ref d:=rx;obtain rfl:iv=Value.ref b:=ry;show zE hu I2 hd hb Os λw' s3 I3 Pm=>cM (hv X1 s3 U H2 _ I3 q2) λw2 s4 zq=>?_;let#[y2,H3,I4,ry2,q3]:=zq;show cM (hop X1 s4 U H3 v y2 w' w2 _ I4 Pm ry2 q3) λw3 s5 zq=>?_;let#[z,H4,I5,rz,d5,b5,ep5,aqL,k5,ex5,ey5,VM,hb5,Yz,q4]:=zq;cases ex5;cases ey5;show zF hu I5 VM hb5 (by rw[sizeLine_eq];lia) rz λwo s6 I6=>#[U,_,I6,q4 wo _ rfl]
end
noncomputable def QW(P:de)(w:cw)(d:ae)(ep:B)(kvs:ia):It :=
 #[λi H=>H d=!.ext (eY P w d ep kvs)/\i<kvs.length,λi H x H'=>H'=H/\∃e,kvs[i]?=!e/\x=¬e.2.1,λi H=>H d=!.ext (eY P w d ep kvs)/\i=kvs.length]
theorem Inv.raw{U:St}(I:Inv X X1 U H s)(h:H d=!.ext (eY X.prog X.w d ep kvs)):
  (d==sysModules)=bo/\ce<=sizeLine/\∃es:Array DictEntry,SN.lW ap d es ep/\cq=ce/\∀(i:B) e,kvs[i]?=!e->∃u,es[i]?=!u/\u.key=¬e.2.1/\RelV e.2.2 u.val:=by
 let#[#[z,hd,xs,WP,o,es,h1,h2,h3,h4,h5],_,_]:=I.hok d _ h;let hl:ab=kvs.length:=(kR WP).symm;let hs:cq=xs.length:=by rw[<- d8,h4,au]
 show#[hd,z,es,#[o,h1,h2,h3],∅,λi e he=>?_];let#[x,hx,r1,r2,r3]:=tE WP he;show#[entryOfKey (HM.iN bj cr) x,?_,?_,?_];rw[<- gR,h4,bB,hx];rfl;change Value.ref x.2.1=_;rw[r2];show r3
def IB(d it:ae)(ep:B)(kvs:ia):Turn P w K tg (QW P w d ep kvs) [it] it (λi h=>h.IsKeyIter it d i ce ep) where
 mem:=by simp
 obj:=λi h st b hb=>by
  let e:b=it:=by simpa using hb
  subst e;let#[o,e,c,dd]:=st;show#[o,e,λv z=>by rw[dd] at z;cases z]
 keep:=λi h h' st k=>st.at λo e=>k it (by simp) o e
 item:=by
  intro X hP hw hK hc i X1 s U H E I hf st hg;subst hP hw hK;let#[hd,hi]:=hg;let#[_,_,es,rd,hs,QR]:=I.raw hd;let#[f0,f1,f2,f3,f4,f5]:=hf it (by simp);let he:kvs[i]?=some kvs[i]:=g7 hi;let#[u,hu,hk,_]:=QR i _ he;rw[<- hs] at st;show SN.tD (I.ok.hd hc) st rd (λu' Fb h' Ts sb=>?_) λh=>by rw[hu] at h;cases h
  rw[hu] at Fb;cases Fb;let I1:Inv X X1 U H { s with heap:=h' }:=I.turned (t':=s.toks) (λb o hb e=>(sb.2 b hb).trans e) f0 f1 f3 f4 f5;rw[hs] at Ts;let#[o,e,c,dd]:=id Ts;show#[u.key,Y,Ek (s:={ s with heap:=h' }) e c dd () #[.ref kvs[i].2.1,H,I1,hk,#[Y,_,he,Y],Ts,λb hb=>(hf b hb).1]]
 done:=by intro X hP hw hK hc i X1 s U H E I hf st hg;subst hP hw hK;let#[hd,hi]:=hg;let#[_,_,es,rd,hs,QR]:=I.raw hd;let#[f0,f1,f2,f3,f4,f5]:=hf it (by simp);subst hi;rw[<- hs] at st;show SN.tD (I.ok.hd hc) st rd (λe h=>by rw[wm^aq _] at h;cases h) λq h' eb=>#[rfl,I.turned (t':=s.toks) (λb o hb e=>eb b o hb e) f0 f1 f3 f4 f5]
 self:=λq q q q q st h=>wpAny_pyIter_keyiter st h
def ab0(P:de)(w:cw)(R:It->Hp->O):V->Hp->Prop:=λx H=>∃d ep kvs,x=¬d/\H d=!.ext (eY P w d ep kvs)/\R (QW P w d ep kvs) H
def QX(P:de)(w:cw)(tl:TE):TI:=λU H R=>tl U H^ab0 P w R
def tL{l:dr}{tl:TE}(hl:PE X l tl):PI X tg l^QX bj cr tl:=by
 intro X1 s U H R I h;show cM (hl X1 s U H _ I h) λv s1 zq=>?_;let#[x,H1,I1,r1,q1]:=zq;let#[d,ep,kvs,e,hd,q]:=q1;subst e;cases r1;let#[lo,_,es,rd,hs,QR]:=I1.raw hd;show SN.EV lo rd ?_;show#[bv,[bv],_,_,H1,Y,I1.kept (t':=s1.toks) λb o e=>eT _ e,IB d _ ep kvs,#[_,jH _ rfl,Y,by rw[<- hs];rfl],λb hb=>?_,q];let e:b=s1.heap.objs.size:=by simpa using hb
 subst e;show I1.sy (aq _)^I1.hok.fresh^aq _
section
variable {nx bk ct:St->Hp->O}{U:St}
def afG{tl:TE}{R:It->Hp->O}(h:tl U H^ab0 P w R):QX P w tl U H R:=h
def aoC{R:It->Hp->O}(hd:H d=!.ext (eY P w d ep kvs))(h:R (QW P w d ep kvs) H):ab0 P w R (¬d) H:=#[d,ep,kvs,rfl,hd,h]
theorem VN{tb:TS}(Pv:B->St->Hp->O)(h0:Pv 0 U H)(hl:∀i U H,i<=ce->Pv i U H->H d=!.ext (eY P w d ep kvs))
  (hs:∀i e U H,kvs[i]?=!e->Pv i U H->g (¬e.2.1) U H λU2 H2=>tb #[Pv (i+1),rt,nx,Pv (i+1)] U2 H2)(hd:∀U H,Pv ce U H->nx U H):Pp (QW P w d ep kvs) g tb nx rt U H :=
 #[λi m U H=>m=ce-i/\i<=ce/\Pv i U H,#[ce,∅,∅,h0],λi m U' H' ⟨e,hi,p⟩=>by
  rcases bR i kvs.length with hlt|hge;show .inr #[#[hl i _ _ hi p,hlt],Pv (i+1),λU2 H2 q=>#[ce-(i+1),∅,Y,hlt,q],?_];rintro x H2 ⟨rfl,e,he,rfl⟩;show hs i e U' _ he p
  .have e:i=kvs.length:=∅;subst e;show .inl #[#[hl _ _ _ hi p,Y],hd _ _ p]]
theorem Dh{τ:St}(Pv:B->List V->Hp->O)(h0:Pv 0 [] H)(hl:∀i ys H,i<=ce->Pv i ys H->H d=!.ext (eY P w d ep kvs))
  (hs:∀i e ys H,kvs[i]?=!e->Pv i ys H->cf<sizeLine/\tt (some^.ref e.2.1::τ) H λb H3=>if b=am then te (some^.ref e.2.1::τ) H3 λy H4=>Pv (i+1) (ys++[y]) H4 else Pv (i+1) ys H3)
  (hd:∀ys H,Pv ce ys H->∀p H',gU H p (.lst ys) H'->Q (¬p) H'):HP (QW P w d ep kvs) tt te τ Q H:=by
 show#[λi m ys H=>m=ce-i/\i<=ce/\Pv i ys H,#[ce,by simp,aQ _,h0],?_];rintro i m ys H ⟨rfl,hi,p⟩;let q:=hl i ys H hi p;by_cases hlt:i<ce
 .have hx:kvs[i]?=some kvs[i]:=by simp[hlt]
  let#[hz,q']:=hs i _ ys H hx p;show .inr #[#[q,hlt],hz,Pv (i+1),λU' H' p'=>#[ce-(i+1),∅,Y,hlt,p'],λx H' y=>?_];let#[e,e2,he,y]:=y;subst e y;rw[hx] at he;cases he;show q'
 .have e:i=kvs.length:=∅;subst e;show .inl #[#[q,Y],λr hr=>hd ys H p r _ #[hr,Y]]
end
noncomputable def nj(ks:B->HM.bV×ae)(vs:B->V):B->ia
 | 0=>[]
 | n+1=>lX (nj ks vs n) (ks n).1 (ks n).2^vs n
theorem zG(ks:B->HM.bV×ae)(vs:B->V):∀n,(nj ks vs n).length<=n
 | 0=>aq _
 | n+1=>by let h1:=zG ks vs n;let h2:=Fj (nj ks vs n) (ks n).1 (ks n).2^vs n;change(lX (nj ks vs n) (ks n).1 (ks n).2^vs n).length<=n+1;lia
def MU(h:k∉kvs.map (·.1)):ou kvs k=none:=by unfold ou;rw[List.find?_eq_none.mpr λx hx e=>h^aG.mpr #[x,hx,by simpa using e]];rfl
def zH(h:k∉kvs.map (·.1)):lX kvs k a v=kvs++[(k,a,v)]:=by unfold lX;rw[MU h];rfl
theorem BO{ks:B->HM.bV×ae}{vs:B->V}:∀{n:B},(∀i j,i<j->j<n->(ks i).1≠(ks j).1)->nj ks vs n=(List.range n).map λi=>((ks i).1,(ks i).2,vs i)
 | 0,_=>rfl
 | n+1,h=>by let ih:=BO (ks:=ks) (vs:=vs) (n:=n) λi j hi hj=>h i j hi ∅;change lX (nj ks vs n) (ks n).1 (ks n).2^vs n=_;rw[ih,zH,ve,bf];rfl;intro hm;let#[x,hx,e]:=aG.mp hm;let#[i,hi,Y]:=aG.mp hx;show h i n (gD.mp hi) ∅ e
def VO(dd:h.DictOfH (HM.iN prog w) d xs)(hd:d≠it)(hi:∀o vs n,h.get? it=!o->o.data≠.seq vs n)(k:∀b o,b≠it->h.get? b=!o->h'.get? b=!o):h'.DictOfH (HM.iN prog w) d xs:=by let#[o,es,ep,h1,h2,h3,h4,h5,h6]:=dd;show#[o,es,ep,k d o hd h1,h2,h3,h4,λx hx=>?_,h6];show HM.cP.stay (h5 x hx) λb o vs n q ds e=>k b o (λz=>by subst z;show hi o vs n e ds) e
theorem Fp{XL:Array J}{ks:B->HM.bV×ae}{vs:B->V}{Q:J->aw->O}(hu:A.units+20<cLine)(hx:PlainL ap l XL)(hh:A.in1.in1.handled=bc)(hn:n<=sizeLine)(hsz:XL.size=n)
  (hp:∀i,i<n->∃(T:ae)(v:J)(o:du)(c:B),XL[i]?=!.ref T/\s.heap.get? T=!o/\o.cls=.type "tuple" /\ o.data=.seq #v[¬(ks i).2,v] c/\HM.cP ap (ks i).1 (ks i).2/\RelV (vs i) v)
  (q:∀h' tk rs,(∀b o,s.heap.get? b=!o->h'.get? b=!o)->h'.DictOfH (HM.iN prog w) M rs->tK (nj ks vs n) rs->Q (¬M) { s with heap:=h',toks:=tk }):
  wpAny (model prog w) A (call (.type "dict") [¬l]) Q E s:=by show BE (D:=λi h=>∃rs,h.DictOfH (HM.iN prog w) M rs/\tK (nj ks vs i) rs) hx (EJ hh) hh hsz #[[],Heap.DictOfH.new ap,.nil] (λi h h' it ⟨rs,dd,WP⟩ ne nd k=>#[rs,VO dd (aM ne) nd k,WP]) (λi hi=>?_) λh t k ⟨rs,dd,WP⟩=>q h t rs k dd WP;let#[T,v,o,c,a1,a2,a3,a4,hk,rv]:=hp i hi;show#[T,_,v,o,c,a1,a2,a3,a4,λh t Q E k y g=>?_];let#[rs,dd,WP]:=y;show wpAny_dictSet_heap (hsz:=by rw[<- kR WP];show aZ (zG ks vs i)^aZ (f6 hi) hn) (by change A.in1.in1.units+2<cLine;erw[Around.in1];lia) (HM.cP.stay hk λb o z z z z e=>k b o e) dd λh2 d2 sb=>g h2 _ #[_,d2,WP.put (ks i).1 rv] sb
abbrev tM(H:Hp):List V->List (HM.bV×ae×V)->Prop:=Paired λu p=>∃t,u=¬t/\H t=!.tup [¬p.2.1,p.2.2]/\bw H (¬p.2.1) p.1
def YA(K:aB)(P:de)(w:cw):List V->Hp->VK->Prop:=λvs H Q=>∃a us ps,vs=[¬a]/\bJ K H a us/\tM H us ps/\(ps.map (·.1)).Nodup/\∀p ep H',gU H p (.ext (eY P w p ep ps)) H'->Q (¬p) H'
end L2
namespace SN
def VP{es:Array DictEntry}(hd:(d==sysModules)=bo):
  MeetsIn prog w (Builtin.«dict.__len__» #[[¬d],[]]) (λz R s=>lW ap d es ep/\R (.ok^.ret^.int cq s.toks) { s with toks:=s.toks+1 }) :=
 .of_wp λA R s ⟨hm,h⟩=>by let#[o,ho,hc,hdat]:=hm;change wpAny _ _ (dictSize d >>= _) _ _ s;unfold dictSize;show av^av^wpAny_dictEntries ho hdat^aW ?_;change wpAny _ _ (Builtin.Dict.pendingCount d >>= _) _ _ s;show av^wpAny_pendingCount_other hd ?_;show wpAny_ret_mkInt ?_;rw[Nat.add_zero];show h
theorem Di{es:Array DictEntry}{Q:J->aw->O}(hd:(d==sysModules)=bo)(hm:lW ap d es ep)(SL:(cq:Z)<2 ^ 63)
  (h:Q (.int cq (s.toks+1)) { s with toks:=s.toks+1+1 }):wpAny (model prog w) A (call (.builtin "len") [¬d]) Q E s:=by
 show CB kind_len plain_len entry_len (args_len1 _) ?_;unfold Builtin.«len»;show av (m:=oneArg "len" _)^aW ?_;show av (m:=callSpecial? (¬d)^Str.ofString "__len__") (wpAny_callSpecial?_slot (name:=Str.ofString "__len__") hm.ty F.slot_dict_len
  (call_meetsIn F.slot_dict_len hm.ty F.entry_dict_len (F.args_dict_len_1 _) (VP (es:=es) (ep:=ep) hd) #[hm,?_]))
 change wpAny _ _ _ _ _ { s with toks:=s.toks+1 };show av^wpAny_holding^aW ?_;show av^wpAny_letGo ?_;change wpAny _ _ (if((cq:B):Z)<0 then _ else _) _ _ _;rw[if_neg ∅];change wpAny _ _ (if((cq:B):Z)>=2 ^ 63 then _ else _) _ _ _;rw[if_neg ∅];show av^wpAny_mkInt^aW #[_,Y,h]
end SN
namespace L2
variable {kvs:ia}
def YB(P:de)(w:cw):List V->Hp->VK->Prop:=λxs H Q=>∃d ep kvs,xs=[¬d]/\H d=!.ext (eY P w d ep kvs)/\Q (.int kvs.length) H
theorem BP:fj X (.builtin "len")^YB bj X.w:=by intro X1 s U H xs us Q I r h;let#[d,ep,kvs,Y,hd,q]:=h;let#[u,Y,ru]:=vals1 r;cases ru;let#[lo,z,es,rd,hs,QR]:=I.raw hd;show SN.Di lo rd (by rw[sizeLine_eq] at z;lia) ?_;show#[.int ce,H,I.tok _,#[_,by rw[hs]],q]
def alr(hd:H d=!.ext (eY P w d ep kvs))(q:Q (.int kvs.length) H):YB P w [¬d] H Q:=#[d,ep,kvs,rfl,hd,q]
def afH(K:aB)(P:de)(w:cw):List V->Hp->VK->Prop:=λxs H Q=>∃d ep kvs T b,xs=[¬d,.ty T]/\H d=!.ext (eY P w d ep kvs)/\PySem.W.kitOne K (.type "dict")^.type T=!b/\Q (.bl b) H
def adK:fj X (.builtin "isinstance")^afH dq bj X.w:=by
 intro X1 s U H xs us Q I r h;let#[d,ep,kvs,T,b,Y,hd,e,q]:=h;cases r with
 | cons r1 r =>
  cases r with
  | cons r2 r =>
   cases r;cases r1;cases r2;let#[lo,z,es,#[o,h1,h2,_],hs,QR]:=I.raw hd;show g8 PySem.W.kitx_dict I.sr #[o,h1,h2.1] e (λz=>nomatch z) λtk=>#[.bl b,H,I.tok _,Y,q]
theorem zI{us:List V}{ps:ia}(h:tM H us ps)(hi:i<cn):∃t,us[i]?=!.ref t/\H t=!.tup [¬(ps.getD i ((0,none),0,.cH)).2.1,(ps.getD i ((0,none),0,.cH)).2.2]/\bw H (¬(ps.getD i ((0,none),0,.cH)).2.1) (ps.getD i ((0,none),0,.cH)).1:=by
 let hl:=h.length;let#[p,hp,t,e,h1,h2]:=tE h (i:=i) (x:=us[i]'∅)^g7 _;let ep:ps.getD i ((0,none),0,.cH)=p:=by rw[xV,hp];rfl
 rw[ep];show#[t,by rw[g7 ∅,e],h1,h2]
theorem zJ(hu:X.A.units+64<cLine)(hc:X.calm=am):fj X (.type "dict")^YA dq bj X.w:=by
 intro X1 s U H xs us Q I r h;let#[l,ul,ps,Y,hS,hP,nd,q]:=h;let#[u,Y,r1]:=vals1 r;cases r1;let#[XL,rv,pl,hz]:=I.list hS;let e1:ul.length=ps.length:=hP.length;let hA:X.A.in1.in1.handled=none:=I.ok.hd hc;let big:@LT.lt B _ sysModules s.heap.objs.size:=I.big;let n6:@Ne B M sysModules:=∅;let hl:=rv.length;let eb:nj (λi=>((ps.getD i ((0,none),0,.cH)).1,(ps.getD i ((0,none),0,.cH)).2.1)) (λi=>(ps.getD i ((0,none),0,.cH)).2.2) cn=ps:=by
  rw[BO];show range_getD _ ps
  .intro i j hi hj e;let gi:∀k(hk:k<cn),ps.getD k ((0,none),0,.cH)=ps[k]:=λk hk=>by rw[xV,g7 hk];rfl
   dsimp only at e;rw[gi i ∅,gi j hj] at e;have:=(yF nd (i:=i) (j:=j) (h₀:=by rw[au];lia) (h₁:=by rw[au];lia)).mp (by rw[yG,yG];show e);lia
 show Fp (n:=cn) (ks:=λi=>((ps.getD i ((0,none),0,.cH)).1,(ps.getD i ((0,none),0,.cH)).2.1)) (vs:=λi=>(ps.getD i ((0,none),0,.cH)).2.2) ∅ pl hA ∅ (by rw[bC];lia) (λi hi=>?_) λh' tk rs k' d' WP=>?_
 .let#[t,ht,htt,hh]:=zI hP hi;let#[w,hw,Pm]:=rv.get ht;cases Pm;let#[Q1,rv2,pt,_]:=I.tuple^eB.of htt;let#[o,ho,Gc,n,hd]:=pt;cases rv2 with
  | cons a1 b1 =>
   cases b1 with
   | cons a2 b2 =>
    cases b2;cases a1;show#[t,_,o,n,by simpa using hw,ho,Gc,hd,I.hrm hh,a2]
 .rw[eb] at WP;let I3:Inv X X1 U H { s with heap:=h',toks:=tk }:=I.kept k';let fd:lJ X X1 H s.heap.objs.size:=I.sy (aq _)^I.hok.fresh^aq _;let#[ep,ho]:=IA (X:=X) (by rw[<- e1];show hz) (beq_eq_false_iff_ne.mpr n6) WP d';let I4:=I3.Bw fd (o:=.ext (eY X.prog X.w s.heap.objs.size ep ps)) ho;show#[¬_,_,I4,Y,q _ ep _ #[fd.1,Y]]
def KI{us:List V}{ps:ia}(hS:bJ K H a us)(hP:tM H us ps)(nd:(ps.map (·.1)).Nodup)(h:∀p ep H',gU H p (.ext (eY P w p ep ps)) H'->Q (¬p) H'):YA K P w [¬a] H Q:=#[a,us,ps,rfl,hS,hP,nd,h]
section
variable {nx bk ct:St->Hp->O}{U:St}{ty:TE}
def aiY(h:∀p ep H',gU H p (.ext (eY P w p ep [])) H'->Q (¬p) H'):QU P w U H Q:=h
def tN{k:HM.bV}(hd:H d=!.ext (eY P w d ep kvs))(hk:cU H kvs)(hb:bw H (¬b) k)(hv:ou kvs k=!v)(h:Q v H):QN P w (¬d) (¬b) H Q:=#[d,b,ep,kvs,k,v,rfl,rfl,#[hd,hk],hb,hv,h]
def QY{k:HM.bV}{R:Hp->O}(hd:H d=!.ext (eY P w d ep kvs))(hk:cU H kvs)(hb:bw H (¬b) k)(hz:kvs.length<=1000000)(h:∀wo H',nU H d (.ext (eY P w d wo^lX kvs k b v)) H'->R H'):QO P w v (¬d) (¬b) H R:=#[d,b,ep,kvs,k,rfl,rfl,#[hd,hk],hb,hz,h]
def aiZ(h:tv U H λv H1=>td U H1 λx H2=>ty U H2 λy H3=>QO P w v x y H3 λH4=>nx U H4):QS P w td ty tv #[nx,rt,bk,ct] U H:=h
def ai0{rd:V->V->Hp->VK->O}(h:td U H λx H1=>ty U H1 λy H2=>QN P w x y H2 λv H3=>tv U H3 λy2 H4=>rd v y2 H4 λz H5=>QO P w z x y H5 λH6=>nx U H6):QT P w td ty tv rd #[nx,rt,bk,ct] U H:=h
end
end L2
namespace SN
variable {es:Array DictEntry}
theorem BQ{Q:Option J->aw->O}(hh:A.handled=bc)(Wp:s.heap.IsValIter it d i cq ep)(x:lW ap d es ep)
  (hQ:∀e,es[i]?=!e->∀h',h'.IsValIter it d (i+1) cq ep->Heap.SameBut it ap h'->Q (!e.val) { s with heap:=h' })
  (hN:es[i]?=bc->∀h',Heap.ExtBut it ap h'->Q bc { s with heap:=h' }):wpAny (model prog w) A (pyNext^¬it) Q E s:=by
 let ty:=Wp.typeIs;let#[o,ho,hc,hf]:=Wp;let#[od,hod,_,BL]:=x;unfold pyNext;show av^wpAny_attempt^wpAny_callSpecial?_slot (name:=Str.ofString "__next__") ty F.slot_dict_valueiterator_next^wpAny_call_entry F.slot_dict_valueiterator_next ty F.entry_dict_valueiterator_next ?_^F.args_dict_valueiterator_next_1 _;show av^aW^av^av ?_
 first|show av (wpAny_typeNameOfWhole_valiter ty^aW^av^wpAny_fieldsOf ho hf ?_)|show av^wpAny_typeNameOf_valiter ty^aW^av^wpAny_fieldsOf ho hf ?_
 rw[show Builtin.Dict_items.ownsTuple "dict_valueiterator" = false by decide];erw[cJ,if_false];change wpAny _ _ (if(Value.ref d==Value.none)=am then _ else _) _ _ s;rw[if_neg^show Not ((Value.ref d==Value.none)=am) from oB];show av^aW^av^wpAny_dictEntries hod BL ?_;rw[if_neg^by simp];show av^aW^av^wpAny_dictEpoch hod BL ?_;rw[if_neg^by simp];show aW ?_;cases he:es[i]? with
 | some e =>
  erw[show Not ((i:Z)<0) by lia,if_false,iX,he];show av ?_
  first|show av (wpAny_typeNameOfWhole_valiter ty^aW^av^wpAny_isOneOf_valiter ty ?_)|show av^wpAny_typeNameOf_valiter ty^aW^av^wpAny_isOneOf_valiter ty ?_
  change wpAny _ _ (setField (¬it) 1 (rawInt ((i:Z)+1)) >>= _) _ _ s;let zf:(s.heap.update it^Obj.mapFields (·.setIfInBounds 1 (rawInt ((i:Z)+1)))).IsValIter it d (i+1) cq ep :=
   #[_,fF _ ho^jR^eU hf _,(mV ..).trans hc,by rw[eU hf];simp[rawInt]]
  show av^wpAny_setField ho hf (by simp)^av^wpAny_holding ?_;show av^wpAny_isOneOf_valiter (s:={ s with heap:=s.heap.update it (Obj.mapFields (·.setIfInBounds 1 (rawInt ((i:Z)+1)))) }) zf.typeIs ?_;show av (wpAny_isOneOf_valiter (s:={ s with heap:=s.heap.update it (Obj.mapFields (·.setIfInBounds 1 (rawInt ((i:Z)+1)))) }) zf.typeIs^show wpAny _ _ (pure e.val) _ _ _ from ?_);show aW^aW #[_,Y,aW^hQ e he _ zf (lz ..)]
 | none =>
  erw[show Not ((i:Z)<0) by lia,if_false,iX,he];show av ?_
  first|show av (wpAny_typeNameOfWhole_valiter ty^aW ?_)|show av^wpAny_typeNameOf_valiter ty^aW ?_
  change wpAny _ _ (setField (¬it) 0 .none >>= _) _ _ s;show av^wpAny_setField ho hf (by simp) (SG.sX (show A.in1.handled=bc from hh) λh' e o k he' hc=>av^wpAny_isInstance (T := "StopIteration") (b:=true) #[_,he',hc] isSubtype_stop^aW (hN he h' λb x hb e=>k _ _^(lz ..).extBut b x hb e))
def MV{v:ae}{Q:J->aw->O}(hv:s.heap.IsValuesView v d)(x:lW ap d es ep)
  (hQ:Q (¬M) { s with heap:=s.heap.push { cls:=.type "dict_valueiterator", data:=.fields #v[¬d,.int 0 0,.int cq 0,.int ep 0] } }):wpAny (model prog w) A (pyIter^¬v) Q E s:=by
 let#[ov,hov,hcv,hdv]:=id hv;let#[o,ho,hc,hdat]:=id x;show wpAny_pyIter_slot hv.typeIs F.slot_dict_values_iter^wpAny_call_entry F.slot_dict_values_iter hv.typeIs F.entry_dict_values_iter ?_^F.args_dict_values_iter_1 _;unfold Builtin.«dict_values.__iter__»;show av^aW ?_;show av ?_;unfold Builtin.Dict_items.dictOf;show av^wpAny_field hov hdv (x:=¬d) Y^aW ?_;show av ?_;unfold Builtin.Dict_items.newIterator;show av^wpAny_dictEntries ho hdat ?_;show av^wpAny_dictEpoch ho hdat ?_;let hown:Builtin.Dict_items.ownsTuple "dict_valueiterator" = false:=()
 erw[hown,cJ,if_false];show wpAny_newObj_type^aW #[_,Y, "dict_valueiterator", _,#[_,jH _ rfl,Y],F.slot_dict_valueiterator_next.lookup,?_];simpa[rawInt] using hQ
def IC(hh:A.handled=bc)(I d:ae)(UV:d≠I)(es:Array DictEntry)(ep:B):Walks prog w A I [I,d] [I] cq (λi v=>∃e,es[i]?=!e/\v=e.val) (λi h=>h.IsValIter I d i cq ep/\lW h d es ep) where
 sub:=λb hb=>by simp at hb;simp[hb]
 frame:=λz z z st hk=>#[st.1.at λo e=>hk I (by simp) o e,st.2.at' λo e=>hk d (by simp) o e]
 item:=λi s Q E hi st hQ=>by show BQ hh st.1 st.2 (λe e1 h' h1 h2=>hQ _ h' s.toks #[_,e1,Y] #[h1,st.2.at' λo e=>h2.extBut d o UV e] λb o hb e=>h2.extBut b o (λh=>hb^by simp[h]) e) λh=>by rw[iy hi] at h;cases h
 done:=λs Q E st hQ=>BQ hh st.1 st.2 (λe h=>by rw[wm^aq _] at h;cases h) λz h' h1=>hQ h' s.toks λb o hb e=>h1 b o (λh=>hb^by simp[h]) e
 self:=λz z z z st hQ=>wpAny_pyIter_valiter st.1 hQ
def ID{v:ae}{num:B->Z}{Q:J->aw->O}(hh:A.handled=bc)(hv:s.heap.IsValuesView v d)(x:lW ap d es ep)(UV:0<cq)(hn:∀(i:B)(e:DictEntry),es[i]?=!e->∃t,e.val=Value.int (num i) t)
  (h:∀u h' tk,(∃e,es[argBest (λi j=>decide (num i>num j)) (cq-1)]?=!e/\u=e.val)->(∀b o,s.heap.get? b=!o->h'.get? b=!o)->Q u { s with heap:=h',toks:=tk }):
  wpAny (model prog w) A (call (.builtin "max") [¬v]) Q E s:=by
 let#[o,ho,r]:=id x;let hlt:=aN ho;show call_max_walk^MV hv x ?_;show#[_,_,_,_,_,_,_,Y,IC (A:=A.in1) hh M d (aU hlt) es ep,#[#[_,jH _ rfl,Y,Y],x.at' λo e=>eT _ e],?_,UV,CmpOf.ints_gt num (λi u ⟨e,he,eu⟩=>by let#[t,ht]:=hn i e he;show#[t,by rw[eu,ht]]),λu h' tk hP hk=>?_]
 .intro b hb;rw[fM];simp at hb;rcases hb with e|e;subst e;show f9 _;subst e;show jl hlt
 .show h u h' tk hP λb o e=>hk b o (λhm=>by simp at hm;subst hm;show absurd (aN e)^fu _)^eT _ e
def IE(hd:(d==sysModules)=bo):
  MeetsIn prog w (Builtin.«dict.values» #[[¬d],[]]) (λz R s=>lW ap d es ep /\
   R (.ok^.ret^¬M) { s with heap:=s.heap.push { cls:=.type "dict_values", data:=.fields #v[¬d] } }) :=
 .of_wp λA R s ⟨hm,h⟩=>by show av ?_;unfold Builtin.Dict.noArgs;show av^wpAny_notOrdered_dict hm.ty ?_;change wpAny _ _ (pure d) _ _ s;show aW ?_;change wpAny _ _ (Builtin.Dict.showsAll d >>= _) _ _ s;unfold Builtin.Dict.showsAll;rw[if_neg (by rw[hd];show oB)];show av^aW ?_;show av^wpAny_newObj_type^aW #[_,Y,h]
end SN
namespace L2
variable {kvs:ia}
def Fq(v d:ae):cv->Prop:=λh=>h.IsValuesView v d
section
variable {o f:dr}{ty:TE}
def afI{U:St}(I:Inv X X1 U H s)(h:H d=!.ext (eY X.prog X.w d ep kvs)):
  s.TypeIs (¬d) "dict" /\ (∀b,Value.ref d=¬b->∃ob,s.heap.get? b=!ob/\ob.dict=bc)/\(d==sysModules)=false:=by let#[lo,_,es,rd,_,_]:=I.raw h;show#[rd.ty,λb q=>?_,lo];cases q;let#[ob,h1,h2,_]:=rd;show#[ob,h1,h2.2.1]
def QZ(P:de)(w:cw)(Q:VK):V->Hp->Prop:=λx H=>∃d ep kvs,x=¬d/\H d=!.ext (eY P w d ep kvs)/\∀v H',gU H v (.ext (Fq v d)) H'->Q (¬v) H'
def YC(P:de)(w:cw)(td:TE):TE:=λU H Q=>td U H^QZ P w Q
def Q2(ho:PE X o td)(Kb:attributeBase o "values" bi^eval o bi=eval o bi)(Jn:(Tl.endLine==Tx.line)=am):PE X (.Call (.Attribute o "values" Tl) [] [] Tx)^YC bj cr td:=by intro X1 s U H Q I h;show wpAny_Call_method0_late Kb Jn (cM (ho X1 s U H _ I h) λu s1 zq=>?_);let#[x,H1,I1,r1,d,ep,kvs,ex,hd,q1]:=zq;subst ex;obtain rfl:u=Value.ref d:=r1;let#[t1,t2,lo]:=afI I1 hd;let#[_,_,es,rd,_,_]:=I1.raw hd;show#["dict", _,PySem.F.plainAttrs_dict,PySem.F.slot_dict_values,PySem.F.type_dict_values,t1,t2,yx Y^PySem.evalArgs_none ?_];show call_meetsIn PySem.F.slot_dict_values t1 PySem.F.entry_dict_values (PySem.F.args_dict_values_1 _) (SN.IE (es:=es) (ep:=ep) lo) #[rd,?_];show#[¬bv,_,I1.laid (a:=bv) (o:=.ext (Fq s1.heap.objs.size d)) (t':=s1.toks) (λz z q=>eT _ q) (aq _) #[#[_,jH _ rfl,rfl,rfl],#[_,jH _ rfl],λg1 g2 ⟨ob,a1,a2⟩ he=>#[ob,he _ a1,a2]],rfl,q1 _ _ #[I1.hok.fresh^aq _,rfl]]
def YD(P:de)(w:cw):List V->Hp->VK->Prop:=λxs H Q=>∃(v d:ae)(ep:B)(kvs:ia)(ns:List Z),xs=[¬v]/\H v=!.ext (Fq v d)/\H d=!.ext (eY P w d ep kvs)/\kvs.map (·.2.2)=ns.map V.int/\ns≠[]/\∀m,m∈ns->(∀x∈ns,x<=m)->Q (.int m) H
theorem MW(hc:X.calm=am):fj X (.builtin "max")^YD bj X.w:=by
 intro X1 s U H xs us Q I r h;let#[v,d,ep,kvs,ns,Y,hv,hd,en,UV,q]:=h;let#[u,Y,ru]:=vals1 r;cases ru;let#[vv,_,_]:=I.hok v _ hv;let#[lo,z,es,rd,hs,QR]:=I.raw hd;let hl:ce=ns.length:=by have:=congrArg List.length en;simpa using this
 let hpos:0<es.size:=by
  rw[hs,hl];cases ns with
  | nil=>show absurd Y UV
  | cons=>simp
 let hn:∀(i:B)(e:DictEntry),es[i]?=!e->∃t,e.val=Value.int (ns.getD i 0) t:=λi e he=>by
  let hi:i<kvs.length:=by rw[<- hs];show(qF.mp he).1
  let#[u,hu,_,hr]:=QR i _^g7 hi;rw[he] at hu;cases hu;let e1:kvs[i].2.2=V.int^ns.getD i 0:=by
   have:(kvs.map (·.2.2))[i]?=(ns.map V.int)[i]?:=by rw[en]
   rw[bB,bB,g7 hi,g7 (show i<ns.length by lia)] at this;rw[xV,g7 (show i<ns.length by lia)];show Option.some.inj this
  rw[e1] at hr;show hr
 show SN.ID (num:=λi=>ns.getD i 0) (I.ok.hd hc) vv rd hpos hn λu h' tk hu k=>?_;let#[e,he,Y]:=hu;let#[b1,b2]:=oZ (λi=>ns.getD i 0) (cq-1);let#[t,ht]:=hn _ _ he;rw[ht];let at_:∀i,i<ns.length->ns[i]?=!ns.getD i 0:=λi hi=>by rw[xV,g7 hi];rfl
 show#[.int _,H,I.kept k,#[_,Y],q _ (ie (at_ _ ∅)) λx hx=>?_];let#[i,hi]:=ir.mp hx;let GT:=(fK hi).1;rw[at_ i GT] at hi;rw[<- Option.some.inj hi];show b2 i ∅
end
section
variable {o i f:dr}{ty:TE}
def vN(e1:bj=P)(e2:cr=w)(hu:X.A.units+64<cLine)(ho:PE X o td)(hi:PE X i ty)(hs:O6 i):PE X (.Subscript o i pos)^El (QN P w) td ty:=e1▸e2▸lY hu ho hi hs
end
section
variable {U:St}{ty:TE}
def alu(h:td U H^QZ P w Q):YC P w td U H Q:=h
def ai1(hd:H d=!.ext (eY P w d ep kvs))(h:∀v H',gU H v (.ext (Fq v d)) H'->Q (¬v) H'):QZ P w Q (¬d) H:=#[d,ep,kvs,rfl,hd,h]
def ab1{v:ae}(hv:H v=!.ext (Fq v d))(hd:H d=!.ext (eY P w d ep kvs))(en:kvs.map (·.2.2)=ns.map V.int)(UV:ns≠[])(h:∀m,m∈ns->(∀x∈ns,x<=m)->Q (.int m) H):YD P w [¬v] H Q:=#[v,d,ep,kvs,ns,rfl,hv,hd,en,UV,h]
end
end L2
namespace MX
section
variable {P:B->J->O}{St:B->cv->O}
def nm:(toString "max" ++ toString ".loop" : String) = "max.loop" := by decide
theorem loop(W:Walks prog w A.in1 I fp wr n P St)(bt:B->B->ci)(hcmp:CmpOf prog w A.in1 .Gt P bt)(S:ae)(Nw:S∉fp):
  ∀(k j:B)(s:aw)(vb:J)(c:B),n-(j+1)=k->j+1<=n->St (j+1) ap->P (argBest bt j) vb ->
  s.heap.get? S=!{ cls:=.type "list", dict:=none,data:=.seq #v[vb,vb] c,slots:=#[] } ->
  (∀v h' tk,P (argBest bt (n-1)) v->(∀b o,b∉wr->b≠S->s.heap.get? b=!o->h'.get? b=!o)->R (.ok^.ret v) { s with heap:=h',toks:=tk }) ->
  codeAny (model prog w) A (.builtin "max.loop" #[[¬I,.none,¬S],kw]) R s:=by
 let hSw:S∉wr:=λh=>Nw^W.sub _ h;intro k;induction k with
 | zero =>
  intro j s vb c hk hj TC hPb hS hR;let Rs:j+1=n:=∅;show codeAny_builtin F.entry_max_loop ?_;rw[kQ mR _];show(show wpAny _ A.in1 (seqItems? (¬S) >>= _) _ _ s from av^wpAny_seqItems hS Y ?_);show(show wpAny _ A.in1 (tryCatch (pyNext^¬I) _ >>= _) _ _ s from av^wpAny_tryCatch (W.done s _ _ (Rs▸TC) λh' tk Qr=>?_));show(show wpAny _ A.in1 (updateSeq S (λz=>#[]) >>= _) _ _ _ from av^wpAny_updateSeq (Qr S _ hSw hS) Y^av^wpAny_letGo^aW ?_);show hR vb _ tk (by rw[<- Rs];show hPb) λb o KJ VQ e=>(jI _ _^aM VQ).trans^Qr b o KJ e
 | succ k ih =>
  intro j s vb c hk hj TC hPb hS hR;let hlt:j+1<n:=∅;show codeAny_builtin F.entry_max_loop ?_;rw[kQ mR _];show(show wpAny _ A.in1 (seqItems? (¬S) >>= _) _ _ s from av^wpAny_seqItems hS Y ?_);show(show wpAny _ A.in1 (tryCatch (pyNext^¬I) _ >>= _) _ _ s from av^wpAny_tryCatch (W.item (j+1) s _ _ hlt TC λv h' tk hP IF Qr=>?_));let No:=Qr S _ hSw hS;show(show wpAny _ A.in1 (tryCatch (holding [v,v] (richCompare .Gt v vb >>= _)) _ >>= _) _ _ _ from av^wpAny_tryCatch^wpAny_holding^av^hcmp (j+1) (argBest bt j) v vb _ _ _ hP hPb ?_);show av^wpAny_holding^wpAny_truthy_bool^av^wpAny_letGo^aW ?_;cases hb:bt (j+1)^argBest bt j with
  | true =>
   erw[if_true];show av^wpAny_updateSeq No Y^av^wpAny_letGo ?_;rw[nm];show aW #[plainId_quiet mR _,ih (j+1) _ v _ ∅ hlt (W.frame _ _ _ IF λb hbf o e=>(jI _ _ (λh:S=b=>Nw (by rw[h];show hbf))).trans e) (by erw[argBest,hb,if_true];show hP) (fF _ No Y) λv' h'' Q3 hP' Q4=>?_];show hR v' h'' Q3 hP' λb o KJ VQ e=>Q4 b o KJ VQ^(jI _ _^aM VQ).trans^Qr b o KJ e
  | false =>
   erw[cJ,if_false];show av^wpAny_letGo ?_;rw[nm];show aW #[plainId_quiet mR _,ih (j+1) _ vb c ∅ hlt IF (by erw[argBest,hb,cJ,if_false];show hPb) No λv' h'' Q3 hP' Q4=>hR v' h'' Q3 hP' λb o KJ VQ e=>Q4 b o KJ VQ^Qr b o KJ e]
def first(W:Walks prog w A.in1 I fp wr n P St)(bt:B->B->ci)(hcmp:CmpOf prog w A.in1 .Gt P bt)(S:ae)(Nw:S∉fp)(hn:0<n){c:B}(TC:St 0 ap)
  (hS:s.heap.get? S=!{ cls:=.type "list", dict:=none,data:=.seq #[] c,slots:=#[] })
  (hR:∀v h' tk,P (argBest bt (n-1)) v->(∀b o,b∉wr->b≠S->s.heap.get? b=!o->h'.get? b=!o)->R (.ok^.ret v) { s with heap:=h',toks:=tk }):
  codeAny (model prog w) A (.builtin "max.loop" #[[¬I,.none,¬S],kw]) R s:=by let hSw:S∉wr:=λh=>Nw^W.sub _ h;show codeAny_builtin F.entry_max_loop ?_;rw[kQ mR _];show(show wpAny _ A.in1 (seqItems? (¬S) >>= _) _ _ s from av^wpAny_seqItems hS Y ?_);show(show wpAny _ A.in1 (tryCatch (pyNext^¬I) _ >>= _) _ _ s from av^wpAny_tryCatch (W.item 0 s _ _ hn TC λv h' tk hP IF Qr=>?_));let No:=Qr S _ hSw hS;show(show wpAny _ A.in1 (updateSeq S (λz=>#v[v,v]) >>= _) _ _ _ from av^wpAny_updateSeq No Y ?_);rw[nm];show aW #[plainId_quiet mR _,loop W bt hcmp S Nw _ 0 _ v _ rfl hn (W.frame _ _ _ IF λb hbf o e=>(jI _ _ (λh:S=b=>Nw (by rw[h];show hbf))).trans e) hP (fF _ No Y) λv' h'' Q3 hP' Q4=>?_];show hR v' h'' Q3 hP' λb o KJ VQ e=>Q4 b o KJ VQ^(jI _ _^aM VQ).trans^Qr b o KJ e
def none_{d:J}(W:Walks prog w A.in1 I fp wr 0 P St)(S:ae)(Nw:S∉fp){c:B}(TC:St 0 ap)
  (hS:s.heap.get? S=!{ cls:=.type "list", dict:=none,data:=.seq #[] c,slots:=#[] })
  (hR:∀h' tk,(∀b o,b∉wr->s.heap.get? b=!o->h'.get? b=!o)->R (.ok^.ret d) { s with heap:=h',toks:=tk }):
  codeAny (model prog w) A (.builtin "max.loop" #[[¬I,.none,¬S],[(x,d)]]) R s:=by show codeAny_builtin F.entry_max_loop ?_;rw[kQ mR _];show(show wpAny _ A.in1 (seqItems? (¬S) >>= _) _ _ s from av^wpAny_seqItems hS Y ?_);show(show wpAny _ A.in1 (tryCatch (pyNext^¬I) _ >>= _) _ _ s from av^wpAny_tryCatch (W.done s _ _ TC λh' tk Qr=>?_));change wpAny _ A.in1 (rule _ >>= _) _ _ _;show av^wpAny_rule^aW^hR h' tk Qr
end
theorem VR{id:String}{b:Builtin}{args:List J}{Q:J->aw->O}(hk:builtinKind id=bc)(hp:plainId id=am)(hb:entryFor table id=!b)(ha:argsOk id #[args,kw])
  (hc:wpAny (model prog w) A.in1 (b #[args,kw]) (λfin s'=>match fin with
   | .done f=>(match(Except.ok f:Result) with|.ok (.ret v)=>Q v s'|.ok _=>False|.error e=>E e s')
   | .again c'=>c'.quiet=am/\codeAny (model prog w) A c' (λr s'=>match r with|.ok (.ret v)=>Q v s'|.ok _=>False|.error e=>E e s') s') E s):wpAny (model prog w) A (call (.builtin id) args kw) Q E s:=by
 show wpAny_call^codeAny_call_builtin hp hb ?_;erw[checkBuiltinCall,hk];cases alw:Manifest.signature? id with
 | none=>show aW hc
 | some sig =>
  let h2:Bind.checkArgs id sig #[args,kw]=pure Unit.unit:=by simpa only[argsOk,alw] using ha
  show(show wpAny _ A.in1 (Bind.checkArgs id sig #[args,kw]) _ _ s from ?_);rw[h2];show aW hc
def MY(a d:J):argsOk "max" #[[a],[("default", d)]]:=by unfold argsOk;kernel_rfl
theorem MZ{x d:J}{Q:J->aw->O}
  (h:wpAny (model prog w) A.in1 (pyIter x) (λit s₂=>∃I fp wr n P St bt,it=¬I/\Walks prog w A.in1 I fp wr n P St/\St 0 s₂.heap/\(∀b∈fp,b<s₂.heap.objs.size)/\CmpOf prog w A.in1 .Gt P bt /\
   ∀v h' tk,(if n=0 then v=d else P (argBest bt (n-1)) v)->(∀b o,b∉wr->s₂.heap.get? b=!o->h'.get? b=!o)->Q v { s₂ with heap:=h',toks:=tk }) E s):
  wpAny (model prog w) A (call (.builtin "max") [x] [("default", d)]) Q E s:=by
 show VR F.kind_max F.plain_max F.entry_max (MY _ _) ?_;show(show wpAny _ A.in1 (Builtin.Builtins.bindParams "max" ["key", "default"] 0 #[[],[("default", d)]] >>= _) _ _ s from ?_);show av^wpAny_of_eq (show Builtin.Builtins.bindParams "max" ["key", "default"] 0 #[[],[("default", d)]]=pure [none,!d] by first|rfl|kernel_rfl) ?_;show av^aW^av (wpAny_mono h (λit s₂ h₂=>?_) λz z e=>e);let#[I,fp,wr,n,P,St,bt,Y,W,TC,hfp,hcmp,hQ]:=h₂;show av^wpAny_newObj_type ?_;let Nw:s₂.heap.objs.size∉fp:=λhm=>fu _^hfp _ hm;rw[nm];let IF:=W.frame 0 s₂.heap (s₂.heap.push { cls:=.type "list", data:=.seq ([]:List J).toArray }) TC λb z o e=>eT _ e;rcases vg n with e|hn
 .subst e;show aW #[plainId_quiet mR _,none_ W s₂.heap.objs.size Nw IF (jH _ rfl) λh' tk hk=>?_];show hQ d h' tk (by rw[if_pos Y]) λb o KJ e=>hk b o KJ^eT _ e
 .show aW #[plainId_quiet mR _,first W bt hcmp s₂.heap.objs.size Nw hn IF (jH _ rfl) λv h' tk hP hk=>?_];show hQ v h' tk (by rw[if_neg ∅];show hP) λb o KJ e=>hk b o KJ (aU^aN e)^eT _ e
end MX
namespace L2
def KL(K:aB)(vs:List V)(y:V)(H:Hp)(Q:VK):=∃p xs d,vs=[¬p]/\y=.int d/\bJ K H p^xs.map V.int/\∀m:Z,(xs=[]->m=d)->(xs≠[]->m∈xs/\∀x∈xs,x<=m)->Q (.int m) H
def YE(K:aB)(t:TA)(tv:TE):TE:=λU H Q=>t U H λvs H1=>tv U H1 λy H2=>KL K vs y H2 Q
section
variable {v:dr}{p kp:Pos}{t:TA}
theorem VS{U:St}{vs:List V}{d:J}(hc:X.calm=am)(I:Inv X X1 U H s)(r:Vals vs us)(ry:RelV y d)(h:KL dq vs y H Q):
  wpAny (model bj cr) X.A (call (.builtin "max") us [("default", d)]) (EP X X1 U Q) E s:=by
 let#[p,xs,dd,Y,Y,hS,q]:=h;let#[u,Y,ru]:=vals1 r;cases ru;let#[t0,Y]:=ry;let#[XL,rv,pl,hz]:=I.list hS;let#[ps,Y,e]:=BG rv;let hl:s.heap.IsList p^intItems ps.toArray:=by have:=pl.isList;rw[show(ps.map λp=>Value.int p.1 p.2).toArray=intItems ps.toArray by unfold intItems;simp] at this;show this
 let hsz:(intItems ps.toArray).size=ps.length:=by simp[intItems]
 let Q5:ab=ps.length:=by rw[<- e,au]
 show MX.MZ (iter_intList hl λs₂ e2 st hfp hlI=>?_);subst e2;show#[_,_,_,_,_,_,_,Y,Walks.list (A:=X.A.in1) (I.ok.hd hc) _ p hlI^intItems ps.toArray,st,hfp,CmpOf.ints_gt (numAt ps.toArray) (λj j=>intItems_at),λu h' tk hP hk=>?_];rw[hsz] at hP;let kept:=old_kept (s:=s) (l:=p) hk;by_cases h0:cn=0;rw[if_pos h0] at hP;let ex:xs=[]:=List.eq_nil_of_length_eq_zero ∅;subst hP;show#[.int dd,H,I.kept kept,#[t0,Y],q dd (λj=>rfl) λz=>absurd ex z]
 .rw[if_neg h0] at hP;let#[t1,Y]:=intItems_at hP;let#[b1,b2]:=oZ (numAt ps.toArray) (cn-1);let at_:∀i,i<cn->xs[i]?=!numAt ps.toArray i:=λi hi=>by rw[<- e];simp[numAt,g7 hi]
  show#[.int _,H,I.kept kept,#[t1,Y],q _ (λz=>?_) λj=>#[ie (at_ _ ∅),λx hx=>?_]];rw[z] at Q5;show absurd Q5.symm h0
  .let#[i,hi]:=ir.mp hx;let GT:i<ps.length:=by rw[<- Q5];show(fK hi).1
   rw[at_ i GT] at hi;rw[<- Option.some.inj hi];show b2 i ∅
def VT(hc:X.calm=am)(hg:Gl X "max")(hm:X.mg "max" = none)(ha:PA X [e] t)(hv:PE X v tv)(he:backTo pos^starEach [e] bi=(false,eval e bi)::backTo pos^starEach [] bi)(WF:(backTo pos^starEach [e] bi).any (·.1)=bo)(NM:(backToKw pos^keywordEach [#[!"default", v,kp]] bi).all (·.1.isSome)=am)(hkw:(backToKw pos^keywordEach [#[!"default", v,kp]] bi).any (·.1.isNone)=bo)(hfm:(backToKw pos^keywordEach [#[!"default", v,kp]] bi).filterMap (·.1)=[("default" : ax)]):PE X (.Call (.Name "max" p) [e] [#[!"default", v,kp]] pos)^YE dq t tv:=by intro X1 s U H Q I h;show wpAny_Call_Name_kw^jL I hg hm BT.Yl ?_;show callWith_kw (kws:=[#[!"default", v,kp]]) ?_ he WF NM hkw;show cM (ha pos X1 s U H _ I h) λus s1 zq=>?_;let#[vs,H1,I1,r1,q1]:=zq;show kws_cons (cM (hv X1 s1 U H1 _ I1 q1) λd s2 zq=>?_);let#[y,H2,I2,ry,q2]:=zq;show kws_nil ?_;rw[hfm];show VS hc I2 r1 ry q2
end
section
variable {U:St}{t:TA}
def ai4(h:t U H λvs H1=>tv U H1 λy H2=>KL K vs y H2 Q):YE K t tv U H Q:=h
def ab2{p:ae}{xs:List Z}{d:Z}(hS:bJ K H p^xs.map V.int)(h:∀m:Z,(xs=[]->m=d)->(xs≠[]->m∈xs/\∀x∈xs,x<=m)->Q (.int m) H):KL K [¬p] (.int d) H Q:=#[p,xs,d,Y,Y,hS,h]
end
section
variable {κ:Type} [DecidableEq κ] {knd:HeapKind prog w κ}
end
end L2
namespace SN
end SN
namespace L2
variable {fr:List ax}
section
variable {o:dr}
end
section
variable {U:St}
end
set_option genInjectivity false in
set_option genSizeOf false in
set_option genSizeOfSpec false in
structure DD (K:aB) (mg:Str->Option Value) (n:Str) (st:Stmt) (ps:List Str) where
 f:Addr
 d:FuncData
 F:Fun K n n st f d
 b:Binds K d ps []
 m:mg n=!.ref f
set_option genInjectivity false in
set_option genSizeOf false in
set_option genSizeOfSpec false in
structure CI (mg:Str->Option Value) (n:Str) (i:Int) where
 t:Tok
 c:mg n=!.int i t
set_option genInjectivity false in
set_option genSizeOf false in
set_option genSizeOfSpec false in
structure CT (K:aB) (mg:Str->Option Value) (n:Str) (vs:List V) where
 a:Addr
 c:mg n=!.ref a
 q:fq K a vs
section
variable {n:ax}{kV:J}
abbrev Q6(n:ax)(st:Stmt)(ps:List ax):=∀(kV Sr pm:J)(an:Option ae)(cdv ct:J)(us:List J),dC=cn->bindArgs (PySem.W.fnOf n n (gI st) (fO st) (ay st) .none kV Sr pm an cdv ct) #[us,[]]=pure^ps.zip us
noncomputable def afK(X:K.In h)(G:h.Ns mainGlobals mg)(hb:Q6 n st ps)(e:PySem.W.nsIn K mainGlobals n=!!.ref f)(l:K.lookup f=some #[oc,od,.func^PySem.W.fnOf n n (gI st) (fO st) (ay st) .none kV dc pm an cd ct,sl])
  (c:PySem.W.codeIn K cd n=am)(k:PySem.W.keepIn K^.ref f=am):DD K mg n st ps:=#[f,_,CZ l c k,(CZ l c k).binds hb,kT X G e]
noncomputable def afL{i:Z}{t:Tok}(X:K.In h)(G:h.Ns mainGlobals mg)(e:PySem.W.nsIn K mainGlobals n=!!.int i t):CI mg n i:=#[t,kT X G e]
noncomputable def afM{vs:List V}{XL:Array J}(X:K.In h)(G:h.Ns mainGlobals mg)(e:PySem.W.nsIn K mainGlobals n=!!.ref a)(l:K.lookup a=some #[.type "tuple", od,.seq XL j,sl])(r:Vals vs XL.toList)(hz:XL.size<=1000):CT K mg n vs:=#[a,kT X G e,fq.mk' l r^Nat.ble_eq.mpr hz]
def DD.bind1(D:DD K mg n st [x])(hb:Q6 n st [x])(s:aw)(v:J):BindsTo s D.d #[[v],[]] [(x,v)]:=by let#[_,_,kV,dc,pm,an,cd,ct,_,e,_,_]:=D.F.ex;rw[e];show .of_eq^hb kV dc pm an cd ct [v] Y
end
section
variable {n:ax}{p:Pos}{t:TA}
def aK(D:DD dq X.mg n st ps)(F:bK bj cr dq X.mg X.base fX k D.f D.d ps sp)(r:jb j X.A)(ha:PA X (e::es) t)(hk:k<=j:=by walk_at "do")(hg:⇑(Gl X n))(hdb:↥((n==("__debug__" : ax))=false))
  (he:⇑(starEach (e::es) bi=(false,eval e bi)::starEach es X.env))(WF:⇑((backTo pos^starEach es bi).any (·.1)=false)):PE X (.Call (.Name n p) (e::es) [] pos) (OX sp [] E0 t) :=
 sC F (r.mono hk) hg D.m D.F.kp D.b .nil iV ha hdb he WF
end
set_option genInjectivity false in
set_option genSizeOf false in
set_option genSizeOfSpec false in
structure DC (K:aB) (mg:Str->Option Value) (n:Str) (C:Addr) where
 m:mg n=!.ref C
 cl:AL K C
 mz:PySem.W.makesIn K C=true
 kp:PySem.W.keepIn K^.ref C=true
set_option genInjectivity false in
set_option genSizeOf false in
set_option genSizeOfSpec false in
structure DM (K:aB) (C:Addr) (x n:Str) (st:Stmt) (ps:List Str) where
 f:Addr
 d:FuncData
 F:Fun K x n st f d
 b:Binds K d ps []
 me:Meth K C x f
set_option genInjectivity false in
set_option genSizeOf false in
set_option genSizeOfSpec false in
structure DF (K:aB) (mg:Str->Option Value) (n:Str) (st:Stmt) (ps:List Str) where
 f:Addr
 d:FuncData
 v:Value
 F:U0 K n n st f d v
 b:Binds K d ps []
 m:mg n=!.ref f
section
variable {n:ax}{kV:J}
def DC.mk2{qn:ax}(D:DC K mg n C)(Y1:DM K C "__init__" qn st ps):Mk K C Y1.f:=#[D.mz,Y1.me.at_,Y1.me.fn,D.kp]
def afN(X:K.In h)(G:h.Ns mainGlobals mg)(e:PySem.W.nsIn K mainGlobals n=!!.ref C)(c1:PySem.W.plainGet K C Str.empty=am)(c2:PySem.W.hasDictIn K C=am)(c3:PySem.W.plainOver K C=am)(c4:PySem.W.findIn K (¬C) "__setattr__" = !!.builtin "object.__setattr__")
  (c5:PySem.W.makesIn K C=am)(c6:PySem.W.keepIn K^.ref C=am):DC K mg n C:=#[kT X G e,#[c1,c2,c3,c4],c5,c6]
def afO(hb:∀(kV Sr pm:J)(an:Option ae)(cdv ct:J)(us:List J),dC=cn->bindArgs (PySem.W.fnOf x n (gI st) (fO st) (ay st) .none kV Sr pm an cdv ct) #[us,[]]=pure^ps.zip us)
  (e:PySem.W.findIn K (¬C) x=!!.ref f)(i:PySem.W.isFn K^.ref f=am)(l:K.lookup f=some #[oc,od,.func^PySem.W.fnOf x n (gI st) (fO st) (ay st) .none kV dc pm an cd ct,sl])
  (c:PySem.W.codeIn K cd n=am)(k:PySem.W.keepIn K^.ref f=am):DM K C x n st ps:=#[f,_,CZ l c k,(CZ l c k).binds hb,#[e,i,k]]
def afP{T:ae}{o:du}{XV:Array J}(X:K.In h)(G:h.Ns mainGlobals mg)(e:PySem.W.nsIn K mainGlobals n=!!.ref f)(l:K.lookup f=some #[oc,od,.func^PySem.W.fnOf n n (gI st) (fO st) (ay st) (¬T) kV dc pm an cd ct,sl])
  (c:PySem.W.codeIn K cd n=am)(k:PySem.W.keepIn K^.ref f=am)(dl:K.lookup T=!o)(hs:o.data=.seq XV j)
  (hb:∀us:List J,dC=cn->∃g:Option^Array J->Sem^List (ax×J),bindArgs (PySem.W.fnOf n n (gI st) (fO st) (ay st) (¬T) kV dc pm an cd ct) #[us,[]]=seqItems? (¬T) >>= g/\g^some XV=pure^ps.zip us):DF K mg n st ps :=
 #[f,_,_,U1 l c k,EI dl hs Y hb,kT X G e]
end
section
variable {nx bk ct:St->Hp->O}{U:St}
end
section
variable {o:dr}{ty:TE}
end
section
variable {U:St}{t:TA}
end
section
variable {a b:dr}
def bu(i:B)(hN:X.N.Nodup)(he:PE X e te)(hi:⇑(X.N[i]?=!x))(hx:‹Loc X.env.scope x›)(hs:⇑(swapsWith e (!.Name x PQ) pos.line bi=pure false))(hf:‹X.fn x=am\/X.env.scope.names.lookup x=!.local›):
  PS X (.Assign [.Name x PQ] e pos)^OF te^gc i:=aaG hN hi hx he hs hf
def fH(i:B)(hN:X.N.Nodup)(hi:⇑(X.N[i]?=!x))(hx:‹Loc X.env.scope x›)(hf:‹X.fn x=am\/X.env.scope.names.lookup x=!.local›):PG X (.Name x pos)^gc i:=JM hN hi hx hf
def aI{r:R2}(hr:IxR X r)(ha:PE X a ta)(hb:PE X b tb)(hs:JX b:=by exact λz z=>rfl):PE X (.Subscript a b pos)^El r ta tb:=aeH hr ha hb hs
def bZ{op:CmpOp}{r:R2}(ho:kO X (compareOp op) r)(ha:PE X a ta)(hb:PE X b tb)(hm:behindInMarks op b=false:=by exact i9 _):PT X (.Compare a [op] [b] pos)^wz^El r ta tb:=dJ ho ha hb hm
def bG.cz(x:ax)(fr:List ax)(ix:List B)(nm:List ax)(clos:closureFor scope bi=pure cl)(calm:⇑(X.calm=true))(cell:(∀y∈scope.names,y.2≠.cell)⁻¹)(kind:⇑(scope.kind=.function))
  (names:(∀y∈scope.names,y.2=.local->scope.names.lookup y.1=!.local)⁻¹)(loc:⇑(scope.names.lookup x=!.local))(nd:((x::fr).Nodup)⁻¹)
  (hcl:EB (λp=>X.env.cells.lookup p.1=!p.2) cl:=by walk_at "rp")(hnm:⇑(cl.map (·.1)=nm))(QP:(∀z∈scope.names,z.2=.free->z.1∈nm)⁻¹)(XB:⇑(fr.length=ix.length))
  (hfx:EB (λp=>X.N[p.2]?=!p.1/\X.env.kindOf p.1=!.cell/\(relabel scope bi).names.lookup p.1=!.cell)^fr.zip ix:=by walk_at "rq"):bG X scope cl x fr ix :=
 bG.caps calm clos cell kind names loc nd hcl hnm QP XB hfx
def bG.pz(calm:⇑(X.calm=true))(cell:(∀y∈scope.names,y.2≠.cell)⁻¹)(free:(∀y∈scope.names,y.2≠.free)⁻¹)(kind:⇑(scope.kind=.function))
  (names:(∀y∈scope.names,y.2=.local->scope.names.lookup y.1=!.local)⁻¹)(loc:⇑(scope.names.lookup x=!.local)):bG X scope [] x [] []:=bG.plain calm cell free kind names loc
def gk.oz(xs:List ax)(X2:bG X scope cl x fr ix)(nd:((xs++fr).Nodup)⁻¹):gk X scope cl xs fr ix:=gk.of X2 nd
def Ft(i:B){y:ax}{py Pi px:Pos}{ST iter:dr}{ifs:List dr}{wi:TI}(hN:X.N.Nodup)(X2:bG X scope cl x fr ix)(hi:PI X (.Name x px) iter wi)
  (ht:∀C fp s H,PF (uV X (x::fr) scope cl C fp s H) ifs tt)(he:∀C fp s H,PE (uV X (x::fr) scope cl C fp s H) ST te)(hiy:⇑(X.N[i]?=!y))(hy:‹Loc X.env.scope y›)
  (hsw:⇑(swapsWith (.ListComp ST [#[.Name x px,iter,ifs,0]] scope pos) (!.Name y py) Pi.line bi=pure true))(hs:⇑(∀v,foldedSetIterable iter bi v=pure v))(hf:‹X.fn y=am\/X.env.scope.names.lookup y=!.local›):
  PS X (.Assign [.Name y py] (.ListComp ST [#[.Name x px,iter,ifs,0]] scope pos) Pi)^Ex (J3 wi tt te ix) i:=UP hN hiy hy X2 hi ht he hsw hs hf
def YF(i:B){y:ax}{py Pi:Pos}{ST iter:dr}{xs:List ax}{ifs:List dr}{wi:TI}(hN:X.N.Nodup)(X2:gk X scope cl xs fr ix)(hi:PI X tg iter wi)(hg:∀C fp s H,PG (uV X (xs++fr) scope cl C fp s H) tg g)(ht:∀C fp s H,PF (uV X (xs++fr) scope cl C fp s H) ifs tt)(he:∀C fp s H,PE (uV X (xs++fr) scope cl C fp s H) ST te)(hiy:X.N[i]?=!y)(hsw:swapsWith (.ListComp ST [#[tg,iter,ifs,0]] scope pos) (!.Name y py) Pi.line bi=pure am)(hy:‹Loc X.env.scope y›)(hs:⇑(∀v,foldedSetIterable iter bi v=pure v))(hf:‹X.fn y=am\/X.env.scope.names.lookup y=!.local›):
  PS X (.Assign [.Name y py] (.ListComp ST [#[tg,iter,ifs,0]] scope pos) Pi)^Ex (C3 wi g tt te ix ab) i:=PV hN hiy hy X2 hi hg ht he hsw hs hf
def Q7(i:B){op:Operator}{ti:TIp}(hN:X.N.Nodup)(he:PE X e te)(ho:PIp X op ti)(hi:X.N[i]?=!x)(hx:‹Loc X.env.scope x›)(hf:‹X.fn x=am\/X.env.scope.names.lookup x=!.local›):
  PS X (.AugAssign (.Name x PQ) op e pos)^aaH i te ti:=aaI hN hi hx he ho hf
def Fv(n:B){t:Hi}(h:XS X es t)(hc:X.calm=am)(hn:(assignEach es bi).length=n)(TC:(assignEach es bi).findIdx? (·.1)=bc):PG X (.Tuple es k pos)^OD dq n t:=OE hc h hn TC
def KN(K:aB)(n:B){t:Hi}(h:XS X es t)(e:dq=K)(hc:X.calm=am)(hn:(assignEach es bi).length=n)(TC:(assignEach es bi).findIdx? (·.1)=bc):PG X (.Tuple es k pos)^OD K n t:=UZ e hc h hn TC
def jw{a:ae}(hm:X.mg x=!.ref a)(hg:⇑(Gl X x))(hd:↥((x==("__debug__" : ax))=false)):PE X (.Name x pos)^tC^¬a:=JJ hg hm Y hd
def BR{n:Z}{t:Tok}(hm:X.mg x=!.int n t)(hg:⇑(Gl X x))(hd:↥((x==("__debug__" : ax))=false)):PE X (.Name x pos)^tC^.int n:=JJ hg hm #[_,Y] hd
end
section
variable {id:String}{o:dr}{t:TA}
end
end L2
set_option compiler.extract_closed false
local macro_rules | `(tactic| walk_at "len")=>`(tactic| first|omega|(simp only[au, aP, bW, u0, L2.EE] at *;omega)|exact dW rfl)
set_option hygiene false in
local macro_rules | `(tactic| walk_at "sq1") => `(tactic| first | ((with_reducible refine L2.abJ ?_); walk_at "nx") | ((with_reducible refine L2.HX (bk := bk2) (ct := ct2) ?_); walk_at "nx") | ((with_reducible refine L2.HX (bk := bk1) (ct := ct1) ?_); walk_at "nx") | ((with_reducible refine L2.HX (bk := bk0) (ct := ct0) ?_); walk_at "nx") | ((with_reducible refine L2.abK ?_); walk_at "nl"; walk_at "nx"))
def L2.az.at{a:PySem.Addr}{o:L2.HO}(e:L2.az H H')(h:H a=!o):H' a=!o:=e _ _ h
def L2.az.trF{H1 H2:L2.Hp}(b:L2.az H1 H2)(a:L2.az H H1):L2.az H H2:=a.trans b
def L2.gU.fst{p:PySem.Addr}{o:L2.HO}(n:L2.gU H p o H'):H p=Option.none:=n.1
def L2.gU.fr2{H1 H2:L2.Hp}{p:PySem.Addr}{o:L2.HO}(n:L2.gU H1 p o H2)(s:L2.az H H1):H p=Option.none:=s.free n.1
def L2.za0{α β:Type}{a:α}{b:β}:a=a/\b=b:=#[Y,Y]
def L2.zb0{α:Type}{a:α}:a=a/\L2.az H H:=#[Y,L2.az.refl _]
def L2.zc0{a b:PySem.Addr}{ys:List L2.V}{R:L2.It->L2.Hp->O}(hx:L2.eB K H a xs)(hy:L2.eB K H b ys)(h:R (L2.Itz K am true a b xs ys) H):L2.abt K R [¬a,¬b] H:=L2.Ka (t1:=true) (t2:=true) hx hy h
def L2.zc1{a b:PySem.Addr}{ys:List L2.V}{R:L2.It->L2.Hp->O}(hx:L2.eB K H a xs)(hy:L2.bJ K H b ys)(h:R (L2.Itz K am false a b xs ys) H):L2.abt K R [¬a,¬b] H:=L2.Ka (t1:=true) (t2:=false) hx hy h
def L2.zc2{a b:PySem.Addr}{ys:List L2.V}{R:L2.It->L2.Hp->O}(hx:L2.bJ K H a xs)(hy:L2.eB K H b ys)(h:R (L2.Itz K bo true a b xs ys) H):L2.abt K R [¬a,¬b] H:=L2.Ka (t1:=false) (t2:=true) hx hy h
def L2.zc3{a b:PySem.Addr}{ys:List L2.V}{R:L2.It->L2.Hp->O}(hx:L2.bJ K H a xs)(hy:L2.bJ K H b ys)(h:R (L2.Itz K bo false a b xs ys) H):L2.abt K R [¬a,¬b] H:=L2.Ka (t1:=false) (t2:=false) hx hy h
local macro_rules | `(tactic| lk%$t)=>if WL.o t then `(tactic| walk_at "go") else WL.u
local macro_rules | `(tactic| k_in%$t)=>if WL.o t then `(tactic| walk_at "start") else WL.u
local macro_rules | `(tactic| walk_at "ic")=>`(tactic| (intro z;cases z))
local macro_rules | `(tactic| walk_at "c5")=>`(tactic| first|exact(λh=>absurd (show(1 : Nat)=0 from h.1) (by decide))|(intro h;simp only[L2.HT.gz] at h;omega))
local macro_rules | `(tactic| walk_at "goq")=>`(tactic| repeat' (first|with_reducible refine L2.abn ?_|with_reducible refine L2.ajg ?_|with_reducible refine L2.ajh ?_|walk_at "go1"))
local macro_rules | `(tactic| walk_at "start")=>`(tactic| try dsimp only[L2.Ep, L2.Cx.nox, L2.Cx.yN])
namespace TG
open PySem L2 PySem.Spec PyProof.Rows
variable {H1 H0:Hp}{p d q:B}{aL:List Z}{xs nm:List ax}{X2:ae}{b:Bx}{r R:bp}{vs us:List V}{rs c:List bp}{α β:Type}{x:Z}{ps:List (Z×Z)}{s:S}{o:HO}{t:HM.gA}{φ:cv->O}{kvs:ia}{m:eV}{ks:List HM.bV}{N:ax->O}{ss:List S}{gX:ax}{g:ae×ae×B×ci}{gs:List (ae×ae×B×ci)}
inductive A3 (a0 a1 a2:Prop):Prop|mk (z:a0) (z:a1) (z:a2)
inductive A4 (a0 a1 a2 a3:Prop):Prop|mk (z:a0) (z:a1) (z:a2) (z:a3)
inductive A5 (a0 a1 a2 a3 a4:Prop):Prop|mk (z:a0) (z:a1) (z:a2) (z:a3) (z:a4)
inductive A6 (a0 a1 a2 a3 a4 a5:Prop):Prop|mk (z:a0) (z:a1) (z:a2) (z:a3) (z:a4) (z:a5)
inductive A8 (a0 a1 a2 a3 a4 a5 a6 a7:Prop):Prop|mk (z:a0) (z:a1) (z:a2) (z:a3) (z:a4) (z:a5) (z:a6) (z:a7)
inductive A9 (a0 a1 a2 a3 a4 a5 a6 a7 a8:Prop):Prop|mk (z:a0) (z:a1) (z:a2) (z:a3) (z:a4) (z:a5) (z:a6) (z:a7) (z:a8)
inductive A10 (a0 a1 a2 a3 a4 a5 a6 a7 a8 a9:Prop):Prop|mk (z:a0) (z:a1) (z:a2) (z:a3) (z:a4) (z:a5) (z:a6) (z:a7) (z:a8) (z:a9)
inductive A12 (a0 a1 a2 a3 a4 a5 a6 a7 a8 a9 M0 a11:Prop):Prop|mk (z:a0) (z:a1) (z:a2) (z:a3) (z:a4) (z:a5) (z:a6) (z:a7) (z:a8) (z:a9) (z:M0) (z:a11)
inductive E2 {α0 α1:Type} (p:α0->α1->Prop):Prop|mk (x0:α0) (x1:α1) (z:p x0 x1)
inductive E3 {α0 α1 α2:Type} (p:α0->α1->α2->Prop):Prop|mk (x0:α0) (x1:α1) (x2:α2) (z:p x0 x1 x2)
inductive E4 {α0 α1 α2 α3:Type} (p:α0->α1->α2->α3->Prop):Prop|mk (x0:α0) (x1:α1) (x2:α2) (x3:α3) (z:p x0 x1 x2 x3)
inductive E5 {α0 α1 α2 α3 α4:Type} (p:α0->α1->α2->α3->α4->Prop):Prop|mk (x0:α0) (x1:α1) (x2:α2) (x3:α3) (x4:α4) (z:p x0 x1 x2 x3 x4)
inductive E6 {α0 α1 α2 α3 α4 α5:Type} (p:α0->α1->α2->α3->α4->α5->Prop):Prop|mk (x0:α0) (x1:α1) (x2:α2) (x3:α3) (x4:α4) (x5:α5) (z:p x0 x1 x2 x3 x4 x5)
inductive E7 {α0 α1 α2 α3 α4 α5 α6:Type} (p:α0->α1->α2->α3->α4->α5->α6->Prop):Prop|mk (x0:α0) (x1:α1) (x2:α2) (x3:α3) (x4:α4) (x5:α5) (x6:α6) (z:p x0 x1 x2 x3 x4 x5 x6)
inductive E8 {α0 α1 α2 α3 α4 α5 α6 α7:Type} (p:α0->α1->α2->α3->α4->α5->α6->α7->Prop):Prop|mk (x0:α0) (x1:α1) (x2:α2) (x3:α3) (x4:α4) (x5:α5) (x6:α6) (x7:α7) (z:p x0 x1 x2 x3 x4 x5 x6 x7)
set_option maxHeartbeats 4000000
noncomputable def top(i:B):Stmt:=PySem.Challenge.pw_turnguard_k77_whole_hardened_runs.main.body.getD i^.Pass #[0,0,0,0]
abbrev zK:Stmt:=top 4
abbrev zL:Stmt:=top 5
abbrev tO:Stmt:=top 6
abbrev KO:Stmt:=top 8
abbrev zM:Stmt:=top 9
abbrev tP:Stmt:=top 10
abbrev YG:Stmt:=top 15
abbrev BS:Stmt:=top 16
abbrev Fw:Stmt:=top 17
abbrev BU:Stmt:=top 20
abbrev tQ:Stmt:=top 21
abbrev wM:Stmt:=top 22
abbrev KP:Stmt:=top 23
abbrev KQ:Stmt:=top 24
abbrev KR:Stmt:=top 25
abbrev Q8:Stmt:=top 26
abbrev wN:Stmt:=top 27
abbrev BV:Stmt:=top 28
abbrev KS:Stmt:=top 29
abbrev Fx:Stmt:=top 31
abbrev KU:Stmt:=top 32
abbrev o6:Stmt:=top 33
abbrev BW:Stmt:=top 34
abbrev Q9:Stmt:=top 36
abbrev zN:Stmt:=top 37
abbrev Fy:Stmt:=top 38
abbrev wO:Stmt:=top 39
abbrev KW:Stmt:=top 40
abbrev Fz:Stmt:=top 41
abbrev zO:Stmt:=top 45
abbrev BX:Stmt:=top 46
abbrev nX:Stmt:=top 47
abbrev BY:Stmt:=top 48
abbrev FA:Stmt:=top 49
abbrev BZ:Stmt:=top 50
abbrev KY:Stmt:=top 51
abbrev FD:Stmt:=top 52
abbrev KZ:Stmt:=top 53
abbrev FE:Stmt:=top 58
abbrev B0:Stmt:=top 59
abbrev Ra:Stmt:=top 60
abbrev B3:Stmt:=top 61
abbrev o7:Stmt:=top 62
abbrev Rb:Stmt:=top 65
abbrev B4:Stmt:=top 67
abbrev Rc:Stmt:=top 68
abbrev Rf:Stmt:=top 69
abbrev K0:Stmt:=top 70
abbrev K1:Stmt:=top 71
abbrev wQ:Stmt:=top 72
abbrev FF:Stmt:=top 73
abbrev Rg:Stmt:=top 74
abbrev B5:Stmt:=top 75
abbrev s_same:Stmt:=top 76
abbrev K2:Stmt:=top 77
abbrev YH:Stmt:=top 78
abbrev nY:Stmt:=inClass (top 64) 0
abbrev zP:Stmt:=inClass (top 64) 1
abbrev Dj:Stmt:=inClass (top 64) 2
abbrev FG:Stmt:=inClass (top 64) 3
abbrev wR:Stmt:=inClass (top 64) 4
abbrev wU:Stmt:=inClass (top 64) 5
abbrev wV:Stmt:=inClass (top 64) 6
abbrev nZ:Stmt:=inClass (top 64) 7
abbrev qJ:Stmt:=inClass (top 64) 8
abbrev tR:Stmt:=inClass (top 64) 9
def jx:aF ["body", "coming", "found", "statement", "k"] ["body"]^ay zK:=by walk_at "sc"
def jy:aF ["program", "seen", "name", "statement", "k"] ["program"]^ay zL:=by walk_at "sc"
def AY:aF ["program"] ["program"]^ay tO:=by walk_at "sc"
def Rh:aF ["sign", "one", "other"] ["sign", "one", "other"]^ay KO:=by walk_at "sc"
def FH:aF ["sign", "one", "other"] ["sign", "one", "other"]^ay zM:=by walk_at "sc"
def AZ:aF ["sign", "one", "other"] ["sign", "one", "other"]^ay tP:=by walk_at "sc"
def o8:aF ["code", "args", "most", "boxes", "sent", "place", "steps", "row"] ["code", "args", "most"]^ay YG:=by walk_at "sc"
def IG:aF ["row", "boxes"] ["row", "boxes"]^ay BS:=by walk_at "sc"
def M1:aF ["row", "boxes"] ["row", "boxes"]^ay Fw:=by walk_at "sc"
def II:aF ["row"] ["row"]^ay BU:=by walk_at "sc"
def A1:aF ["row", "part"] ["row", "part"]^ay tQ:=by walk_at "sc"
def tS:aF ["row", "moved", "numbers"] ["row", "moved"]^ay wM:=by walk_at "sc"
def FI:aF ["row", "boxes"] ["row"]^ay KP:=by walk_at "sc"
def Ri:aF ["row"] ["row"]^ay KQ:=by walk_at "sc"
def zQ:aF ["row", "boxes", "found", "side"] ["row", "boxes"]^ay KR:=by walk_at "sc"
def jW:aF ["code", "reading", "giving", "ahead", "found", "spot", "coming", "seen", "place"] ["code"]^ay Q8:=by walk_at "sc"
def jX:aF ["lists", "found", "some", "thing"] ["lists"]^ay wN:=by walk_at "sc"
def kD:aF ["code", "found", "place", "row", "way"] ["code"]^ay BV:=by walk_at "sc"
def Rj:aF ["code"] ["code"]^ay KS:=by walk_at "sc"
def jf:aF ["code", "looked", "firsts", "hardened", "place", "row", "box"] ["code"]^ay Fx:=by walk_at "sc"
def FJ:aF ["code", "lively"] ["code"]^ay KU:=by walk_at "sc"
def dQ:aF ["code", "looked", "firsts", "many", "place", "row"] ["code", "looked"]^ay o6:=by walk_at "sc"
def IJ:aF ["row", "place"] ["row", "place"]^ay BW:=by walk_at "sc"
def nq:aF ["program", "boxes", "code", "coming", "link", "statement", "blocks"] ["program"]^ay Q9:=by walk_at "sc"
def o9:aF ["program", "boxes", "name"] ["program"]^ay zN:=by walk_at "sc"
def jg:aF ["block", "place", "behind", "found", "statement"] ["block"]^ay Fy:=by walk_at "sc"
def nu:aF ["statement", "place", "behind", "first", "second"] ["statement", "place", "behind"]^ay wO:=by walk_at "sc"
def Rk:aF ["block"] ["block"]^ay KW:=by walk_at "sc"
def M3:aF ["statement", "behind", "boxes"] ["statement", "behind", "boxes"]^ay Fz:=by walk_at "sc"
def kZ:aF ["row", "things", "lively", "taken", "given", "onward"] ["row", "things", "lively"]^ay zO:=by walk_at "sc"
def rC:aF ["onward", "things", "lively", "found", "way"] ["onward", "things", "lively"]^ay BX:=by walk_at "sc"
def lZ:aF ["row", "thing", "taken", "given", "found"] ["row", "thing", "taken", "given"]^ay nX:=by walk_at "sc"
def gG:aF ["code", "lively", "found", "place", "row", "things", "thing", "later"] ["code"]^ay BY:=by walk_at "sc"
def M4:aF ["code"] ["code"]^ay FA:=by walk_at "sc"
def zR:aF ["later", "found"] ["later"]^ay BZ:=by walk_at "sc"
def kE:aF ["later", "earlier", "waiting", "ready", "found", "harm", "other"] ["later"]^ay KY:=by walk_at "sc"
def qp:aF ["later", "found", "harm", "other"] ["later"]^ay FD:=by walk_at "sc"
def FL:aF ["code", "found"] ["code"]^ay KZ:=by walk_at "sc"
def B6:aF ["code", "place", "row"] ["code", "place"]^ay FE:=by walk_at "sc"
def zS:aF ["code", "place", "moved"] ["code", "place"]^ay B0:=by walk_at "sc"
def qq:aF ["code", "number", "found", "left", "fewer"] ["code", "number"]^ay Ra:=by walk_at "sc"
def IK:aF ["found", "number"] ["found", "number"]^ay B3:=by walk_at "sc"
def fT:aF ["code", "number", "left", "place"] ["code", "number"]^ay o7:=by walk_at "sc"
def yd:aF ["code", "args", "turns", "most", "due", "machine", "found"] ["code", "args", "turns", "most"]^ay Rb:=by walk_at "sc"
def IL:aF ["_law_script", "_law_k"] ["_law_script", "_law_k"]^ay B4:=by walk_at "sc"
def VU:aF ["_law_cell", "_law_k"] ["_law_cell", "_law_k"]^ay Rc:=by walk_at "sc"
def Dk:aF ["_law_cell", "_law_k", "_law_number", "_law_some"] ["_law_cell", "_law_k"]^ay Rf:=by walk_at "sc"
def Rl:aF ["_law_found"] ["_law_found"]^ay K0:=by walk_at "sc"
def Rm:aF ["_law_found", "_law_due"] ["_law_found", "_law_due"]^ay K1:=by walk_at "sc"
def nv:aF ["_law_cell", "_law_names", "_law_some", "_law_kind"] ["_law_cell", "_law_names"]^ay wQ:=by walk_at "sc"
def j7:aF ["_law_opened", "_law_names", "_law_word_here", "_law_name", "_law_first", "_law_block", "_law_less"] ["_law_opened", "_law_names"]^ay FF:=by walk_at "sc"
def qt:aF ["_law_cells", "_law_names", "_law_opened", "_law_cell", "_law_kind", "_law_name", "_law_many"] ["_law_cells", "_law_names"]^ay Rg:=by walk_at "sc"
def jh:aF ["_law_cells", "_law_cell", "_law_letters", "_law_shift", "_law_names", "_law_body_here", "_law_many"] ["_law_cells", "_law_cell"]^ay B5:=by walk_at "sc"
def VV:aF ["_law_found", "_law_plain"] ["_law_found", "_law_plain"]^ay s_same:=by walk_at "sc"
def tT:aF ["_law_code", "_law_cells", "_law_cell", "_law_place"] ["_law_code", "_law_cells"]^ay K2:=by walk_at "sc"
def fZ:aF ["_law_script", "_law_cell", "_law_other", "_law_many", "_law_cells", "_law_program_here", "_law_code", "_law_args", "_law_most", "_law_plain", "_law_hard", "_law_found", "_law_fewer_here", "_law_again"] ["_law_script"]^ay YH:=by walk_at "sc"
def vO:aF ["self", "code", "args"] ["self", "code", "args"]^ay nY:=by walk_at "sc"
def FN:aF ["self", "side", "k"] ["self", "side", "k"]^ay zP:=by walk_at "sc"
def Dl:aF ["self"] ["self"]^ay wR:=by walk_at "sc"
def Dm:aF ["self", "what", "bit"] ["self", "what"]^ay wU:=by walk_at "sc"
def Dp:aF ["self"] ["self"]^ay wV:=by walk_at "sc"
def l8:aF ["self", "row"] ["self"]^ay nZ:=by walk_at "sc"
def pq:aF ["self", "row", "side"] ["self", "row"]^ay qJ:=by walk_at "sc"
def A2:aF ["self", "to"] ["self", "to"]^ay tR:=by walk_at "sc"
set_option genInjectivity false in
set_option genSizeOf false in
set_option genSizeOfSpec false in
structure wW (w:World) (K:aB) (mg:Str->Option Value) where
 pA:Addr
 wX:mg "BLOCKS_AT" = !(¬pA)
 jY:Addr
 tU:fq K jY [.int 2,.int 3]
 jZ:Addr
 tV:fq K jZ [.int 2]
 wY:qH w K pA [(.inr "if", ¬jY),(.inr "while", ¬jZ)]
set_option genInjectivity false in
set_option genSizeOf false in
set_option genSizeOfSpec false in
structure zT (w:World) (K:aB) (mg:Str->Option Value) where
 rD:Addr
 zU:mg "NAMES_AT" = !(¬rD)
 pB:Addr
 wZ:fq K pB [.int 1]
 pC:Addr
 w5:fq K pC [.int 1,.int 2]
 pF:Addr
 w6:fq K pF [.int 1,.int 3,.int 4]
 pG:Addr
 xg:fq K pG [.int 1]
 pH:Addr
 xh:fq K pH [.int 1]
 pI:Addr
 xj:fq K pI [.int 1]
 zV:qH w K rD [(.inr "num", ¬pB),(.inr "copy", ¬pC),(.inr "op", ¬pF),(.inr "out", ¬pG),(.inr "if", ¬pH),(.inr "while", ¬pI)]
set_option genInjectivity false in
set_option genSizeOf false in
set_option genSizeOfSpec false in
structure K3 (w:World) (K:aB) (mg:Str->Option Value) where
 Dq:Addr
 Dr:mg "PARTS" = !(¬Dq)
 tW:Addr
 FO:fq K tW [.str "side", .str "box", .str "value", .str "place"]
 tX:Addr
 FP:fq K tX [.str "side", .str "box", .str "box", .str "place"]
 tY:Addr
 FQ:fq K tY [.str "side", .str "sign", .str "box", .str "box", .str "box", .str "place"]
 tZ:Addr
 FT:fq K tZ [.str "box", .str "place"]
 ud:Addr
 FU:fq K ud [.str "box", .str "place", .str "place"]
 ue:Addr
 FW:fq K ue [.str "box", .str "place"]
 uf:Addr
 FY:fq K uf [.str "place"]
 ug:Addr
 FZ:fq K ug [.str "box"]
 Ds:qH w K Dq [(.inr "num", ¬tW),(.inr "copy", ¬tX),(.inr "op", ¬tY),(.inr "out", ¬tZ),(.inr "fork", ¬ud),(.inr "look", ¬ue),(.inr "mark", ¬uf),(.inr "back", ¬ug)]
abbrev Do{K:aB}{mg:ax->Option J}{n:ax}{s:Stmt}{ps:List ax}(P:de)(w:cw)(base:cv)(k:B)(D:DD K mg n s ps)(S:Sp):=bK P w K mg base fX k D.f D.d ps S
set_option genInjectivity false in
set_option genSizeOf false in
set_option genSizeOfSpec false in
structure Txt (w:World) (K:aB) (mg:Str->Option Value) where
 bq:Addr
 kP:DC K mg "Twin" bq
 ny:eX K bq "code"
 lK:eX K bq "sides"
 nA:eX K bq "at"
 kF:eX K bq "marked"
 iO:eX K bq "word"
 nB:eX K bq "sent"
 kG:eX K bq "answer"
 jo:eX K bq "steps"
 jz:DD K mg "in_order" zK ["body"]
 um:DD K mg "names_of" zL ["program"]
 nC:DD K mg "statements" tO ["program"]
 value:DD K mg "value" KO ["sign", "one", "other"]
 uo:DD K mg "reckoned" zM ["sign", "one", "other"]
 nD:DD K mg "bit_by_bit" tP ["sign", "one", "other"]
 run:DF K mg "run" YG ["code", "args", "most"]
 uq:DD K mg "do_deed" BS ["row", "boxes"]
 zW:DD K mg "onward" Fw ["row", "boxes"]
 ur:DD K mg "ways_of" BU ["row"]
 ji:DD K mg "numbers_of" tQ ["row", "part"]
 l9:DD K mg "to_places" wM ["row", "moved"]
 reads:DD K mg "reads" KP ["row"]
 gives:DD K mg "gives" KQ ["row"]
 F0:DD K mg "spots" KR ["row", "boxes"]
 live:DD K mg "live" Q8 ["code"]
 qu:DD K mg "each_once" wN ["lists"]
 leading:DD K mg "leading" BV ["code"]
 meets:DD K mg "meets" KS ["code"]
 Dt:DD K mg "harden" Fx ["code"]
 looks:DD K mg "looks" KU ["code"]
 j0:DD K mg "first_places" o6 ["code", "looked"]
 doubled:DD K mg "doubled" BW ["row", "place"]
 flat:DD K mg "flat" Q9 ["program"]
 uu:DD K mg "boxes_of" zN ["program"]
 vP:DD K mg "linked" Fy ["block"]
 qv:DD K mg "blocks_of" wO ["statement", "place", "behind"]
 entry:DD K mg "entry" KW ["block"]
 Du:DD K mg "row_of" Fz ["statement", "behind", "boxes"]
 uv:DD K mg "lasts_by" zO ["row", "things", "lively"]
 ye:DD K mg "at_ways" BX ["onward", "things", "lively"]
 jq:DD K mg "things_behind" nX ["row", "thing", "taken", "given"]
 yf:DD K mg "lasting" BY ["code"]
 Dv:DD K mg "delays" FA ["code"]
 yg:DD K mg "lengths" BZ ["later"]
 ended:DD K mg "ended" KY ["later"]
 turned:DD K mg "turned" FD ["later"]
 delay:DD K mg "delay" KZ ["code"]
 zX:DD K mg "can_go" FE ["code", "place"]
 without:DD K mg "without" B0 ["code", "place"]
 VW:DD K mg "thin" Ra ["code", "number"]
 uw:DD K mg "is_soon" B3 ["found", "number"]
 iP:DD K mg "gone_through" o7 ["code", "number"]
 twin:DF K mg "twin" Rb ["code", "args", "turns", "most"]
 ux:DD K mg "_law_cell_at" B4 ["_law_script", "_law_k"]
 draw:DD K mg "_law_draw" Rc ["_law_cell", "_law_k"]
 word:DD K mg "_law_word" Rf ["_law_cell", "_law_k"]
 whole:DD K mg "_law_whole" K0 ["_law_found"]
 right:DD K mg "_law_right" K1 ["_law_found", "_law_due"]
 qw:DD K mg "_law_statement" wQ ["_law_cell", "_law_names"]
 closed:DD K mg "_law_closed" FF ["_law_opened", "_law_names"]
 body:DD K mg "_law_body" Rg ["_law_cells", "_law_names"]
 program:DD K mg "_law_program" B5 ["_law_cells", "_law_cell"]
 same:DD K mg "_law_same" s_same ["_law_found", "_law_plain"]
 K4:DD K mg "_law_fewer" K2 ["_law_code", "_law_cells"]
 law:DD K mg "law" YH ["_law_script"]
 gY:DM K bq "__init__" "Twin.__init__" nY ["self", "code", "args"]
 eK:DM K bq "box" "Twin.box" zP ["self", "side", "k"]
 ab3:DM K bq "place" "Twin.place" Dj ["self"]
 adL:DM K bq "mark" "Twin.mark" FG ["self"]
 mh:DM K bq "told" "Twin.told" wR ["self"]
 mq:DM K bq "turn" "Twin.turn" wU ["self", "what"]
 mw:DM K bq "step" "Twin.step" wV ["self"]
 gZ:DM K bq "must_cry" "Twin.must_cry" nZ ["self"]
 jA:DM K bq "do_row" "Twin.do_row" qJ ["self", "row"]
 kH:DM K bq "go_on" "Twin.go_on" tR ["self", "to"]
 aoE:mg "all" = none
 afU:mg "any" = none
 ab4:mg "bool" = none
 vQ:mg "dict" = none
 fL:mg "enumerate" = none
 YI:mg "int" = none
 iQ:mg "isinstance" = none
 eL:mg "len" = none
 lM:mg "list" = none
 YJ:mg "max" = none
 aoF:mg "min" = none
 uz:mg "range" = none
 nE:mg "reversed" = none
 Rn:mg "set" = none
 uA:mg "sorted" = none
 afV:mg "str" = none
 k7:mg "tuple" = none
 Ro:mg "zip" = none
 j8:wW w K mg
 Rp:CI mg "BOTH" 2
 k9:CT K mg "DEEDS" [.str "num", .str "copy", .str "op"]
 qK:CT K mg "ENDS_OF_MARKS" [.str "mark", .str "out", .str "back"]
 qL:CT K mg "ENDS_OF_SPOTS" [.str "look", .str "out", .str "back"]
 jB:zT w K mg
 iB:K3 w K mg
 xm:CT K mg "SIDES" [.int 0,.int 1]
 M5:CI mg "VALUE_END" 281474976710656
def bT(H H':Hp):=∀b xs,H b=!.tup xs->H' b=!.tup xs
def sT(e:az H H'):bT H H':=λb xs h=>e b _ h
def bT.refl(H:Hp):bT H H:=λz z h=>h
def bT.trans{H2:Hp}(a:bT H H1)(b:bT H1 H2):bT H H2:=λc o h=>b c o^a c o h
def qx{p:ae}{xs:List V}(h:H p=!.lst xs)(o:HO):bT H^upd H p o:=λb ys q=>by rw[bX^cB q h (by intro z;cases z)];show q
def cV(h:n<100000):n<sizeLine:=cR h ()
theorem zY{xs:List α}{i:Z}(h0:0<=i)(h1:i<ab):∃v,uU xs i=!v/\v∈xs:=by let e:i=((i.toNat:B):Z):=∅;let h2:i.toNat<xs.length:=∅;show#[xs[i.toNat],?_,lD h2];let q:uU xs ((i.toNat:B):Z)=some xs[i.toNat]:=dN (by simp[h2]);rw[<- e] at q;show q
def VX{i:Z}(h0:0<=i)(h1:i<ns.length):∃v,uU (ns.map V.int) i=!.int v:=by let#[v,e,m]:=zY (xs:=ns.map V.int) h0 (by simpa using h1);let#[n,_,Y]:=aG.mp m;show#[n,e]
def Rq{i:Z}(h0:0<=i)(h1:i<ns.length):∃v,uU (ns.map V.int) i=!.int v/\v∈ns:=by let#[v,e,m]:=zY (xs:=ns.map V.int) h0 (by simpa using h1);let#[n,hn,Y]:=aG.mp m;show#[n,e,hn]
def yh{i:Z}(h0:0<=i)(h1:i<ab):∃x,uU (xs.map V.str) i=!.str x/\x∈xs:=by let#[v,e,m]:=zY (xs:=xs.map V.str) h0 (by simpa using h1);let#[n,hn,Y]:=aG.mp m;show#[n,e,hn]
theorem iR{a b:Z}(h:0<b):0<=a % b/\a % b<b:=#[Int.emod_nonneg _ ∅,Int.emod_lt_of_pos _ h]
inductive K5(K:aB)(vs:List V)(H:Hp)(Q:VK)(z:XK):Prop|mk(a:Addr)(ns:List Int)(z:vs=[¬a])(z:bJ K H a^ns.map V.int)(z:ns.length<=63)(z:∀H',Q (.bl true) H')
instance:Nonempty World:=⟨PySem.W.aWorld 0⟩
def p_(x:Program×World×aB×(Str->Option Value)×Heap):Prop:=∀T:Txt x.2.1 x.2.2.1 x.2.2.2.1,Do x.1 x.2.1 x.2.2.2.2 12 T.law (K5 x.2.2.1)
def w_:=Classical.epsilon λx=>Not (p_ x)
def P_:=w_.1
def w8:=w_.2.1
def K_:=w_.2.2.1
def m_:=w_.2.2.2.1
def b_:=w_.2.2.2.2
seal w_ P_ w8 K_ m_ b_
set_option hygiene false in
local macro_rules | `($d ∩%$t ($n,$s))=>if WL.o t then `(Do P_ w8 b_ $n $d $s) else WL.u
inductive Row where
 | num (d k v q:Int)|copy (d k i q:Int)|op (d:Int) (s:Str) (k i j q:Int)|out (i q:Int)|fork (i q p:Int)|look (i q:Int)|mark (q:Int)|back (i:Int)
noncomputable def Row.key:bp->ax
 | .num .. => "num" | .copy .. => "copy" | .op .. => "op" | .out .. => "out" | .fork .. => "fork" | .look .. => "look" | .mark .. => "mark" | .back .. => "back"
noncomputable def Row.parts:bp->List ax
 | .num ..=>["side", "box", "value", "place"]|.copy ..=>["side", "box", "box", "place"]|.op ..=>["side", "sign", "box", "box", "box", "place"]|.out ..=>["box", "place"]
 | .fork ..=>["box", "place", "place"]|.look ..=>["box", "place"]|.mark ..=>["place"]|.back ..=>["box"]
noncomputable def Row.rest:bp->List V
 | .num d k v q=>[.int d,.int k,.int v,.int q]|.copy d k i q=>[.int d,.int k,.int i,.int q]|.op d s k i j q=>[.int d,.str s,.int k,.int i,.int j,.int q]
 | .out i q=>[.int i,.int q]|.fork i q p=>[.int i,.int q,.int p]|.look i q=>[.int i,.int q]|.mark q=>[.int q]|.back i=>[.int i]
def Row.vals(r:bp):List V:=.str r.key::r.rest
noncomputable def Row.ways:bp->List Z
 | .num _ _ _ q=>[q]|.copy _ _ _ q=>[q]|.op _ _ _ _ _ q=>[q]|.out _ q=>[q]|.fork _ q p=>[q,p]|.look _ q=>[q]|.mark q=>[q]|.back _=>[]
noncomputable def signs:List Str:=["+", "-", "*", "/", "<", "=", "&", "|", "^"]
def zZ(d:Z):=0<=d/\d<3
def lq(d:Z):=0<=d/\d<8
def isVal(d:Z):=0<=d/\d<281474976710656
def nF(n d:Z):=0<=d/\d<n
def Row.ok(n:Z):bp->O
 | .num d k v q=>zZ d/\lq k/\isVal v/\nF n q
 | .copy d k i q=>zZ d/\lq k/\lq i/\nF n q
 | .op d s k i j q=>zZ d/\s∈signs/\lq k/\lq i/\lq j/\nF n q
 | .out i q=>lq i/\nF n q
 | .fork i q p=>lq i/\nF n q/\nF n p
 | .look i q=>lq i/\nF n q
 | .mark q=>nF n q
 | .back i=>lq i
def Row.nG{n:Z}(h:r.ok n):∀q∈r.ways,0<=q/\q<n:=by cases r<;>erw[Row.ok] at h<;>erw[Row.ways,aJ,eE,or_false]<;>intro q hq;rw[hq];show h.2.2.2;rw[hq];show h.2.2.2;rw[hq];show h.2.2.2.2.2;rw[hq];show h.2;rcases hq with e|e<;>rw[e];show h.2.1;show h.2.2;rw[hq];show h.2;rw[hq];show h;show hq.elim
def Row.z6(r:bp):r.ways.length<=2:=by cases r<;>simp[Row.ways]
def z7(H:Hp)(v:V)(r:bp):=∃a,v=¬a/\H a=!.tup r.vals
abbrev Rows(H:Hp):List V->List bp->Prop:=Paired^z7 H
def z7.same(e:az H H')(h:z7 H v r):z7 H' v r:=let⟨a,e1,e2⟩:=h;#[a,e1,e _ _ e2]
def z7.gp(e:bT H H')(h:z7 H v r):z7 H' v r:=let⟨a,e1,e2⟩:=h;#[a,e1,e _ _ e2]
theorem Rows.same(e:az H H')(h:Rows H vs rs):Rows H' vs rs:=dX (λz z q=>q.same e) h
theorem Rows.gp(e:bT H H')(h:Rows H vs rs):Rows H' vs rs:=dX (λz z q=>q.gp e) h
def bE{F:α->β->O}{xs:List α}{ys:List β}(hp:Paired F xs ys):∀{i:B}{x:α},xs[i]?=!x->∃y,ys[i]?=!y/\F x y:=by
 induction hp with
 | nil=>show λ{i x} h=>by simp at h
 | cons a _ ih =>
  intro i x h;cases i with
  | zero=>cases h;show#[_,Y,a]
  | succ i=>show ih h
def mD{xs:List α}(hn:xs.Nodup){a:α}(hi:xs[i]?=!a)(hj:xs[j]?=!a):i=j:=by let#[h1,e1]:=fK hi;let#[h2,e2]:=fK hj;let q:=oM.mp hn;rcases rY i j with h|h|h;show absurd (e1.trans e2.symm)^q i j h1 h2 h;show h;show absurd (e2.trans e1.symm)^q j i h2 h1 h
theorem ab5{τ:L2.St}(f:Z->V)(hS:bJ K_ H a^ns.map V.int)(hz:ns.length<=100000)
  (he:∀x∈ns,∀Q:VK,Q (f x) H->te (some^.int x::τ) H Q)(h:∀p H',gU H p (.lst^ns.map f) H'->Q (¬p) H'):HP (OI K_ a) UN te τ Q H:=by show iM (xs:=ns.map V.int) (λi ys H'=>H'=H/\ys=(ns.take i).map f) #[Y,Y] ?_ ?_ ?_;rintro i ys H' hi ⟨rfl,_⟩;show hS;rintro i x ys H' hx ⟨rfl,rfl⟩;rw[bB] at hx;let#[z,Hk,Y]:=cL.mp hx;let hi:i<ns.length:=(fK Hk).1;show#[cV (by rw[au,bU];lia),?_];show Pz^UM ?_;show he z (ie Hk) _ #[Y,?_];rw[b8,Hk,bf];rfl;rintro ys H' ⟨rfl,rfl⟩ p H2 n2;rw[au,cA] at n2;show h p H2 n2
def VY(a b:B):(a &&& b) % 2=(a % 2)*(b % 2):=by let h:=Nat.and_mod_two_pow (a:=a) (b:=b) (n:=1);erw[Nat.pow_one] at h;rw[h];rcases Nat.mod_two_eq_zero_or_one a with ha|ha<;>rcases Nat.mod_two_eq_zero_or_one b with hb|hb<;>rw[ha,hb]<;>rfl
def K6:B->Z->List Z
 | 0,_=>[]
 | n+1,a=>(a % 2)::K6 n (a / 2)
def xo(k:B)(a b:Z):Int:=match k with
 | 6=>a*b
 | 7=>a+b-a*b
 | _=>(a+b) % 2
def YK(k:B)(z:Z)(p:Z×Z):Int:=2*z+xo k p.1 p.2
def jO(k n:B)(a b:Z):Int:=(((K6 n a).zip^K6 n b).reverse).foldl (YK k) 0
def iC(k n:B)(a b:Z):jO k (n+1) a b=2*jO k n (a / 2) (b / 2)+xo k (a % 2) (b % 2):=by simp[jO,K6,YK,List.foldl_append]
theorem IM:∀(n a b:B),a<2 ^ n->b<2 ^ n->jO 6 n a b=((a &&& b:B):Z):=by
 intro n;induction n with
 | zero =>
  intro a b ha hb;let ea:a=0:=by simpa using ha
  let eb:b=0:=by simpa using hb
  subst ea eb;rfl
 | succ n ih =>
  intro a b ha hb;rw[iC];let h2:2 ^ (n+1)=2*2 ^ n:=by rw[Nat.pow_succ,Nat.mul_comm]
  let h:=ih (a / 2) (b / 2) ∅ ∅;let e1:((a / 2:B):Z)=(a:Z) / 2:=by simp
  let e2:((b / 2:B):Z)=(b:Z) / 2:=by simp
  rw[e1,e2] at h;let h3:(a &&& b) / 2=(a / 2) &&& (b / 2):=Nat.and_div_two;let h4:=VY a b;let h5:(((a % 2)*(b % 2):B):Z)=((a:Z) % 2)*((b:Z) % 2):=by simp
  rw[h];erw[xo];rw[<- h5,<- h4,<- h3];lia
theorem M6:∀(n:B)(a b:Z),0<=a->0<=b->a<2 ^ n->b<2 ^ n->jO 7 n a b=a+b-jO 6 n a b:=by
 intro n;induction n with
 | zero =>
  intro a b ha hb Hc Tb;let ea:a=0:=by simp at Hc;lia
  let eb:b=0:=by simp at Tb;lia
  subst ea eb;rfl
 | succ n ih =>
  intro a b ha hb Hc Tb;let h2:(2:Z) ^ (n+1)=2*2 ^ n:=by rw[Int.pow_succ,Int.mul_comm]
  rw[h2] at Hc Tb;let h:=ih (a / 2) (b / 2) ∅ ∅ ∅ ∅;rw[iC,iC,h];erw[xo];generalize a % 2*(b % 2)=t;lia
theorem IP:∀(n:B)(a b:Z),0<=a->0<=b->a<2 ^ n->b<2 ^ n->jO 8 n a b=a+b-2*jO 6 n a b:=by
 intro n;induction n with
 | zero =>
  intro a b ha hb Hc Tb;let ea:a=0:=by simp at Hc;lia
  let eb:b=0:=by simp at Tb;lia
  subst ea eb;rfl
 | succ n ih =>
  intro a b ha hb Hc Tb;let h2:(2:Z) ^ (n+1)=2*2 ^ n:=by rw[Int.pow_succ,Int.mul_comm]
  rw[h2] at Hc Tb;let h:=ih (a / 2) (b / 2) ∅ ∅ ∅ ∅;rw[iC,iC,h];erw[xo];let LE:a % 2=0\/a % 2=1:=∅;let hb2:b % 2=0\/b % 2=1:=∅;rcases LE with ea|ea<;>rcases hb2 with eb|eb<;>rw[ea,eb]<;>lia
theorem M7(k:B):∀(n:B)(a b:Z),0<=jO k n a b/\jO k n a b<2 ^ n:=by
 intro n;induction n with
 | zero=>intro a b;show(by decide:(0:Z)<=0/\(0:Z)<2 ^ 0)
 | succ n ih =>
  intro a b;let h:=ih (a / 2) (b / 2);rw[iC];let h2:(2:Z) ^ (n+1)=2*2 ^ n:=by rw[Int.pow_succ,Int.mul_comm]
  let h3:0<=xo k (a % 2) (b % 2)/\xo k (a % 2) (b % 2)<=1:=by let LE:a % 2=0\/a % 2=1:=∅;let hb2:b % 2=0\/b % 2=1:=∅;rcases LE with ea|ea<;>rcases hb2 with eb|eb<;>rw[ea,eb]<;>unfold xo<;>split<;>decide
  rw[h2];lia
theorem Rr(h:n<=47):(2:Z) ^ n<281474976710656:=by
 let q:(2:B) ^ n<=2 ^ 47:=Nat.pow_le_pow_right () h;let e:((2 ^ n:B):Z)=(2:Z) ^ n:=by simp
 let e':(2:B) ^ 47=140737488355328:=()
 lia
theorem Rt(n:B):(1:Z)<=2 ^ n:=by
 let q:1<=(2:B) ^ n:=Nat.one_le_two_pow;let e:((2 ^ n:B):Z)=(2:Z) ^ n:=by simp
 lia
def z8:B->ax
 | 0 => "+" | 1 => "-" | 2 => "*" | 3 => "/" | 4 => "<" | 5 => "=" | 6 => "&" | 7 => "|" | _ => "^"
def afW(k:B)(a b:Z):Int:=match k with
 | 0=>a+b
 | 1=>a-b
 | _=>a*b
def alx(k:B)(a b:Z):Int:=match k with
 | 6=>Builtin.bitAnd a b
 | 7=>Builtin.bitOr a b
 | _=>Builtin.bitXor a b
def z9(k:B)(a b:Z):Int:=match k with
 | 0=>(a+b) % 281474976710656
 | 1=>(a-b) % 281474976710656
 | 2=>(a*b) % 281474976710656
 | 3=>if b=0 then 0 else a / b
 | 4=>if a<b then 1 else 0
 | 5=>if a=b then 1 else 0
 | 6=>Builtin.bitAnd a b
 | 7=>Builtin.bitOr a b
 | _=>Builtin.bitXor a b
def Val(a:Z):=0<=a/\a<281474976710656
def M8{y:Z}(h:Q (.int x) H)(e:x=y):Q (.int y) H:=e▸h
theorem nine(h:k<9):k=0\/k=1\/k=2\/k=3\/k=4\/k=5\/k=6\/k=7\/k=8:=∅
def ab6:Sp:=λvs H Q z=>∃(k:B)(a b:Z),k<3/\vs=[.str^z8 k,.int a,.int b]/\Val a/\Val b/\Q (.int^afW k a b) H
section
variable (T:Txt w8 K_ m_)
theorem F1:T.uo∩(1,ab6):=by exists T.uo,FH,#[k,a,b,hk,rfl,#[ha,Hc],#[hb,Tb],q],"-?H0+<`12-?H0+<I²12+<Iz12",3;let hk:k=0\/k=1\/k=2:=∅;rcases hk with rfl|rfl|rfl<;>(dsimp only[z8];lk)<;>show q
def afX:Sp:=λvs H Q z=>∃(k:B)(a b:Z),6<=k/\k<9/\vs=[.str^z8 k,.int a,.int b]/\Q (.int^alx k a b) H
theorem A7:T.nD∩(1,afX):=by exists T.nD,AZ,#[k,a,b,hk,Qr,rfl,q],"-?H0+<IÐ12-?H0+<I'aey 12+<I'Hs 12",3;let hk:k=6\/k=7\/k=8:=∅;rcases hk with rfl|rfl|rfl<;>(dsimp only[z8];lk)<;>show q
def VZ:Sp:=λvs H Q z=>∃(k:B)(a b:Z),k<9/\vs=[.str^z8 k,.int a,.int b]/\Val a/\Val b/\∀H',az H H'->Q (.int^z9 k a b) H'
theorem Ru:T.value∩(2,VZ):=by
 exists T.value,Rh,#[k,a,b,hk,rfl,ha,hb,q],"-?a0>AAb+<³/F1 .0.1*2é'T.M5.c -?H0+<STÂ2@I'Pw 12@-?H0+<S{12@@-?H0+<S|12@@+</A7 .0.1*2",3,(by with_unfolding_all rfl);let ha0:=ha.1;let FB:=ha.2;let hb0:=hb.1;let hb1:=hb.2;rcases nine hk with rfl|rfl|rfl|rfl|rfl|rfl|rfl|rfl|rfl<;>(dsimp only[z8];lk)
 .show#[0,a,b,∅,Y,ha,hb,by lk;show q _^by walk_at "same"]
 .show#[1,a,b,∅,Y,ha,hb,by lk;show q _^by walk_at "same"]
 .show#[2,a,b,∅,Y,ha,hb,by lk;show q _^by walk_at "same"]
 .show M8 (q _^by walk_at "same") (by simp[*,z9])
 .show M8 (q _^by walk_at "same") (by simp[*,z9])
 .show M8 (q _^by walk_at "same") (by simp[*,z9])
 .show M8 (q _^by walk_at "same") (by simp[*,z9])
 .show M8 (q _^by walk_at "same") (by simp[*,z9])
 .show M8 (q _^by walk_at "same") (by simp[*,z9])
 .show#[6,a,b,∅,∅,Y,q _^by walk_at "same"]
 .show#[7,a,b,∅,∅,Y,q _^by walk_at "same"]
 .show#[8,a,b,∅,∅,Y,q _^by walk_at "same"]
theorem ab7{a b:Z}(hk:6<=k)(Qr:k<9)(ha:Val a)(hb:Val b):jO k 48 a b=z9 k a b:=by
 let V0:(2:Z) ^ 48=281474976710656:=()
 let n48:(2:B) ^ 48=281474976710656:=()
 let ea:a=((a.toNat:B):Z):=by have:=ha.1;lia
 let eb:b=((b.toNat:B):Z):=by have:=hb.1;lia
 let la:a.toNat<2 ^ 48:=by rw[n48];have:=ha.2;lia
 let lb:b.toNat<2 ^ 48:=by rw[n48];have:=hb.2;lia
 let h6:jO 6 48 a b=Builtin.bitAnd a b:=by rw[PyProof.Rows.bitAnd_pp ha.1 hb.1,<- IM 48 _ _ la lb,<- ea,<- eb]
 let hk:k=6\/k=7\/k=8:=∅;rcases hk with rfl|rfl|rfl;show h6
 .rw[M6 48 a b ha.1 hb.1 (by rw[V0];show ha.2) (by rw[V0];show hb.2),h6];show(PyProof.Rows.bitOr_and a b).symm
 .rw[IP 48 a b ha.1 hb.1 (by rw[V0];show ha.2) (by rw[V0];show hb.2),h6];change _=Builtin.bitOr a b-Builtin.bitAnd a b;rw[PyProof.Rows.bitOr_and];lia
def ab8{a b:Z}(hk:k<9)(ha:Val a)(hb:Val b):Val^z9 k a b:=by
 let#[a0,a1]:=id ha;let#[b0,b1]:=id hb;let bits:6<=k->Val^z9 k a b:=λh6=>by
  rw[<- ab7 h6 hk ha hb];let q:=M7 k 48 a b;let V0:(2:Z) ^ 48=281474976710656:=()
  rw[V0] at q;show q
 rcases nine hk with rfl|rfl|rfl|rfl|rfl|rfl|rfl|rfl|rfl;show iR ();show iR ();show iR ();change Val (if b=0 then 0 else a / b);split;show#[(),()];show#[Int.ediv_nonneg a0 b0,Int.lt_of_le_of_lt (Int.ediv_le_self b a0) a1];change Val (if a<b then 1 else 0);split<;>show#[(),()];change Val (if a=b then 1 else 0);split<;>show#[(),()];show bits ();show bits ();show bits ()
noncomputable def picks(part:ax)(xs:List ax)(ys:List V):List V:=((xs.zip ys).filter λx=>decide (x.1=part)).map (·.2)
theorem IQ{part x:ax}{ys:List V}(hx:xs[i]?=!x)(hy:ys[i]?=!y):picks part (xs.take (i+1))^ys.take (i+1)=picks part (xs.take i)^ys.take i++if x=part then[y] else[]:=by let h1:i<xs.length:=(fK hx).1;let h2:i<ys.length:=(fK hy).1;unfold picks;rw[b8,b8,hx,hy,List.zip_append (by rw[bU,bU];lia),lB,bf];congr 1;by_cases e:x=part;simp[e];simp[e]
def F2(r:bp):picks "place" r.parts r.rest=r.ways.map V.int:=by cases r<;>rfl
def K7(r:bp):r.rest.length=r.parts.length:=by cases r<;>rfl
def B7(r:bp):r.rest.length<=6:=by cases r<;>simp[Row.rest]
def afY(x:V)(xs:List V):iI (x::xs) (!1) bc=xs:=by
 unfold iI;let e:HT.gz (x::xs).length 0^some 1=1:=by rw[show(!(1:Z))=!((1:B):Z) from Y,HT.ql];simp
 rw[e,HT.Es];simp
def F3(T:Txt w8 K_ m_)(r:bp):∃p,dI [(.inr "num", ¬T.iB.tW),(.inr "copy", ¬T.iB.tX),(.inr "op", ¬T.iB.tY),(.inr "out", ¬T.iB.tZ),(.inr "fork", ¬T.iB.ud),(.inr "look", ¬T.iB.ue),(.inr "mark", ¬T.iB.uf),(.inr "back", ¬T.iB.ug)] (.inr r.key:Key)=!V.ref p/\fq K_ p^r.parts.map V.str:=by cases r;show#[_,Y,T.iB.FO];show#[_,Y,T.iB.FP];show#[_,Y,T.iB.FQ];show#[_,Y,T.iB.FT];show#[_,Y,T.iB.FU];show#[_,Y,T.iB.FW];show#[_,Y,T.iB.FY];show#[_,Y,T.iB.FZ]
inductive M9(K_:aB)(vs:List V)(H:Hp)(Q:VK)(z:XK):Prop|mk(a:Addr)(r:Row)(part:Str)(z:vs=[¬a,.str part])(z:H a=!.tup r.vals)(z:∀p H',az H H'->H p=none->H' p=!.lst^picks part r.parts r.rest->Q (¬p) H')
theorem lN:T.ji∩(1,M9 K_):=by
 exists T.ji,A1,#[a,r,part,rfl,ha,q],"+<Ñ´QÃ.ÒhÓ:0*pµ0Z}¶2Uc0[c1i|021",2,["own", "number"],"own",["part"],[1],["part"],(λz z=>rfl),(show(["own", "number", "part"]:List Str).Nodup from ()),(show(["own", "number", "part"]:List Str).Nodup from ());let#[pp,Fu,cp]:=F3 T r;lk;show afk Fu ?_;lk;ext t H1 n1;let et:iI r.vals (!1) bc=r.rest:=afY _ _;rw[et] at n1 ⊢;let XB:=K7 r;let hsm:=B7 r;show PM (λi zs τ H'=>A3 (az H1 H') (zs=picks part (r.parts.take i)^r.rest.take i) (E2 λx y=>τ=[x,y,!.str part])) ?_ ?_ ?_ ?_ ?_;show#[az.refl _,by simp[picks],_,_,Y];rintro i zs τ H' hi ⟨sm,rfl,x,y,rfl⟩;show#[fq.sq cp,eB.of^sm _ _ n1.self,?_];unfold picks;rw[au];show aZ (kq _ _) ?_;rw[List.length_zip,bU];lia;rw[au];lia
 .rintro i x y p zs τ H' H2 hx hy ⟨sm,rfl,x0,y0,rfl⟩ n2;rw[bB] at hx;let#[x',hx',Y]:=cL.mp hx;let e:=IQ (part:=part) hx' hy;lk
  .rename_i he;rw[if_pos he] at e;show#[by walk_at "same", e.symm,_,_,Y]
  .rename_i he;rw[if_neg he,ck] at e;show#[by walk_at "same", e.symm,_,_,Y]
 .rintro zs τ H' ⟨sm,rfl,x,y,rfl⟩ p H2 n2;show q p H2 (by walk_at "same") (by walk_at "free") ?_;rw[n2.self,au,XB,Nat.min_self,cA,<- XB,cA]
inductive ab9(K_:aB)(vs:List V)(H:Hp)(Q:VK)(z:XK):Prop|mk(a:Addr)(r:Row)(z:vs=[¬a])(z:H a=!.tup r.vals)(z:∀p H',az H H'->H p=none->H' p=!.lst^r.ways.map V.int->Q (¬p) H')
def Aa:T.ur∩(2,ab9 K_):=by exists T.ur,II,#[a,r,rfl,ha,q],"+</lN .0b",1;lk;show#[a,r, "place", rfl,ha,λp H' sm hp e=>?_];rw[F2] at e;show q p H' sm hp e
noncomputable def Row.dP(f:Z->Z):bp->bp
 | .num d k v q=>.num d k v (f q)|.copy d k i q=>.copy d k i (f q)|.op d s k i j q=>.op d s k i j (f q)|.out i q=>.out i (f q)|.fork i q p=>.fork i (f q) (f p)|.look i q=>.look i (f q)|.mark q=>.mark (f q)|.back i=>.back i
def Row.Na(f:Z->Z)(r:bp):(r.dP f).key=r.key:=by cases r<;>rfl
def Row.Nb(f:Z->Z)(r:bp):(r.dP f).rest.length=r.rest.length:=by cases r<;>rfl
def Nc(f:Z->Z)(r:bp):∀(i:B)(x:ax)(y:V),r.parts[i]?=!x->r.rest[i]?=!y->(x = "place" /\ ∃z∈r.ways,y=.int z/\(r.dP f).rest[i]?=!.int^f z)\/(x ≠ "place" /\ (r.dP f).rest[i]?=!y):=by
 intro i x y hx hy;cases r<;>rcases i with _|_|_|_|_|_|i<;>erw[Row.parts,Row.rest,yE,qU,List.getElem?_nil,Option.some.injEq,reduceCtorEq] at hx hy
 all_goals subst hx hy
 all_goals first
  | show .inl #[Y,_,by simp[Row.ways],Y,Y]
  | show .inr #[(),Y]
theorem V1{τ:L2.St}(f:bp->bp)(hS:bJ K_ H a us)(T0:Rows H us rs)(hz:dC<=100000)
  (he:∀r∈rs,∀ra H1,az H H1->H1 ra=!.tup^Row.vals r->∀Q:VK,(∀t H2,az H1 H2->H2 t=!.tup (f r).vals->Q (¬t) H2)->te (some^.ref ra::τ) H1 Q)
  (h:∀Ps p H1 H',az H H1->gU H1 p (.lst Ps) H'->Rows H' Ps^rs.map f->Q (¬p) H'):HP (OI K_ a) UN te τ Q H:=by let Ba:=T0.length;show iM (xs:=us) (λi ys H'=>az H H'/\Rows H' ys^(rs.take i).map f) #[az.refl _,.nil] ?_ ?_ ?_;rintro i ys H' hi ⟨sm,_⟩;show sm.seq hS;rintro i x ys H' hx ⟨sm,hys⟩;let hi:i<us.length:=(fK hx).1;show#[cV (by rw[hys.length,au,bU];lia),?_];show Pz^UM ?_;let#[r,TK,#[ra,Y,lS]]:=bE T0 hx;show he r (ie TK) ra H' sm (sm _ _ lS) _ λt H2 s2 ht=>#[sm.trans s2,?_];rw[b8,TK,bf];show dY (Rows.same s2 hys) #[t,Y,ht];rintro ys H' ⟨sm,hys⟩ p H2 n2;rw[Ba,cA] at hys;show h ys p H' H2 sm n2^hys.same n2.same
inductive IS(K_:aB)(vs:List V)(H:Hp)(Q:VK)(q:XK):Prop|mk(a m:Addr)(r:Row)(us:List V)(f:Int->Int)(q:vs=[¬a,¬m])(q:H a=!.tup r.vals)(q:H m=!.lst us)(q:(∀z∈r.ways,uU us z=!.int^f z))(q:∀t H',az H H'->H' t=!.tup (r.dP f).vals->Q (¬t) H')
theorem uB:T.l9∩(1,IS K_):=by
 exists T.l9,tS,#[a,m,r,us,f,rfl,ha,hm,hf,q],"-Ô2´QÃ.ÒhÓ:0*pµ0Z}¶2Uc0[c1OSH0V!211+<j*~R*:02",3,["part", "number"],"part",["moved"],[1],["moved"],(λv v=>rfl),(show(["part", "number", "moved"]:List Str).Nodup from ()),(show(["part", "number", "moved"]:List Str).Nodup from ()),oY (K:=K_) rfl;let#[pp,Fu,cp]:=F3 T r;lk;show afk Fu ?_;lk;ext t H3 n3;let et:iI r.vals (!1) bc=r.rest:=afY _ _;rw[et] at n3 ⊢;let XB:=K7 r;let hsm:=B7 r;let hml:=Row.Nb f r;let hm3:=n3.keep hm;show PM (λi zs τ H'=>A3 (az H3 H') (zs=(r.dP f).rest.take i) (E2 λx y=>τ=[x,y,!.ref m])) ?_ ?_ ?_ ?_ ?_;show#[az.refl _,Y,_,_,Y];rintro i zs τ H' hi ⟨sm,rfl,x,y,rfl⟩;show#[fq.sq cp,eB.of^sm _ _ n3.self,?_];rw[bU];lia;rw[au];lia
 .rintro i x y p zs τ H' H4 hx hy ⟨sm,rfl,x0,y0,rfl⟩ n4;rw[bB] at hx;let#[x',hx',Y]:=cL.mp hx;let hm4:H4 m=!.lst us:=n4.keep^sm _ _ hm3;rcases Nc f r i x' y hx' hy with⟨rfl,z,hz,rfl,e⟩|⟨UV,e⟩
  .lk;show cZ (bJ.of hm4) (hf z hz) ?_;show#[sm.trans n4.same,?_,_,_,Y];rw[b8,e];rfl
  .lk;show#[sm.trans n4.same,?_,_,_,Y];rw[b8,e];rfl
 .rintro zs τ H' ⟨sm,rfl,x,y,rfl⟩ p H4 n4;rw[au,XB,Nat.min_self,<- XB,<- hml,cA] at n4;let ha4:H4 a=!.tup r.vals:=n4.keep^sm _ _^n3.keep ha;lk;ext l5 H5 n5 l6 H6 n6 l7 H7 n7;show q _ _ ((((n3.same.trans sm).trans n4.same).trans n5.same).trans^n6.same.trans n7.same) ?_;rw[n7.self];change _=!HO.tup (.str (r.dP f).key::(r.dP f).rest);rw[Row.Na];rfl
noncomputable def Row.qM:bp->List Z
 | .num _ k _ _=>[k]|.copy _ k i _=>[k,i]|.op _ _ k i j _=>[k,i,j]|.out i _=>[i]|.fork i _ _=>[i]|.look i _=>[i]|.mark _=>[]|.back i=>[i]
noncomputable def Row.g6:bp->ci
 | .num ..=>true|.copy ..=>true|.op ..=>true|_=>false
noncomputable def Row.sd:bp->Z
 | .num d _ _ _=>d|.copy d _ _ _=>d|.op d _ _ _ _ _=>d|_=>2
def B8(r:bp):picks "box" r.parts r.rest=r.qM.map V.int:=by cases r<;>rfl
def rE{n:Z}(h:r.ok n):∀b∈r.qM,0<=b/\b<8:=by cases r<;>erw[Row.ok] at h<;>erw[Row.qM,aJ,eE,or_false]<;>intro b hb;rw[hb];show h.2.1;rcases hb with e|e<;>rw[e];show h.2.1;show h.2.2.1;rcases hb with e|e|e<;>rw[e];show h.2.2.1;show h.2.2.2.1;show h.2.2.2.2.1;rw[hb];show h.1;rw[hb];show h.1;rw[hb];show h.1;show hb.elim;rw[hb];show h
def V2(r:bp):r.qM.length<=3:=by cases r<;>simp[Row.qM]
abbrev cg(H:Hp):List V->List (Z×Z)->Prop:=Paired λv p=>∃a,v=¬a/\H a=!.tup [.int p.1,.int p.2]
def cg.same(e:az H H')(h:cg H vs ps):cg H' vs ps:=dX (λ_ _ ⟨a,h1,h2⟩=>#[a,h1,e _ _ h2]) h
def cg.gp(e:bT H H')(h:cg H vs ps):cg H' vs ps:=dX (λ_ _ ⟨a,h1,h2⟩=>#[a,h1,e _ _ h2]) h
noncomputable def iS(r:bp)(s:Z):Bool:=not r.g6||decide (r.sd=s)||decide (r.sd=2)
noncomputable def nH(r:bp)(bs:List Z):List (Z×Z):=[0,1].flatMap λs=>if iS r s then(SN.gn bs).map λb=>(s,b) else[]
def yi(r:bp):xF (.str r.key) [.str "num", .str "copy", .str "op"]=r.g6:=by
 let k:∀x∈(["num", "copy", "op"]:List ax),xF (.str x) [.str "num", .str "copy", .str "op"]=true:=()
 let n:∀x∈(["out", "fork", "look", "mark", "back"]:List ax),xF (.str x) [.str "num", .str "copy", .str "op"]=false:=()
 cases r<;>first|show k _ (by simp[Row.key])|show n _ (by simp[Row.key])
def V3(h:r.g6=am):uU r.vals 1=!.int r.sd:=by cases r<;>first|rfl|cases h
def V4(d s:Z):xF (.int d) [.int s,.int 2]=(decide (d=s)||decide (d=2)):=by erw[xF,lA,List.any_nil,Bool.or_false,UJ];rw[show(s==d)=decide (d=s) from by rw[Bool.beq_comm];rfl,show((2:Z)==d)=decide (d=2) from by rw[Bool.beq_comm];rfl]
def IT(r:bp)(bs:List Z){s:Z}(h:([0,1]:List Z)[i]?=!s):(([0,1]:List Z).take (i+1)).flatMap (λs=>if iS r s then(SN.gn bs).map λb=>(s,b) else[])=(([0,1]:List Z).take i).flatMap (λs=>if iS r s then(SN.gn bs).map λb=>(s,b) else[])++if iS r s then(SN.gn bs).map λb=>(s,b) else[]:=by rw[b8,h,yD];simp
def mE(ns:List Z):(SN.gn ns).length<=8:=by unfold SN.gn;rw[au];show aZ (kq ..) (by simp)
def kI{F:α->β->O}{xs:List α}{ys:List β}{xs':List α}{RF:List β}(h:Paired F xs ys)(h':Paired F xs' RF):Paired F (xs++xs') (ys++RF):=by
 induction h with
 | nil=>show h'
 | cons a _ ih=>show .cons a ih
inductive K8(vs:List V)(H:Hp)(Q:VK)(z:XK):Prop|mk(a b:Addr)(r:Row)(bs:List Int)(z:vs=[¬a,¬b])(z:H a=!.tup r.vals)(z:H b=!.lst^bs.map V.int)(z:(∀n∈bs,0<=n/\n<8))(z:bs.length<=3)(z:∀(l:Addr)(us:List V)(H':Hp),az H H'->H l=none->H' l=!.lst us->cg H' us^nH r bs->Q (¬l) H')
theorem F4:T.F0∩(1,K8):=by
 exists T.F0,zQ,#[a,b,r,bs,rfl,ha,hb,T7,hbl,q],"-=2J-KêhÕC3+?WqkÖ:0r¡a:0>.3*·+Bl2*]QE¸!*d!ÄÅ*1O>.1*0+<2",4,(by with_unfolding_all rfl),(by with_unfolding_all rfl),"box",["side"],[3],["side"],zB rfl,BK rfl;let cd:=T.k9.q;let cs:=T.xm.q;lk;ext fo H1 n1;let YL:=n1.1;let af1:=n1.self;let s1:=n1.same;clear n1;show f_tup (xs:=[.int 0,.int 1]) (λi U' H'=>E2 λx us=>A4 (U'=[!.ref a,!.ref b,!.ref fo,x]) (az H H') (H' fo=!.lst us)^cg H' us ((([0,1]:List Z).take i).flatMap λs=>if iS r s then(SN.gn bs).map λb=>(s,b) else[])) ?_ ?_ ?_ ?_;show#[none,[],Y,s1,af1,.nil];rintro i U' H' _ ⟨x,us,rfl,s',_⟩;show fq.sq cs
 .rintro i x U' H2 hx ⟨x0,us,rfl,s2,Ab,xH⟩;obtain⟨s,hs,rfl⟩:∃s,([0,1]:List Int)[i]?=some s/\x=.int s:=by
   match i,hx with
   | 0,hx=>cases hx;show#[0,Y,Y]
   | 1,hx=>cases hx;show#[1,Y,Y]
  let step:=IT r bs hs;let Ba:dC<=16:=by
   let h1:=xH.length;rw[h1];let h8:=mE bs
   match i,hs with
   | 0,_=>show aQ _
   | 1,_ =>
    change(([0]:List Z).flatMap _).length<=16;rw[List.flatMap_singleton];split;rw[au];lia;show aQ _
  clear af1 s1;show akr ?_;show afw ?_;intro kt0 kf0 acd Rv;let hK:∀H',az H2 H'->H' fo=!.lst us->iS r s=am->kt0 H':=λH3 s3 uC hsd=>by
   show acd _ ?_;clear acd Rv;rw[hsd,if_pos Y] at step;let YM:=s3 _ _^s2 _ _ hb;let Nd:=xH.same s3;lk;show abO (bJ.of YM) T7 ∅ ?_;intro p4 H4 n4;lk;show Kv n4.self T7 ?_;intro p5 H5 n5;lk;show iM (xs:=(SN.gn bs).map V.int) (λj ys H'=>az H5 H'/\cg H' ys (((SN.gn bs).take j).map λb=>(s,b))) #[az.refl _,.nil] ?_ ?_ ?_;rintro j ys H' _ ⟨s',_⟩;show bJ.of^s' _ _ n5.self
   .rintro j x ys H6 hx ⟨s6,hys⟩;rw[bB] at hx;let#[y,hy,Y]:=cL.mp hx;let Id:=hys.length;rw[au,bU] at Id;let h8:=mE bs;show#[cV ∅,?_];lk;ext t7 H7 n7;show#[s6.trans n7.same,?_];rw[b8,hy,bf];show dY (hys.same n7.same) #[t7,Y,n7.self]
   rintro ys H6 ⟨s6,hys⟩ p7 H7 n7;rw[au,cA] at hys;let Id:=hys.length;rw[au] at Id;let h8:=mE bs;let ace:=n7.keep^s6 _ _^n5.keep^n4.keep uC;let s37:=((n4.same.trans n5.same).trans s6).trans n7.same;let aly:=Nd.same s37;let acg:=hys.same n7.same;let hp7:=n7.self;let npf:fo≠p7:=aE (s6 _ _^n5.keep^n4.keep uC) n7.1;let s07:=(s2.trans s3).trans s37;clear n4 n5 s6 n7 hys Nd uC YM s37;lk;ext H8 p8;let tt:bT H7 H8:=λb xs e=>p8.keep (cB e ace (by intro z;cases z)) e;show#[_,_,Y,p8.same s07 YL,p8.self,?_];rw[step];show kI (aly.gp tt)^acg.gp tt
  clear acd;let hN:∀H',az H2 H'->H' fo=!.lst us->iS r s=bo->kf0 H':=λH3 s3 uC hsd=>by show Rv _ ?_;clear Rv;rw[hsd] at step;lk;show#[_,_,Y,s2.trans s3,uC,?_];rw[step];simpa using xH.same s3
  clear Rv xH step;let LE:=s2 _ _ ha;let hdi:=yi r;lk;rw[hdi];cases BL:r.g6 with
  | false =>
   erw[Bool.not_false,if_true];show hK H2 (az.refl _) Ab (by unfold iS;rw[BL];rfl)
  | true =>
   erw[ig,cJ,if_false];lk;show sM (eB.of LE) (V3 BL) ?_;lk;ext t4 H4 n4;let esd:xF (.int r.sd) [.int s,.int 2]=iS r s:=by rw[V4];unfold iS;rw[BL];rfl
   rw[esd];cases hsr:iS r s with
   | true=>rw[if_pos Y];show hK H4 n4.same (n4.keep Ab) hsr
   | false=>rw[if_neg ()];show hN H4 n4.same (n4.keep Ab) hsr
 .rintro U' H2 ⟨x0,us,rfl,s2,Ab,xH⟩;lk;show q fo us H2 s2 YL Ab xH
def Row.Nf(r:bp):List Int:=if r.g6 then r.qM.drop 1 else r.qM
def eZ(r:bp):List (Z×Z):=nH r r.Nf
noncomputable def bP(r:bp):List (Z×Z):=if r.g6 then nH r^r.qM.take 1 else[]
def Dw:∀b∈r.Nf,b∈r.qM:=λb hb=>by unfold Row.Nf at hb;split at hb;show List.mem_of_mem_drop hb;show hb
theorem V5(r:bp):r.Nf.length<=3:=by have:=V2 r;unfold Row.Nf;split;rw[uZ];lia;show this
inductive V6(vs:List V)(H:Hp)(Q:VK)(z:XK):Prop|mk(a:Addr)(r:Row)(n:Int)(z:vs=[¬a])(z:H a=!.tup r.vals)(z:r.ok n)(z:∀(l:Addr)(us:List V)(H':Hp),az H H'->H l=none->H' l=!.lst us->cg H' us^eZ r->Q (¬l) H')
def F5:T.reads∩(2,V6):=by
 exists T.reads,FI,#[a,r,n,rfl,ha,hok,q],"-=1/lN .0b+</F4 .0*Sa:0rp×1Z}1",2,(by with_unfolding_all rfl);let cd:=T.k9.q;let hdi:=yi r;lk;show#[a,r, "box", rfl,ha,λp H1 s1 fp hp=>?_];rw[B8] at hp;let FB:=s1 _ _ ha;let fin:∀(c:ae)(H2:Hp),az H H2->H2 a=!.tup r.vals->H2 c=!.lst^r.Nf.map V.int->K8 [¬a,¬c] H2 Q E0:=λc H2 s2 LE hc=>#[a,c,r,r.Nf,Y,LE,hc,λb hb=>rE hok b^Dw b hb,V5 r,λl us H3 s3 fl hl xH=>q l us H3 (s2.trans s3) (s2.free fl) hl xH];lk;rw[hdi];cases BL:r.g6 with
 | true =>
  rw[if_pos Y];lk;ext c H2 n2;let ec:iI (r.qM.map V.int) (!1) bc=r.Nf.map V.int:=by unfold Row.Nf;rw[BL,if_pos Y];cases r<;>first|rfl|cases BL
  rw[ec] at n2;show fin c H2 (s1.trans n2.same) (n2.keep FB) n2.self
 | false =>
  rw[if_neg ()];lk;show fin p H1 s1 FB (by unfold Row.Nf;rw[BL];show hp)
inductive V7(vs:List V)(H:Hp)(Q:VK)(z:XK):Prop|mk(a:Addr)(r:Row)(n:Int)(z:vs=[¬a])(z:H a=!.tup r.vals)(z:r.ok n)(z:∀(l:Addr)(us:List V)(H':Hp),az H H'->H l=none->H' l=!.lst us->cg H' us^bP r->Q (¬l) H')
theorem F6:T.gives∩(2,V7):=by
 exists T.gives,Ri,#[a,r,n,rfl,ha,hok,q],"+<Sa:0r/F4 .0*¹/lN .0bZJ",1,(by with_unfolding_all rfl);let cd:=T.k9.q;let hdi:=yi r;lk;rw[hdi];cases BL:r.g6 with
 | true =>
  rw[if_pos Y];lk;show#[a,r, "box", rfl,ha,λp H1 s1 fp hp=>?_];rw[B8] at hp;let FB:=s1 _ _ ha;lk;ext c H2 n2;let ec:iI (r.qM.map V.int) bc^some 1=(r.qM.take 1).map V.int:=by cases r<;>rfl
  rw[ec] at n2;show#[a,c,r,r.qM.take 1,Y,n2.keep FB,n2.self,λb hb=>rE hok b^List.mem_of_mem_take hb,by rw[bU];lia,λl us H3 s3 fl hl xH=>q l us H3 ((s1.trans n2.same).trans s3) ((s1.trans n2.same).free fl) hl ?_];unfold bP;rw[BL];show xH
 | false =>
  rw[if_neg ()];lk;ext l H1 n1;show q l [] H1 n1.same n1.1 n1.self ?_;unfold bP;rw[BL];show .nil
inductive c7 (rs:List Row) (p:Int×Int):Nat->Prop
 | here {k:Nat} {r:Row} (h:rs[k]?=!r) (m:p∈eZ r):c7 rs p k
 | on {k q:Nat} {r:Row} (h:rs[k]?=!r) (m:p∉bP r) (w8:((q:Nat):Int)∈r.ways) (l:c7 rs p q):c7 rs p k
def c7.lt{rs:List bp}{p:Z×Z}{k:B}(h:c7 rs p k):k<rs.length:=by
 cases h with
 | here h _=>show(fK h).1
 | on h _ _ _=>show(fK h).1
def c7.read{p:Z×Z}(h:c7 rs p k):∃r∈rs,p∈eZ r:=by
 induction h with
 | here h m=>show#[_,ie h,m]
 | on _ _ _ _ ih=>show ih
def pJ{p:Z×Z}{S:B->O}(h1:∀k r,rs[k]?=!r->p∈eZ r->S k)(h2:∀(k q:B) r,rs[k]?=!r->p∉bP r->((q:B):Z)∈r.ways->S q->S k):∀k,c7 rs p k->S k:=by
 intro k h;induction h with
 | here h m=>show h1 _ _ h m
 | on h m w8 _ ih=>show h2 _ _ _ h m w8 ih
def isLive(rs:List bp)(k:B)(p:Z×Z):Bool:=@decide (c7 rs p k)^Classical.propDecidable _
def jj{p:Z×Z}:isLive rs k p=am↔c7 rs p k:=by unfold isLive;show @decide_eq_true_iff _^Classical.propDecidable _
noncomputable def dG:List (Z×Z):=[(0,0),(0,1),(0,2),(0,3),(0,4),(0,5),(0,6),(0,7),(1,0),(1,1),(1,2),(1,3),(1,4),(1,5),(1,6),(1,7)]
def lu(rs:List bp)(k:B):List (Z×Z):=dG.filter^isLive rs k
def F7:dG.Pairwise (λp q=>SN.rk p<SN.rk q):=()
theorem F8{p:Z×Z}(h1:p.1=0\/p.1=1)(h2:0<=p.2/\p.2<8):p∈dG:=by let#[a,b]:=p;dsimp only at h1 h2;let hb:b=0\/b=1\/b=2\/b=3\/b=4\/b=5\/b=6\/b=7:=∅;rcases h1 with rfl|rfl<;>rcases hb with rfl|rfl|rfl|rfl|rfl|rfl|rfl|rfl<;>decide
def F9{bs:List Z}(hb:∀b∈bs,0<=b/\b<8){p:Z×Z}(h:p∈nH r bs):p∈dG:=by unfold nH at h;let#[s,hs,h]:=lF.mp h;split at h;let#[b,hb1,Y]:=aG.mp h;show F8 ?_^hb b^(SN.j6 hb b).mp hb1;erw[aJ,eE,or_false] at hs;show hs;show nomatch h
def reads_in{n:Z}(h:r.ok n){p:Z×Z}(hp:p∈eZ r):p∈dG:=F9 (λb hb=>rE h b^Dw b hb) hp
theorem K9:∀{xs ys:List (Z×Z)},xs.Pairwise (λp q=>SN.rk p<SN.rk q)->ys.Pairwise (λp q=>SN.rk p<SN.rk q)->(∀p,p∈xs↔p∈ys)->xs=ys
 | [],[],_,_,_=>rfl
 | [],y::ys,_,_,h=>absurd ((h y).mpr^by simp) (by simp)
 | x::xs,[],_,_,h=>absurd ((h x).mp^by simp) (by simp)
 | x::xs,y::ys,hx,hy,h=>by
  rw[vc] at hx hy;let e:x=y:=by rcases aJ.mp ((h x).mp^by simp) with e|h1;show e;rcases aJ.mp ((h y).mpr^by simp) with e|h2;show e.symm;let a1:=hy.1 x h1;let a2:=hx.1 y h2;lia
  subst e;congr 1;show K9 hx.2 hy.2 λp=>#[λhp=>?_,λhp=>?_];rcases aJ.mp ((h p).mp^by simp[hp]) with e|h1;have:=hx.1 p hp;rw[e] at this;lia;show h1;rcases aJ.mp ((h p).mpr^by simp[hp]) with e|h1;have:=hy.1 p hp;rw[e] at this;lia;show h1
def V8{n:Z}(hok:∀r∈rs,r.ok n){qs:List (Z×Z)}(hup:qs.Pairwise (λp q=>SN.rk p<SN.rk q))(hm:∀p,p∈qs↔∃r∈rs,p∈eZ r)(k:B):qs.filter^isLive rs k=lu rs k:=by show K9 (hup.sublist List.filter_sublist) (F7.sublist List.filter_sublist) λp=>?_;rw[eW];unfold lu;rw[eW];show#[λ⟨h1,h2⟩=>#[?_,h2],λ⟨h1,h2⟩=>#[(hm p).mpr (jj.mp h2).read,h2]];let#[r,hr,hp]:=(hm p).mp h1;show reads_in (hok r hr) hp
def pK(rs:List bp)(k:B):(lu rs k).length<=16:=aZ (kq _ _) ()
theorem oh{α:Type}[DecidableEq α]:∀{xs ys:List α},xs.Nodup->(∀x∈xs,x∈ys)->ab<=cf
 | [],_,_,_=>aQ _
 | x::xs,ys,h,q=>by rw[iG] at h;let hx:=q x (by simp);have:=oh (ys:=ys.erase x) h.2 λy hy=>(List.mem_erase_of_ne (λ(e:y=x)=>h.1 (by rw[<- e];show hy))).mpr (q y^by simp[hy]);rw[List.length_erase_of_mem hx] at this;let hp:=List.length_pos_of_mem hx;rw[bW];lia
theorem af3{p q:Z×Z}(h:SN.rk p<SN.rk q):p≠q:=λe=>by rw[e] at h;lia
def Rw(p:Z×Z):putK (ps.map λp=>(AM p,V.bl am)) (AM p)^.bl am=(if p∈ps then ps else ps++[p]).map λp=>(AM p,V.bl am):=by
 let hany:((ps.map λp=>(AM p,V.bl am)).any λkv=>decide (kv.1=AM p))=decide (p∈ps):=by
  induction ps with
  | nil=>rfl
  | cons x ps ih =>
   rw[cu,lA,ih];by_cases e:x=p;simp[e];let e1:Not (AM x=AM p):=λz=>e^VD z;let e2:Not (p=x):=λz=>e z.symm;simp[e1,e2]
 unfold putK;rw[hany];by_cases h:p∈ps;rw[if_pos^decide_eq_true h,if_pos h,gC];show yH λx q=>?_;change(if AM x=AM p then(AM x,V.bl am) else(AM x,V.bl am))=_;split<;>rfl;rw[if_neg^by simpa using h,if_neg h,bf];rfl
noncomputable def cnt(rs:List bp)(j:B):Nat:=(rs.map λr=>r.ways.count (j:Z)).sum
def Rx(h:rs[i]?=!r)(j:B):cnt (rs.take (i+1)) j=cnt (rs.take i) j+r.ways.count (j:Z):=by unfold cnt;rw[b8,h,bf,List.sum_append];simp
def Led(rs:List bp)(i j:B)(x:Z):=∃k r,k<i/\x=((k:B):Z)/\rs[k]?=!r/\((j:B):Z)∈r.ways
theorem Led.succ(h:rs[i]?=!r):Led rs (i+1) j x↔Led rs i j x\/(x=((i:B):Z)/\((j:B):Z)∈r.ways):=by constructor;rintro⟨k,r',h1,h2,h3,h4⟩;by_cases e:k=i;subst e;rw[h] at h3;cases h3;show .inr #[h2,h4];show .inl #[k,r',∅,h2,h3,h4];rintro(⟨k,r',h1,h2,h3,h4⟩|⟨h1,h2⟩);show#[k,r',∅,h2,h3,h4];show#[i,r,∅,h1,h,h2]
def Ac(H:Hp)(rs:List bp)(as:List ae):=∀(j:B) a,as[j]?=!a->∃l:List Z,H a=!.lst^l.map V.int/\d4<=2*bn/\∀x,x∈l↔Led rs bn j x
def af4(H:Hp)(rs:List bp)(as:List ae):=∀(j:B) a,as[j]?=!a->∃l:List Z,H a=!.lst^l.map V.int/\d4=cnt rs j
def Ac.same{as:List ae}(e:az H H')(h:Ac H rs as):Ac H' rs as:=λj a ha=>by let#[l,h1,h2]:=h j a ha;show#[l,e _ _ h1,h2]
inductive V9(K_:aB)(vs:List V)(H:Hp)(Q:VK)(z:XK):Prop|mk(p:Addr)(us:List V)(rs:List Row)(z:vs=[¬p])(z:H p=!.lst us)(z:Rows H us rs)(z:(∀r∈rs,r.ok rs.length))(z:rs.length<=2000)(z:∀f H' (as:List Addr),az H H'->H' f=!.lst^as.map V.ref->as.length=rs.length->Ac H' rs as->af4 H' rs as->Q (¬f) H')
theorem xq:T.leading∩(3,V9 K_):=by
 exists T.leading,kD,#[p,us,rs,rfl,hp,T0,hok,hl,q],"-s1ÆE0OJ-Kt*0¢2UC2[C3+KE/Aa *3C4+BLM14*2+<1",5;let Ba:=T0.length;lk;show iM (xs:=us) (λi ys H'=>az H H'/\∃as:List ae,A4 (ys=as.map V.ref) (as.length=i) as.Nodup (∀a∈as,H a=bc/\H' a=!.lst [])) ?_ ?_ ?_ ?_;show#[az.refl _,[],Y,Y,mT,λa h=>nomatch h];rintro i ys H' hi ⟨sm,as,rfl,_⟩;show bJ.of^sm _ _ hp
 .rintro i x ys H' hx ⟨sm,as,rfl,ha,hn,hh⟩;let hi:i<us.length:=(fK hx).1;show#[cV (by rw[au];lia),?_];lk;ext b H2 n2;show#[sm.trans n2.same,as++[b],by simp,by simp[ha],?_,λa h=>?_];rw[fN];show#[hn,by simp,λa h c hc=>?_];rw[aC.mp hc];intro e;rw[e] at h;have:=(hh b h).2;rw[n2.1] at this;cases this;rcases aR.mp h with h|h;show#[(hh a h).1,n2.keep (hh a h).2];rw[aC.mp h];show#[sm.free n2.1,n2.self]
 rintro ys H1 ⟨sm1,as,rfl,NM,hnd,has⟩ f H2 n2;lk;let alA:f∉as:=λh=>by have:=(has f h).2;rw[n2.1] at this;cases this
 let hHf:H f=none:=sm1.free n2.1;show C4 (xs:=us) (λi U' H'=>A4 (az H H') (H' f=!.lst^as.map V.ref) ((E3 λx y z=>U'=[!.ref p,!.ref f,x,y,z])) (∀(j:B) a,as[j]?=!a->∃l:List Z,H' a=!.lst^l.map V.int/\d4<=2*i/\d4=cnt (rs.take i) j/\∀x,x∈l↔Led rs i j x)) ?_ ?_ ?_ ?_;show#[sm1.trans n2.same,n2.self,#[_,_,_,Y],λj a h=>#[[],n2.keep (has a^ie h).2,aQ _,Y,λx=>#[λh=>(nomatch h),λzq=>?_]]];let#[k,_,hk,_]:=zq;show absurd hk ∅;rintro i U' H' hi ⟨sm,_⟩;show bJ.of^sm _ _ hp
 .rintro i x t U' H' H3 hx ⟨sm,hf,⟨x0,y0,z0,rfl⟩,hL⟩ n3;let hi:i<us.length:=(fK hx).1;let#[r,TK,#[ra,Y,lS]]:=bE T0 hx;let Ng:H3 ra=!.tup r.vals:=n3.keep^sm _ _ lS;lk;show#[ra,r,Y,Ng,λpw H4 s4 hpw e4=>?_];lk;let af5:=Row.nG^hok r^ie TK;let hwl:=Row.z6 r;show f_list (xs:=r.ways.map V.int) (λk U' H'=>A5 (az H H') (H' pw=!.lst^r.ways.map V.int) (H' f=!.lst^as.map V.ref) ((∃z,U'=[!.ref p,!.ref f,!.int i,!.ref ra,z])) (∀(j:B) a,as[j]?=!a->∃l:List Z,H' a=!.lst^l.map V.int/\d4<=2*i+k/\d4=cnt (rs.take i) j+(r.ways.take k).count ((j:B):Z)/\∀x,x∈l↔Led rs i j x\/(x=((i:B):Z)/\((j:B):Z)∈r.ways.take k))) ?_ ?_ ?_ ?_;show#[(sm.trans n3.same).trans s4,e4,s4 _ _^n3.keep hf,#[_,Y],λj a h=>?_];let#[l,e,hl,hc,hm]:=hL j a h;show#[l,s4 _ _^n3.keep e,∅,by rw[hc];rfl,λx=>by rw[hm x];simp];rintro k U' H' hk ⟨_,e,_⟩;show bJ.of e
  .rintro k x U' H5 hx ⟨sm5,hw5,IU,⟨z1,rfl⟩,hL5⟩;let hk:k<(r.ways.map V.int).length:=(fK hx).1;rw[au] at hk;rw[bB] at hx;let#[y,hy,Y]:=cL.mp hx;let hyb:=af5 y^ie hy;let ey:y=((y.toNat:B):Z):=∅;let hj:y.toNat<as.length:=∅;let IV:as[y.toNat]?=some as[y.toNat]:=by simp[hj]
   generalize as[y.toNat]'hj=a at IV;let#[l,el,hll,hlc,hm]:=hL5 _ a IV;lk;show cZ (bJ.of IU) (v:=¬a) (by rw[ey];show dN (by rw[bB,IV];rfl)) ?_;let hml:(l.map V.int).length=l.length:=au _;lk;ext H6 n6;let alC:pw≠a:=λe=>by rw[e] at hpw;let h2:H3 a=none:=hpw;let#[l',e',_]:=hL _ a IV;rw[n3.keep e'] at h2;cases h2
   let hfa:f≠a:=λe=>alA (e▸ie IV);show#[n6.same sm5 (has a^ie IV).1,n6.keep alC hw5,n6.keep hfa IU,#[_,Y],λj b hb=>?_];rw[b8,hy];by_cases e:j=y.toNat;subst e;rw[IV] at hb;cases hb;show#[l++[((i:B):Z)],by rw[bf];show n6.self,by rw[aP];simp;lia,?_,λx=>?_];rw[aP,List.count_append,hlc,<- ey];simp;lia;rw[aR,hm x,aC,aR,<- ey];erw[qk,aC,or_true,and_true];constructor;rintro((h|h)|h);show .inl h;show .inr h.1;show .inr h;rintro(h|h);show .inl^.inl h;show .inr h
   .let#[l',e',FS,alE,SB]:=hL5 j b hb;let hba:b≠a:=λeb=>by subst eb;show e^mD hnd hb IV
    show#[l',n6.keep hba e',∅,?_,λx=>?_];let UV:Not (y=((j:B):Z)):=∅;rw[List.count_append,alE];simp[UV];let UV:Not (((j:B):Z)=y):=∅;rw[SB x,aR];erw[qk,aC,UV,or_false]
  .rintro U' H5 ⟨sm5,hw5,IU,⟨z1,rfl⟩,hL5⟩;show#[sm5,IU,#[_,_,_,Y],λj a h=>?_];let#[l,e,hl,hc,hm]:=hL5 j a h;rw[au] at hl hc;rw[cA] at hc;show#[l,e,∅,by rw[hc,Rx TK],λx=>?_];rw[hm x,Led.succ TK,au,cA]
 .rintro U' H' ⟨sm,hf,⟨x0,y0,z0,rfl⟩,hL⟩;lk;show q f H' as sm hf ∅ (λj a h=>?_) λj a h=>?_;let#[l,e,hl,_,hm]:=hL j a h;rw[Ba] at hl hm;show#[l,e,hl,hm];let#[l,e,_,hc,_]:=hL j a h;rw[Ba,cA] at hc;show#[l,e,hc]
inductive ach(K_:aB)(vs:List V)(H:Hp)(Q:VK)(z:XK):Prop|mk(p:Addr)(us:List V)(rs:List Row)(z:vs=[¬p])(z:H p=!.lst us)(z:Rows H us rs)(z:(∀r∈rs,r.ok rs.length))(z:rs.length<=2000)(z:∀f H' (as:List Addr),az H H'->H' f=!.lst^as.map V.ref->as.length=rs.length->Ac H' rs as->Q (¬f) H')
def IW(T:Txt w8 K_ m_):bK P_ w8 K_ m_ b_ fX 3 T.leading.f T.leading.d ["code"] (ach K_) :=
 (xq T).imp λvs H Q E h=>by let#[p,us,rs,h1,h2,h3,h4,h5,q]:=h;show#[p,us,rs,h1,h2,h3,h4,h5,λf H' as a b c d z=>q f H' as a b c d]
abbrev pL(H:Hp):List V->List^List (Z×Z)->Prop:=Paired λv ps=>∃a us,v=¬a/\H a=!.lst us/\cg H us ps
theorem pL.same{T8:List^List (Z×Z)}(e:az H H')(h:pL H vs T8):pL H' vs T8:=dX (λ_ _ ⟨a,us,h1,h2,h3⟩=>#[a,us,h1,e _ _ h2,h3.same e]) h
inductive aci(vs:List V)(H:Hp)(Q:VK)(z:XK):Prop|mk(p:Addr)(zs:List V)(T8:List^List (Int×Int))(z:vs=[¬p])(z:H p=!.lst zs)(z:pL H zs T8)(z:(∀ps∈T8,∀q∈ps,q∈dG))(z:∀(l:Addr)(us:List V)(qs:List (Int×Int))(H':Hp),az H H'->H l=none->H' l=!.lst us->cg H' us qs->qs.Pairwise (λp q=>SN.rk p<SN.rk q)->(∀q,q∈qs↔∃ps∈T8,q∈ps)->Q (¬l) H')
theorem Dy:T.qu∩(1,aci):=by
 exists T.qu,jX,#[p,zs,T8,rfl,hp,hzs,Rs,q],"-=1'Pc -KE0C2+KE2C3+uD13Ø+<¸!*1",4,Im rfl;lk;ext d H1 n1;let fd:=n1.1;let s1:=n1.same;let Qb:=n1.self;clear n1;show f_list (xs:=zs) (λi U' H'=>A3 ((E2 λx y=>U'=[!.ref p,!.ref d,x,y])) (az H H') (∃ps:List (Z×Z),A4 (H' d=!.dT (ps.map λp=>(AM p,V.bl am))) ps.Nodup ((∀q∈ps,q∈dG)) (∀q,q∈ps↔∃qs∈T8.take i,q∈qs))) ?_ ?_ ?_ ?_;show#[#[_,_,Y],s1,[],Qb,mT,(λq h=>nomatch h),λq=>by simp];rintro i U' H' _ ⟨_,s',_⟩;show bJ.of^s' _ _ hp
 .rintro i x U' H2 hx ⟨⟨x0,y0,rfl⟩,s2,ps,PH,nd,U2,hmem⟩;let#[qs,hqi,a,us,Y,ha,xH]:=bE hzs hx;let LE:=s2 _ _ ha;let af6:=xH.same s2;let hqa:=Rs qs^ie hqi;lk;show f_list (xs:=us) (λj U' H'=>A3 ((∃y,U'=[!.ref p,!.ref d,!.ref a,y])) (az H H') (∃ps:List (Z×Z),A4 (H' d=!.dT (ps.map λp=>(AM p,V.bl am))) ps.Nodup ((∀q∈ps,q∈dG)) (∀q,q∈ps↔(∃qs∈T8.take i,q∈qs)\/q∈qs.take j))) ?_ ?_ ?_ ?_;show#[#[_,Y],s2,ps,PH,nd,U2,λq=>by rw[hmem q];simp];rintro j U' H' _ ⟨_,s',_⟩;show bJ.of^s' _ _ ha
  .rintro j x U' H3 hx ⟨⟨y0,rfl⟩,s3,ps,xr,nd,U2,hmem⟩;let#[t,htj,b,Y,hb]:=bE xH hx;let YM:=s3 _ _ hb;let WF:cn<=16:=oh nd U2;lk;show afC (k:=AM t) xr YM (by rw[au];lia) ?_;intro H4 p4;rw[Rw] at p4;lk;show#[#[_,Y],p4.same s3 fd,_,p4.self,?_,?_,λq=>?_];by_cases h:t∈ps;rw[if_pos h];show nd;rw[if_neg h,fN];show#[nd,by simp,λx hx y hy e=>h (by rw[<- aC.mp hy,<- e];show hx)]
   .intro q hq;by_cases h:t∈ps;rw[if_pos h] at hq;show U2 q hq
    .rw[if_neg h] at hq;rcases aR.mp hq with hq|hq;show U2 q hq;rw[aC.mp hq];show hqa t^ie htj
   .rw[b8,htj,aR];erw[qk,aC];by_cases h:t∈ps;rw[if_pos h,hmem q];constructor;rintro(h1|h1);show .inl h1;show .inr^.inl h1;rintro(h1|h1|h1);show .inl h1;show .inr h1;rw[h1];show(hmem t).mp h;rw[if_neg h,aR,hmem q,aC,or_assoc]
  .rintro U' H3 ⟨⟨y0,rfl⟩,s3,ps,xr,nd,U2,hmem⟩;show#[#[_,_,Y],s3,ps,xr,nd,U2,λq=>?_];rw[hmem q,xH.length,cA,b8,hqi];erw[aR,qk,aC];constructor;rintro(⟨qs',h1,h2⟩|h1);show#[qs',.inl h1,h2];show#[qs,.inr Y,h1];rintro⟨qs',h1|h1,h2⟩;show .inl #[qs',h1,h2];subst h1;show .inr h2
 .rintro U' H2 ⟨⟨x0,y0,rfl⟩,s2,ps,PH,nd,U2,hmem⟩;let WF:cn<=16:=oh nd U2;lk;show VE (f:=λz=>.bl am) PH (λq hq=>?_) ∅ λl us qs H3 n3 xH Ks hup=>?_
  .have all:∀q∈dG,0<=q.2/\q.2<1000:=()
   show all q^U2 q hq
  .show q l us qs H3 (s2.trans n3.same) (s2.free n3.1) n3.self (cg.same n3.same xH) hup λq=>?_;rw[Ks.mem_iff,hmem q,hzs.length,cA]
def Ad(x:Z):∀ss:List Z,(dI (ss.map λk=>((.inl k:Key),V.bl am))^.inl x).isSome=decide (x∈ss):=λss=>by
 rw[<- kB];induction ss with
 | nil=>rfl
 | cons y ss ih =>
  rw[cu,lA,ih];by_cases e:y=x;simp[e];let e1:Not ((Sum.inl y:Key)=Sum.inl x):=λz=>e^Sum.inl.inj z;let e2:Not (x=y):=λz=>e z.symm;simp[e1,e2]
def Ry{ss:List Z}(h:x∉ss):putK (ss.map λk=>((.inl k:Key),V.bl am)) (.inl x)^.bl am=(ss++[x]).map λk=>((.inl k:Key),V.bl am):=by unfold putK;rw[kB,Ad,decide_eq_false h,if_neg (),bf];rfl
structure Apart (H5:Hp) (f l cm sn:Addr) (as:List Addr):Prop where
 c5:H5 cm=none
 n5:H5 sn=none
 a5:∀a∈as,H5 a=none
 fc:f≠cm
 fs:f≠sn
 lc:l≠cm
 ls:l≠sn
 cs:cm≠sn
 ca:cm∉as
 sa:sn∉as
 fa:f∉as
 la:l∉as
 nd:as.Nodup
structure Ef (H5 H6:Hp) (f l cm sn:Addr) (as:List Addr) (us:List V) (cs ss:List Int) (g:Nat->List (Int×Int)) (H:Hp):Prop where
 s5:az H5 H
 t6:bT H6 H
 hf:H f=!.lst^as.map V.ref
 hl:H l=!.lst us
 hc:H cm=!.lst^cs.map V.int
 hs:H sn=!.dK (ss.map λk=>(.inl k,.bl true))
 ha:∀(k:Nat) a,as[k]?=!a->∃vs,H a=!.lst vs/\cg H vs^g k
section
variable {H5 H6:Hp}{cm sn:ae}{as:List ae}{us:List V}{Sc ss:List Z}{g g':B->List (Z×Z)}
def Ef.new{p:ae}(x:Ef H5 H6 f l cm sn as us cs ss g H)(n:gU H p o H'):Ef H5 H6 f l cm sn as us cs ss g H' :=
 #[x.s5.trans n.same,x.t6.trans^sT n.same,n.keep x.hf,n.keep x.hl,n.keep x.hc,n.keep x.hs,λk a e=>let⟨vs,h1,h2⟩:=x.ha k a e;#[vs,n.keep h1,h2.same n.same]]
theorem Ef.same(x:Ef H5 H6 f l cm sn as us cs ss g H)(n:az H H'):Ef H5 H6 f l cm sn as us cs ss g H' :=
 #[x.s5.trans n,x.t6.trans^sT n,n _ _ x.hf,n _ _ x.hl,n _ _ x.hc,n _ _ x.hs,λk a e=>let⟨vs,h1,h2⟩:=x.ha k a e;#[vs,n _ _ h1,h2.same n]]
def Ef.af7(A:Apart H5 f l cm sn as)(x:Ef H5 H6 f l cm sn as us cs ss g H)(p:nU H cm (.lst^Sc.map V.int) H'):Ef H5 H6 f l cm sn as us Sc ss g H':=by let tt:bT H H':=λb xs e=>p.keep (cB e x.hc (by intro z;cases z)) e;show#[p.same x.s5 A.c5,x.t6.trans tt,p.keep A.fc x.hf,p.keep A.lc x.hl,p.self,p.keep A.cs.symm x.hs,λk a e=>let⟨vs,h1,h2⟩:=x.ha k a e;#[vs,p.keep (λz=>A.ca (by rw[<- z];show ie e)) h1,h2.gp tt]]
def Ef.alG(A:Apart H5 f l cm sn as){ss':List Z}(x:Ef H5 H6 f l cm sn as us cs ss g H)(p:nU H sn (.dK (ss'.map λk=>(.inl k,.bl am))) H'):Ef H5 H6 f l cm sn as us cs ss' g H':=by let tt:bT H H':=λb xs e=>p.keep (cB e x.hs (by intro z;cases z)) e;show#[p.same x.s5 A.n5,x.t6.trans tt,p.keep A.fs x.hf,p.keep A.ls x.hl,p.keep A.cs x.hc,p.self,λk a e=>let⟨vs,h1,h2⟩:=x.ha k a e;#[vs,p.keep (λz=>A.sa (by rw[<- z];show ie e)) h1,h2.gp tt]]
def Ef.alH(A:Apart H5 f l cm sn as){aj:ae}{vj:List V}(x:Ef H5 H6 f l cm sn as us cs ss g H)(hj:as[j]?=!aj){w8:List V}(hold:H aj=!.lst w8)(p:nU H aj (.lst vj) H')(hv:cg H vj^g' j)(hg:∀k,k≠j->k<as.length->g' k=g k):Ef H5 H6 f l cm sn as us cs ss g' H':=by let mj:=ie hj;let tt:bT H H':=λb xs e=>p.keep (cB e hold (by intro z;cases z)) e;show#[p.same x.s5^A.a5 aj mj,x.t6.trans tt,p.keep (λz=>A.fa (by rw[z];show mj)) x.hf,p.keep (λz=>A.la (by rw[z];show mj)) x.hl,p.keep (λz=>A.ca (by rw[z];show mj)) x.hc,p.keep (λz=>A.sa (by rw[z];show mj)) x.hs,λk a e=>?_];by_cases ek:k=j;subst ek;rw[hj] at e;cases e;show#[vj,p.self,hv.gp tt];let#[vs,h1,h2]:=x.ha k a e;show#[vs,p.keep (λz=>ek^mD A.nd e (by rw[z];show hj)) h1,?_];rw[hg k ek (fK e).1];show h2.gp tt
end
structure La (rs:List Row) (t:Int×Int) (cs ss:List Int):Prop where
 c1:∀x∈cs,∃k:Nat,x=((k:Nat):Int)/\c7 rs t k
 s1:∀x∈ss,∃k:Nat,x=((k:Nat):Int)/\c7 rs t k
 nd:ss.Nodup
 rd:∀(k:Nat) r,rs[k]?=!r->t∈eZ r->((k:Nat):Int)∈ss\/((k:Nat):Int)∈cs
 cl:∀(k q:Nat) r,rs[k]?=!r->t∉bP r->((q:Nat):Int)∈r.ways->((q:Nat):Int)∈ss->((k:Nat):Int)∈ss\/((k:Nat):Int)∈cs
 ln:cs.length<=rs.length+ss.length*(2*rs.length)
section
variable {rs:List bp}{t:Z×Z}{ss:List Z}
def Nh(nd:ss.Nodup)(h:∀x∈ss,∃k:B,x=((k:B):Z)/\k<n):ss.length<=n:=by
 have:=oh nd (ys:=(List.range n).map λk:B=>(k:Z)) λx hx=>by let#[k,Y,hk]:=h x hx;show aG.mpr #[k,gD.mpr hk,Y]
 rw[au,oJ] at this;show this
def La.few(d:La rs t cs ss):ss.length<=rs.length:=Nh d.nd λx hx=>by let#[k,e,h]:=d.s1 x hx;show#[k,e,h.lt]
theorem La.short(d:La rs t cs ss)(h:bn<=2000):cs.length<=8100000:=by let h1:=d.few;let h2:=d.ln;let h3:ss.length*(2*bn)<=2000*4000:=Nat.mul_le_mul ∅ ∅;lia
theorem La.skip(d:La rs t (cs++[x]) ss)(h:x∈ss):La rs t cs ss where
 c1:=λy hy=>d.c1 y (by simp[hy])
 s1:=d.s1
 nd:=d.nd
 rd:=λk r h1 h2=>by rcases d.rd k r h1 h2 with a|a;show .inl a;rcases aR.mp a with a|a;show .inr a;rw[aC.mp a];show .inl h
 cl:=λk q r h1 h2 h3 h4=>by rcases d.cl k q r h1 h2 h3 h4 with a|a;show .inl a;rcases aR.mp a with a|a;show .inr a;rw[aC.mp a];show .inl h
 ln:=by have:=d.ln;rw[aP] at this;simp at this;lia
theorem La.step{es:List Z}(d:La rs t (cs++[x]) ss)(h:x∉ss)(h1:∀y,y∈es↔∃(k j:B)(r:bp),y=((k:B):Z)/\x=((j:B):Z)/\rs[k]?=!r/\((j:B):Z)∈r.ways/\t∉bP r)(h2:es.length<=2*bn):La rs t (cs++es) (ss++[x]) where
 c1:=λy hy=>by rcases aR.mp hy with a|a;show d.c1 y (by simp[a]);let#[k,j,r,Y,ej,hr,hw,hg]:=(h1 y).mp a;let#[j',ej',hj]:=d.c1 x (by simp);let e:j=j':=∅;subst e;show#[k,Y,.on hr hg hw hj]
 s1:=λy hy=>by rcases aR.mp hy with a|a;show d.s1 y a;rw[aC.mp a];show d.c1 x (by simp)
 nd:=by rw[fN];show#[d.nd,by simp,λa ha b hb e=>h (by rw[<- aC.mp hb,<- e];show ha)]
 rd:=λk r a b=>by rcases d.rd k r a b with c|c;show .inl (by simp[c]);rcases aR.mp c with c|c;show .inr (by simp[c]);show .inl (by simp[aC.mp c])
 cl:=λk q r a b c e=>by rcases aR.mp e with e|e;rcases d.cl k q r a b c e with z|z;show .inl (by simp[z]);rcases aR.mp z with z|z;show .inr (by simp[z]);show .inl (by simp[aC.mp z]);let e:=aC.mp e;show .inr^aR.mpr^.inr^(h1 _).mpr #[k,q,r,Y,e.symm,a,c,b]
 ln:=by have:=d.ln;rw[aP] at this;erw[aP,jJ] at this ⊢;rw[Nat.add_mul];lia
theorem La.done(d:La rs t [] ss)(k:B):((k:B):Z)∈ss↔c7 rs t k:=by
 constructor;intro h;let#[j,e,hj]:=d.s1 _ h;have:k=j:=∅;rw[this];show hj
 .intro h;show pJ (S:=λk=>((k:B):Z)∈ss) (λk r a b=>?_) (λk q r a b c e=>?_) k h;rcases d.rd k r a b with z|z;show z;show nomatch z;rcases d.cl k q r a b c e with z|z;show z;show nomatch z
noncomputable def msr(n s c:B):Nat:=(n-s)*(2*n+1)+c
theorem acj{s c e:B}(hs:s<n)(he:e<=2*n):msr n (s+1) (c+e)<msr n s (c+1):=by unfold msr;obtain⟨d,hd⟩:∃d,n-s=d+1:=#[n-s-1,∅];let h2:n-(s+1)=d:=∅;rw[hd,h2,Nat.add_mul];lia
def Ni{qs:List (Z×Z)}(hi:qs[i]?=!t)(h:((k:B):Z)∈ss↔c7 rs t k):(qs.take (i+1)).filter^isLive rs k=(qs.take i).filter^isLive rs k++if((k:B):Z)∈ss then[t] else[]:=by rw[b8,hi,lB];congr 1;change[t].filter^isLive rs k=_;by_cases e:c7 rs t k;rw[if_pos^h.mpr e,yC^jj.mpr e];rfl;rw[if_neg (λz=>e^h.mp z),yz (λz=>e^jj.mp z)];rfl
end
def B9(H:Hp)(as:List ae)(rs:List bp):=∀(k:B) a,as[k]?=!a->∃us,H a=!.lst us/\cg H us^lu rs k
theorem pL.at{H:Hp}{vs:List V}{rs:List bp}{f:bp->List (Z×Z)}(h:pL H vs^rs.map f){k:B}{r:bp}(e:rs[k]?=!r):∃a us,vs[k]?=!.ref a/\H a=!.lst us/\cg H us^f r:=by
 let hl:=h.length;rw[au] at hl;let hk:k<vs.length:=by rw[hl];show(fK e).1
 let hv:vs[k]?=some vs[k]:=g7 hk;let#[ps,h1,a,us,h2,h3,h4]:=bE h hv;rw[bB,e] at h1;cases h1;show#[a,us,by rw[hv,h2],h3,h4]
inductive ack(vs:List V)(H:Hp)(Q:VK)(z:XK):Prop|mk(p:Addr)(us:List V)(rs:List Row)(z:vs=[¬p])(z:H p=!.lst us)(z:Rows H us rs)(z:(∀r∈rs,r.ok rs.length))(z:rs.length<=2000)(z:∀(f:Addr)(as:List Addr)(H':Hp),az H H'->H f=none->H' f=!.lst^as.map V.ref->as.length=rs.length->as.Nodup->(∀a∈as,H a=none)->f∉as->B9 H' as rs->Q (¬f) H')
set_option maxHeartbeats 40000000 in
theorem Lb:T.live∩(4,ack):=by
 exists T.live,jW,#[p,us,rs,rfl,hp,T0,hok,hn,q],"-s1ÆE0O/F5 *0-=2ºE0O/F6 *0-=3/IW *0-s4ÆE0OJ-KE/Dy *1C5-Ô6´Qt*1¶2Uc0[c1ik!210-=7Ù+e£6-=8¤6+?ÇëD87-uD78Ø-BLM48*5+Bl6*]QEM38ik!2V!100+<4",9,["place", "some"],"place",["spot"],[5],["spot"],(show(["place", "some", "spot"]:List Str).Nodup from ()),(show(["place", "some", "spot"]:List Str).Nodup from ()),Kz (K:=K_) rfl hr.units,(by with_unfolding_all rfl),(λs=>rfl),"other",["giving", "spot"],[2,5],["spot", "giving"],Il (K:=K_) rfl hr.units,oY (K:=K_) rfl,(by with_unfolding_all rfl);let Ba:=T0.length;lk;show iM (xs:=us) (λi ys H'=>az H H'/\pL H' ys^(rs.take i).map eZ) #[az.refl _,.nil] ?_ ?_ ?_;rintro i ys H' _ ⟨s',_⟩;show bJ.of^s' _ _ hp
 .rintro i x ys H1 hx ⟨s1,hys⟩;let#[r,Wa,a,rfl,ha]:=bE T0 hx;let Id:=hys.length;rw[au,bU] at Id;show#[cV ∅,?_];lk;show#[a,r,rs.length,rfl,s1 _ _ ha,hok r^ie Wa,λl ws H2 s2 s hl hws=>#[s1.trans s2,?_]];rw[b8,Wa,bf];show dY (hys.same s2) #[l,ws,rfl,hl,hws]
 rintro rzs H1 ⟨s1,hrz⟩ rd H2 n2;rw[Ba,cA] at hrz;let aga:=n2.self;let agb:=hrz.same n2.same;let s2:=s1.trans n2.same;clear n2 s1 hrz;let FC:=s2 _ _ hp;let Rz:=T0.same s2;lk;show iM (xs:=us) (λi ys H'=>az H2 H'/\pL H' ys^(rs.take i).map bP) #[az.refl _,.nil] ?_ ?_ ?_;rintro i ys H' _ ⟨s',_⟩;show bJ.of^s' _ _ FC
 .rintro i x ys H3 hx ⟨s3,hys⟩;let#[r,Wa,a,rfl,ha]:=bE Rz hx;let Id:=hys.length;rw[au,bU] at Id;show#[cV ∅,?_];lk;show#[a,r,rs.length,rfl,s3 _ _ ha,hok r^ie Wa,λl ws H4 s4 s hl hws=>#[s3.trans s4,?_]];rw[b8,Wa,bf];show dY (hys.same s4) #[l,ws,rfl,hl,hws]
 rintro gzs H3 ⟨s3,hgz⟩ gv H4 n4;rw[Ba,cA] at hgz;let agc:=n4.self;let agd:=hgz.same n4.same;let Wb:=s3.trans n4.same;clear n4 s3 hgz;let hp4:=Wb _ _ FC;let RA:=Rz.same Wb;let age:=Wb _ _ aga;let agf:=agb.same Wb;let s4:=s2.trans Wb;clear Wb FC Rz aga agb s2;lk;show#[p,us,rs,rfl,hp4,RA,hok,∅,λah H5 als s45 acn NM alJ=>?_];let hp5:=s45 _ _ hp4;let agg:=s45 _ _ age;let agh:=agf.same s45;let alK:=s45 _ _ agc;let alL:=agd.same s45;let s5:=s4.trans s45;clear s45 hp4 RA age agf agc agd s4;lk;show iM (xs:=us) (λi ys H'=>az H5 H'/\∃as:List Addr,A4 (ys=as.map V.ref) (as.length=i) as.Nodup (∀a∈as,H5 a=none/\H' a=!.lst [])) #[az.refl _,[],rfl,rfl,mT,λa h=>nomatch h] ?_ ?_ ?_;rintro i ys H' _ ⟨s',_⟩;show bJ.of^s' _ _ hp5
 .rintro i x ys H6 hx ⟨s6,as,rfl,ha,nd,hh⟩;let hi:i<us.length:=(fK hx).1;show#[cV (by rw[au];lia),?_];lk;ext b H7 n7;show#[s6.trans n7.same,as++[b],by simp,by simp[ha],?_,λa h=>?_];rw[fN];show#[nd,by simp,λa h c hc e=>?_];rw[aC.mp hc] at e;subst e;have:=(hh a h).2;rw[n7.1] at this;cases this;rcases aR.mp h with h|h;show#[(hh a h).1,n7.keep (hh a h).2];rw[aC.mp h];show#[s6.free n7.1,n7.self]
 rintro ys H6 ⟨YN,as,rfl,EZ,nd,has⟩ f H7 n7;let T9:=n7.self;let f5:H5 f=none:=YN.free n7.1;let fa:f∉as:=λh=>by have:=(has f h).2;rw[n7.1] at this;cases this
 let Wc:∀a∈as,H5 a=none/\H7 a=!.lst []:=λa h=>#[(has a h).1,n7.keep (has a h).2];let G7:=YN.trans n7.same;clear n7 YN has;let Wd:=G7 _ _ agg;let agi:=agh.same G7;lk;show#[rd,rzs,rs.map eZ,rfl,Wd,agi,?_,λl ws qs H8 s78 fl hl8 agj hup hmem=>?_];intro ps Ty t ht;let#[r,hr,rfl]:=aG.mp Ty;show reads_in (hok r hr) ht;let YO:=s78 _ _ T9;let s58:=G7.trans s78;let la:l∉as:=λh=>by have:=(Wc l h).2;rw[fl] at this;cases this
 let lf:l≠f:=λe=>by rw[e,T9] at fl;cases fl
 let hql:qs.length<=16:=oh (hup.imp λh=>af3 h) (ys:=dG) λt ht=>by let#[ps,Ty,hq]:=(hmem t).mp ht;let#[r,hr,rfl]:=aG.mp Ty;show reads_in (hok r hr) hq
 let aco:∀a∈as,H5 a=none/\H8 a=!.lst []:=λa h=>#[(Wc a h).1,s78 _ _ (Wc a h).2];clear s78 T9 Wd agi Wc fl G7;lk;show f_list (xs:=ws) (λi U' H'=>A6 ((E4 λx y z u=>U'=[!.ref p,!.ref rd,!.ref gv,!.ref ah,!.ref f,x,y,z,u])) (az H5 H') (bT H8 H') (H' f=!.lst^as.map V.ref) (H' l=!.lst ws) (∀(k:Nat) a,as[k]?=!a->∃vs,H' a=!.lst vs/\cg H' vs^(qs.take i).filter^isLive rs k)) ?_ ?_ ?_ ?_;show#[#[_,_,_,_,rfl],s58,bT.refl _,YO,hl8,λk a e=>#[[],(aco a^ie e).2,.nil]];rintro i U' H' _ ⟨_,_,_,_,h,_⟩;show bJ.of h
 .rintro i x U' H9 hx ⟨⟨x5,x6,x7,x8,rfl⟩,s9,t9,Ua,hl9,ha9⟩;let#[t,hti,b,rfl,T7]:=bE agj hx;let hb9:=t9 _ _ T7;let RB:=s9 _ _ agg;let acq:=agh.same s9;lk;let hrl:=acq.length;rw[au] at hrl;show Kc (λj zs τ H'=>A3 (az H9 H') ((∃ns:List Int,zs=ns.map V.int/\ns.length<=j/\∀y,y∈ns↔∃(k:Nat)(r:Row),k<j/\y=((k:Nat):Int)/\rs[k]?=!r/\t∈eZ r)) (E2 λx y=>τ=[x,y,!.ref b])) ?_ ?_ ?_ ?_ ?_;show#[az.refl _,#[[],rfl,aQ _,λy=>#[λh=>(nomatch h),λzq=>?_]],_,_,rfl];let#[k,_,h,_]:=zq;show absurd h ∅;rintro j zs τ H' _ ⟨s',⟨ns,rfl,hl,_⟩,_⟩;show#[bJ.of^s' _ _ RB,by rw[au];show hl];lia
  .rintro j x pp zs τ Ca IY hx ⟨oE,⟨ns,rfl,hnl,PP⟩,x0,y0,rfl⟩ pM;let#[ps,Ty,a,vs,rfl,ha,Oy]:=bE acq hx;rw[bB] at Ty;let#[r,hrj,rfl]:=cL.mp Ty;let Cb:=oE.trans pM.same;let alM:=Cb _ _ ha;let Lc:=Oy.same Cb;let alN:=Cb _ _ hb9;let Fu:=pM.self;clear pM oE;lk;show KA alN (bJ.of alM) Lc ?_;let split:∀y,(∃(k:Nat)(r:Row),k<j+1/\y=((k:Nat):Int)/\rs[k]?=!r/\t∈eZ r)↔(∃(k:Nat)(r:Row),k<j/\y=((k:Nat):Int)/\rs[k]?=!r/\t∈eZ r)\/(y=((j:Nat):Int)/\t∈eZ r):=λy=>by constructor;rintro⟨k,r',h1,h2,h3,h4⟩;by_cases e:k=j;subst e;rw[hrj] at h3;cases h3;show .inr #[h2,h4];show .inl #[k,r',∅,h2,h3,h4];rintro(⟨k,r',h1,h2,h3,h4⟩|⟨h1,h2⟩);show#[k,r',∅,h2,h3,h4];show#[j,r,∅,h1,hrj,h2]
   by_cases hm:t∈eZ r
   .rw[decide_eq_true hm];lk;show#[Cb,#[ns++[((j:Nat):Int)],by simp,by simp;lia,λy=>?_],_,_,rfl];rw[aR,PP y,aC,split y];erw[hm,and_true]
   .rw[decide_eq_false hm];lk;show#[Cb,#[ns,rfl,∅,λy=>?_],_,_,rfl];rw[PP y,split y];erw[hm,and_false,or_false]
  rintro zs τ Ca ⟨oE,⟨ns,rfl,hnl,PP⟩,x0,y0,rfl⟩ cm IY pM;rw[hrl] at hnl PP;lk;ext sn Nj AN;let Nk:∀(k:Nat) a,as[k]?=!a->∃vs,Nj a=!.lst vs/\cg Nj vs^(qs.take i).filter^isLive rs k/\Ca a=!.lst vs/\IY a=!.lst vs:=λk a e=>by let#[vs,h1,h2]:=ha9 k a e;show#[vs,AN.keep^pM.keep^oE _ _ h1,h2.same^(oE.trans pM.same).trans AN.same,oE _ _ h1,pM.keep^oE _ _ h1]
  let Tk:=(oE.trans pM.same).trans AN.same;let AP:Apart H5 f l cm sn as:=by
   let inn:∀a∈as,∃vs,Ca a=!HO.lst vs/\IY a=!HO.lst vs:=λa h=>by let#[k,hk]:=ir.mp h;let#[vs,_,_,h1,h2]:=Nk k a hk;show#[vs,h1,h2]
   show#[s9.free^oE.free pM.1,s9.free^oE.free^pM.same.free AN.1,λa h=>(aco a h).1,aE (oE _ _ Ua) pM.1,aE (pM.keep^oE _ _ Ua) AN.1,aE (oE _ _ hl9) pM.1,aE (pM.keep^oE _ _ hl9) AN.1,aE pM.self AN.1,λh=>?_,λh=>?_,fa,la,nd];let#[vs,h1,_]:=inn cm h;rw[pM.1] at h1;cases h1;let#[vs,_,h1]:=inn sn h;rw[AN.1] at h1;cases h1
  let L0:Ef H5 H8 f l cm sn as ws ns [] (λk=>(qs.take i).filter^isLive rs k++if((k:Nat):Int)∈([]:List Int) then[t] else[]) Nj :=
   #[s9.trans Tk,t9.trans^sT Tk,Tk _ _ Ua,Tk _ _ hl9,AN.keep pM.self,AN.self,λk a e=>by
    let#[vs,h1,h2,_]:=Nk k a e;show#[vs,h1,by simpa using h2]]
  let D0:La rs t ns []:=by show#[λx hx=>?_,(λx h=>nomatch h),mT,λk r h1 h2=>.inr^(PP _).mpr #[k,r,(fK h1).1,rfl,h1,h2],(λk q r s s s h=>nomatch h),by simp;lia];let#[k,r,_,rfl,h1,h2]:=(PP x).mp hx;show#[k,rfl,.here h1 h2]
  clear pM AN oE Tk PP hnl ha9 Nk Ua hl9 s9 t9 RB acq hb9;show jV (λm U' H'=>E3 λ(cs ss:List Int)(x:Option V)=>A4 (U'=[!.ref p,!.ref rd,!.ref gv,!.ref ah,!.ref f,!.ref b,!.ref cm,!.ref sn,x]) (Ef H5 H8 f l cm sn as ws cs ss (λk=>(qs.take i).filter^isLive rs k++if((k:Nat):Int)∈ss then[t] else[]) H') (La rs t cs ss) (m=msr rs.length ss.length cs.length)) #[_,ns,[],_,rfl,L0,D0,rfl] ?_;clear L0 D0;rintro m U' YQ ⟨cs,ss,x,rfl,L,D,rfl⟩;let agl:=L.hc;lk;rcases List.eq_nil_or_concat cs with e|⟨Sc,y,e⟩
  .subst e;rw[if_neg ()];walk_at "nxd";show#[#[_,_,_,_,rfl],L.s5,L.t6,L.hf,L.hl,λk a e=>?_];let#[vs,h1,h2]:=L.ha k a e;show#[vs,h1,?_];rw[Ni hti^D.done k];show h2
  rw[List.concat_eq_append] at e;subst e;rw[if_pos^by simp];let#[ky,YR,lky]:=D.c1 y (by simp);let hss:=D.few;let hsh:=D.short hn;rw[aP,jJ] at hsh;lk;show s_pop agl (y:=.int y) (by simp) ?_;intro H14 Ub;let ed:(List.map V.int (Sc++[y])).dropLast=Sc.map V.int:=by simp
  rw[ed] at Ub;let L14:=L.af7 AP Ub;clear Ub agl L ed;let alO:=L14.hs;by_cases hy:y∈ss
  .have hv:(not ((dI (ss.map λk=>((.inl k:Key),V.bl true))^.inl y).isSome))=false:=by rw[Ad,decide_eq_true hy];rfl
   lk;rw[hv,if_neg ()];lk;show#[_,?_,Sc,ss,_,rfl,L14,D.skip hy,rfl];rw[aP,jJ];unfold msr;lia
  let hv:(not ((dI (ss.map λk=>((.inl k:Key),V.bl true))^.inl y).isSome))=true:=by rw[Ad,decide_eq_false hy];rfl
  let HI:(ss.map λk=>((.inl k:Key),V.bl true)).length<=2000:=by rw[au];lia
  let ey:=Ry hy;let We:=L14.hf;let nfs:=AP.fs;lk;rw[hv,if_pos rfl];lk;ext Uc IZ;rw[ey] at IZ;let L15:=L14.alG AP IZ;clear IZ L14 alO ey hv We nfs;let xM:ky<as.length:=by have:=lky.lt;lia
  let IV:as[ky]?=some as[ky]:=g7 xM;generalize as[ky]'xM=a at IV;let#[vs,Oy,Ty]:=L15.ha ky a IV;let hyk:Not (((ky:Nat):Int)∈ss):=by rw[<- YR];show hy
  rw[if_neg hyk,ck] at Ty;let Os:vs.length<=16:=by rw[Ty.length];show aZ (kq _ _) ?_;rw[bU];lia
  let alP:=L15.hc;let hca:cm≠a:=λz=>AP.ca (by rw[z];show ie IV);let agn:=L15.s5 _ _ acn;let haa:ah≠a:=aE acn^AP.a5 a^ie IV;show cZ (bJ.of L15.hf) (v:=¬a) (by rw[YR];show dN (by rw[bB,IV];rfl)) ?_;lk;ext H16 p16;let L16:Ef H5 H8 f l cm sn as ws Sc (ss++[y]) (λk=>(qs.take i).filter^isLive rs k++if((k:Nat):Int)∈ss++[y] then[t] else[]) H16:=by let x:=L15.alH AP (g':=λk=>(qs.take i).filter^isLive rs k++if((k:Nat):Int)∈ss++[y] then[t] else[]) IV Oy p16 ?_ λk hk s=>?_;show x;change cg Uc _ ((qs.take i).filter^isLive rs ky++if((ky:Nat):Int)∈ss++[y] then[t] else[]);rw[if_pos (by rw[<- YR];simp)];show dY Ty #[b,rfl,L15.t6 _ _ T7];let UV:Not (((k:Nat):Int)=y):=∅;erw[aR,aC,UV,or_false]
  clear p16 L15 Oy Ty alP agn;let YS:=L16.s5 _ _ acn;let YT:=L16.s5 _ _ alK;let YU:=alL.same L16.s5;let ago:=L16.t6 _ _ T7;let agp:ky<als.length:=by have:=lky.lt;lia
  let acu:als[ky]?=some als[ky]:=g7 agp;generalize als[ky]'agp=al at acu;let#[le,hle,aq3,RC]:=alJ.same L16.s5 ky al acu;show cZ (bJ.of YS) (v:=¬al) (by rw[YR];show dN (by rw[bB,acu];rfl)) ?_;lk;show iM (xs:=le.map V.int) (λj ys H'=>az H16 H'/\∃es:List Int,ys=es.map V.int/\es.length<=j/\∀z,z∈es↔∃(k:Nat)(r:Row),z=((k:Nat):Int)/\z∈le.take j/\rs[k]?=!r/\t∉bP r) #[az.refl _,[],rfl,aQ _,λz=>#[λh=>(nomatch h),λ⟨k,r,_,h,_⟩=>by simp at h]] ?_ ?_ ?_;rintro j ys H' _ ⟨s',_⟩;show bJ.of^s' _ _ hle
  .rintro j x ys H17 hx ⟨I0,es,rfl,hel,hes⟩;let hjl:j<(le.map V.int).length:=(fK hx).1;rw[au] at hjl;rw[bB] at hx;let#[z,hz,rfl]:=cL.mp hx;let#[k,r,hk,ez,hr,hw]:=(RC z).mp^ie hz;let#[ga,gus,hga,hgl,hgp]:=(YU.same I0).at hr;show#[cV (by rw[au];lia),?_];let agq:=I0 _ _ YT;let alS:=I0 _ _ ago;lk;show cZ (bJ.of agq) (v:=¬ga) (by rw[ez];show dN hga) ?_;lk;show QA alS (bJ.of hgl) hgp ?_;let split:∀y,(∃(k:Nat)(r:Row),y=((k:Nat):Int)/\y∈le.take (j+1)/\rs[k]?=!r/\t∉bP r)↔(∃(k:Nat)(r:Row),y=((k:Nat):Int)/\y∈le.take j/\rs[k]?=!r/\t∉bP r)\/(y=z/\t∉bP r):=λy=>by rw[b8,hz];erw[qk,aR,aC];constructor;rintro⟨k',r',h1,h2|h2,h3,h4⟩;show .inl #[k',r',h1,h2,h3,h4];let e:k'=k:=∅;subst e;rw[hr] at h3;cases h3;show .inr #[h2,h4];rintro(⟨k',r',h1,h2,h3,h4⟩|⟨h1,h2⟩);show#[k',r',h1,.inl h2,h3,h4];show#[k,r,by rw[h1,ez],.inr h1,hr,h2]
   by_cases hm:t∈bP r
   .rw[decide_eq_true hm];lk;show#[I0,es,rfl,∅,λy=>?_];rw[hes y,split y];erw[hm,not_true,and_false,or_false]
   .rw[decide_eq_false hm];lk;show#[I0,es++[z],by simp,by simp;lia,λy=>?_];rw[aR,hes y,aC,split y];erw[hm,not_false_eq_true,and_true]
  rintro ys H17 ⟨I0,es,rfl,hel,hes⟩ ex H18 Wf;rw[au] at hel hes;rw[cA] at hes;let L18:=(L16.same I0).new Wf;let hex:=Wf.self;let aq6:=L18.hc;let hcl:(Sc.map V.int).length<=8100000:=by rw[au];lia
  let aq7:(es.map V.int).length<=4000:=by rw[au];lia
  clear Wf I0 L16 YS YT YU ago hle;lk;ext H19 p19;rw[<- bf] at p19;let L19:=L18.af7 AP p19;show#[_,?_,Sc++es,ss++[y],_,rfl,L19,D.step hy (λz=>?_) ∅,rfl]
  .have hlt:ss.length<rs.length:=by let d2:=(D.step (es:=es) hy (λz=>?_) ∅).few;rw[aP] at d2;simp at d2;lia;rw[hes z];constructor;rintro⟨k,r,h1,h2,h3,h4⟩;let#[k',r',_,e1,e2,e3]:=(RC z).mp h2;let e:k'=k:=∅;subst e;rw[h3] at e2;cases e2;show#[k',ky,r,h1,YR,h3,e3,h4];rintro⟨k,j,r,h1,h2,h3,h4,h5⟩;let e:j=ky:=∅;subst e;show#[k,r,h1,(RC z).mpr #[k,r,(fK h3).1,h1,h3,h4],h3,h5]
   rw[aP,aP,aP,jJ];show acj hlt ∅
  .rw[hes z];constructor;rintro⟨k,r,h1,h2,h3,h4⟩;let#[k',r',_,e1,e2,e3]:=(RC z).mp h2;let e:k'=k:=∅;subst e;rw[h3] at e2;cases e2;show#[k',ky,r,h1,YR,h3,e3,h4];rintro⟨k,j,r,h1,h2,h3,h4,h5⟩;let e:j=ky:=∅;subst e;show#[k,r,h1,(RC z).mpr #[k,r,(fK h3).1,h1,h3,h4],h3,h5]
 .rintro U' H9 ⟨⟨x5,x6,x7,x8,rfl⟩,s9,t9,Ua,hl9,ha9⟩;lk;show q f as H9 (s5.trans s9) (s5.free f5) Ua ∅ nd (λa h=>s5.free (aco a h).1) fa λk a e=>?_;let#[vs,h1,h2]:=ha9 k a e;show#[vs,h1,?_];rw[agj.length,cA,V8 hok hup (λq=>?_) k] at h2;show h2;rw[hmem q];constructor;rintro⟨ps,Ty,hq⟩;let#[r,hr,rfl]:=aG.mp Ty;show#[r,hr,hq];rintro⟨r,hr,hq⟩;show#[_,aG.mpr #[r,hr,rfl],hq]
noncomputable def e9(rs:List bp)(j:B):Bool:=decide ((if j=0 then 1 else 2)<=cnt rs j)
noncomputable def gJ(rs:List bp):List Int:=((List.range bn).filter^e9 rs).map λ(j:B)=>(j:Z)
def qy(rs:List bp)(i:B):List Int:=((List.range i).filter^e9 rs).map λ(j:B)=>(j:Z)
def Dz(rs:List bp)(i:B):qy rs (i+1)=qy rs i++if e9 rs i=am then[(i:Z)] else[]:=by unfold qy;rw[ve,lB,bf];congr 1;by_cases h:e9 rs i=am;simp[h];simp[h]
def Ga(rs:List bp)(i:B):(qy rs i).length<=i:=by unfold qy;rw[au];show aZ (kq _ _) (by rw[oJ];show aq _)
inductive Wg(K_:aB)(vs:List V)(H:Hp)(Q:VK)(z:XK):Prop|mk(p:Addr)(us:List V)(rs:List Row)(z:vs=[¬p])(z:H p=!.lst us)(z:Rows H us rs)(z:(∀r∈rs,r.ok rs.length))(z:rs.length<=2000)(z:∀f H',az H H'->H f=none->H' f=!.lst^(gJ rs).map V.int->Q (¬f) H')
theorem RE:T.meets∩(4,Wg K_):=by
 exists T.meets,Rj,#[p,us,rs,rfl,hp,T0,hok,hl,q],"+<Ñ´!t*/xq *0¶2Uc0[c1iT'XW m!¥¦*1Sf0@@0",1,["place", "some"],bG.pz (x := "place"),(show(["place", "some"]:List Str).Nodup from ()),(show(["place", "some"]:List Str).Nodup from ()),zo (K:=K_) rfl;lk;show#[p,us,rs,Y,hp,T0,hok,hl,λf H1 as s1 hf NM j hL=>?_];lk;show Kc (λi zs τ H'=>A3 (az H1 H') (zs=(qy rs i).map V.int) (E2 λx y=>τ=[x,y])) ?_ ?_ ?_ ?_ ?_;show#[az.refl _,Y,_,_,Y];rintro i zs τ H' hi ⟨sm,rfl,x,y,rfl⟩;show#[bJ.of^sm _ _ hf,by rw[au];show Ga rs i];rw[au];lia
 .rintro i x p zs τ H' H2 hx ⟨sm,rfl,x0,y0,rfl⟩ n2;rw[bB] at hx;let#[a,ha,Y]:=cL.mp hx;let#[l,el,hll]:=hL i a ha;let e2:H2 a=!.lst^l.map V.int:=n2.keep^sm _ _ el;let e:=Dz rs i;let hml:(l.map V.int).length=l.length:=au _;let hm:e9 rs i=decide ((if i=0 then 1 else 2)<=d4):=by rw[hll];rfl
  lk
  .show#[by walk_at "same", ?_,_,_,Y];rw[e,if_pos (by rw[hm];show decide_eq_true (by split<;>lia))];simp
  .show#[by walk_at "same", ?_,_,_,Y];rw[e,if_neg (by rw[hm];show λz=>absurd (of_decide_eq_true z) (by split<;>lia))];simp
  .show#[by walk_at "same", ?_,_,_,Y];rw[e,if_pos (by rw[hm];show decide_eq_true (by split<;>lia))];simp
  .show#[by walk_at "same", ?_,_,_,Y];rw[e,if_neg (by rw[hm];show λz=>absurd (of_decide_eq_true z) (by split<;>lia))];simp
 .rintro zs τ H' ⟨sm,rfl,x,y,rfl⟩ g H2 n2;show q g H2 (by walk_at "same") (by walk_at "free") ?_;rw[n2.self,au,NM];rfl
noncomputable def Row.gv(r:bp)(s:Z):Int:=if r.g6&&(decide (r.sd=s)||decide (r.sd=2)) then r.qM.headD 0 else -1
noncomputable def Row.rd(r:bp)(s:Z):List Int:=if r.g6&&not (decide (r.sd=s)||decide (r.sd=2)) then[] else r.Nf
def Cc{bs:List Z}(hb:∀b∈bs,0<=b/\b<8){s b:Z}(hs:s=0\/s=1):(s,b)∈nH r bs↔iS r s=am/\b∈bs:=by unfold nH;rw[lF];constructor;rintro⟨s',_,h⟩;split at h;ext hsd;let#[b',hb1,e]:=aG.mp h;cases e;show#[hsd,(SN.j6 hb b).mp hb1];show nomatch h;rintro⟨h1,h2⟩;show#[s,by simpa using hs,?_];rw[if_pos h1];show aG.mpr #[b,(SN.j6 hb b).mpr h2,Y]
def mF{n:Z}(h:r.ok n){s b:Z}(hs:s=0\/s=1):(s,b)∈eZ r↔b∈r.rd s:=by unfold eZ Row.rd;rw[Cc (λb hb=>rE h b^Dw b hb) hs];unfold iS;cases r.g6<;>cases decide (r.sd=s)<;>cases decide (r.sd=2)<;>simp
def Ae(h:r.g6=am):r.qM.take 1=[r.qM.headD 0]:=by cases r<;>first|rfl|cases h
theorem jk{n:Z}(h:r.ok n){s b:Z}(hs:s=0\/s=1)(hb:0<=b):(s,b)∈bP r↔r.gv s=b:=by
 unfold bP Row.gv;by_cases hd:r.g6=am
 .rw[if_pos hd,Cc (λb hb=>rE h b^yJ _ _ hb) hs,Ae hd,aC];unfold iS;rw[hd];cases decide (r.sd=s)<;>cases decide (r.sd=2)<;>simp<;>first|lia|show#[λe=>e.symm,λe=>e.symm]
 .rw[if_neg hd];have:r.g6=false:=by simpa using hd
  rw[this];simp;lia
theorem agr{n:Z}(h:r.ok n)(s:Z):r.gv s<8:=by
 unfold Row.gv;split
 .rename_i e;let hd:r.g6=true:=by cases hr:r.g6<;>simp[hr] at e ⊢
  show(rE h (r.qM.headD 0)^yJ 1 _ (by rw[Ae hd];simp)).2
 .lia
def getD_at{l:List α}{x d:α}(h:l[k]?=!x):l.getD k d=x:=by rw[xV,h];rfl
section
variable {rs:List bp}{s:Z}{ms:List B}(hs:s=0\/s=1)(hok:∀r∈rs,r.ok bn)
include hs hok
end
open HM in
noncomputable def Row.ends(r:bp):gA->ci
 | none=>xF (.str r.key) [.str "mark", .str "out", .str "back"]
 | some p=>xF (.str r.key) [.str "look", .str "out", .str "back"] && decide (r.qM.headD 0=p.2)
open HM in
def LeftOf(r:bp):gA->gA->O
 | none,u=>r.ends bc=bo/\u=bc
 | some p,u=>r.ends^some p=bo/\((u=!p/\r.gv p.1≠p.2)\/(u=!(p.1,r.gv p.1)/\0<=r.gv p.1/\p.2∈r.rd p.1))
open HM in
def gA.lv(rs:List bp)(k:B):gA->O
 | none=>True
 | some p=>p∈lu rs k
open HM in
def Ld(rs:List bp)(r:bp)(t:gA)(z:bV):Prop:=z.1∈r.ways/\LeftOf r t z.2/\gA.lv rs z.1.toNat z.2
open HM in
def Ud:gA->O
 | none=>True
 | some p=>(p.1=0\/p.1=1)/\0<=p.2/\p.2<8
theorem LeftOf.ok{n:Z}(h:r.ok n){u:HM.gA}(ht:Ud t)(l:LeftOf r t u):Ud u/\u.isSome=t.isSome:=by
 cases t with
 | none=>rw[l.2];show#[trivial,Y]
 | some p =>
  rcases l.2 with⟨rfl,_⟩|⟨rfl,h0,_⟩;show#[ht,Y];show#[#[ht.1,h0,agr h _],Y]
theorem Le{α:Type}(f:α->Z):∀{xs ys:List α},xs.Pairwise (λp q=>f p<f q)->ys.Pairwise (λp q=>f p<f q)->(∀p,p∈xs↔p∈ys)->xs=ys
 | [],[],_,_,_=>rfl
 | [],y::ys,_,_,h=>absurd ((h y).mpr^by simp) (by simp)
 | x::xs,[],_,_,h=>absurd ((h x).mp^by simp) (by simp)
 | x::xs,y::ys,hx,hy,h=>by
  let h1:=vc.mp hx;let h2:=vc.mp hy;let e:x=y:=by rcases aJ.mp ((h x).mp^by simp) with e|e;show e;rcases aJ.mp ((h y).mpr^by simp) with e'|e';show e'.symm;have:=h1.1 _ e';have:=h2.1 _ e;lia
  subst e;rw[Le f h1.2 h2.2 λp=>?_];constructor
  .intro hp;rcases aJ.mp^(h p).mp^dz _ hp with e|e;rw[e] at hp;have:=h1.1 _ hp;lia;show e
  .intro hp;rcases aJ.mp^(h p).mpr^dz _ hp with e|e;rw[e] at hp;have:=h2.1 _ hp;lia;show e
noncomputable def fB(r:bp):HM.gA->List HM.gA
 | none=>if r.ends bc then[] else[none]
 | some p=>if r.ends^!p then[] else(if p∈bP r then[] else[!p])++if p∈eZ r then((bP r).filter λq=>decide (q.1=p.1)).map some else[]
theorem Nl(b:Z):(SN.gn [b]).length<=1:=by
 let h1:=SN.EU [b];let h2:∀n∈SN.gn [b],n=b:=λn hn=>by unfold SN.gn at hn;let#[k,hk,Y]:=aG.mp hn;have:=(eW.mp hk).2;simpa using this
 match h:SN.gn [b] with
 | []=>simp
 | [_]=>simp
 | x::y::l =>
  rw[h] at h1 h2;let e1:=h2 x (by simp);let e2:=h2 y (by simp);have:=(vc.mp h1).1 y (by simp);lia
theorem I9(r:bp){s:Z}(hs:s=0\/s=1):((bP r).filter λq=>decide (q.1=s)).length<=1:=by
 unfold bP;split
 .rename_i hd;let e:=Ae hd;rw[e];unfold nH;let l1:=Nl^r.qM.headD 0;generalize r.qM.headD 0=hd0 at l1 ⊢;let all:∀(s':Z),(((SN.gn [hd0]).map λb=>(s',b)).filter λq=>decide (q.1=s))=if s'=s then(SN.gn [hd0]).map λb=>(s',b) else[]:=λs'=>by split;ext e;rw[List.filter_eq_self];intro x hx;let#[b,_,Y]:=aG.mp hx;simpa using e;ext e;rw[List.filter_eq_nil_iff];intro x hx;let#[b,_,Y]:=aG.mp hx;simpa using e
  erw[oH,List.flatMap_nil,ck,lB,aP];rcases hs with rfl|rfl
  .have a0:=all 0;let a1:=all 1;cases h0:iS r 0<;>cases h1:iS r 1<;>erw[if_true,cJ,if_false,a0,a1,List.filter_nil,u0]<;>simp<;>lia
  .have a0:=all 0;let a1:=all 1;cases h0:iS r 0<;>cases h1:iS r 1<;>erw[if_true,cJ,if_false,a0,a1,List.filter_nil,u0]<;>simp<;>lia
 .simp
theorem Nm(r:bp):(bP r).length<=16:=by
 unfold bP;split
 .unfold nH;let h:=mE^r.qM.take 1;erw[oH,List.flatMap_nil,ck,aP];let e:∀s:Z,(if iS r s=am then(SN.gn^r.qM.take 1).map λb=>(s,b) else[]).length<=8:=λs=>by split<;>simp[h]
  let h0:=e 0;let h1:=e 1;lia
 .simp
theorem Af(r:bp)(ht:Ud t):(fB r t).length<=2:=by
 cases t with
 | none=>unfold fB;dsimp only;split<;>simp
 | some p =>
  unfold fB;dsimp only;have:=I9 r (s:=p.1) ht.1;split;simp
  .rw[aP];let h1:(if p∈bP r then([]:List HM.gA) else[!p]).length<=1:=by split<;>simp
   let h2:(if p∈eZ r then((bP r).filter λq=>decide (q.1=p.1)).map some else([]:List HM.gA)).length<=1:=by split;rw[au];show this;simp
   lia
def Nn{n:Z}(h:r.ok n){s b:Z}(hg:(s,b)∈bP r):0<=b:=by
 unfold bP at hg;split at hg
 .have:=F9 (λb hb=>rE h b^yJ _ _ hb) hg;let all:∀q∈dG,0<=q.2:=()
  show all _ this
 .show nomatch hg
def kJ{n:Z}(h:r.ok n)(ht:Ud t)(u:HM.gA):u∈fB r t↔LeftOf r t u:=by
 cases t with
 | none =>
  unfold fB LeftOf;dsimp only;cases r.ends none<;>simp
 | some p =>
  let#[hs,hb0,T7]:=ht;let#[s,b]:=p;dsimp only at hs hb0 T7;unfold fB LeftOf;dsimp only;cases r.ends^some (s,b) with
  | true=>simp
  | false =>
   erw[cJ,if_false,true_and];rw[aR];let e1:u∈(if(s,b)∈bP r then([]:List HM.gA) else[!(s,b)])↔(u=!(s,b)/\r.gv s≠b):=by let m_:=jk h hs hb0;split;ext e;simp[m_.mp e];ext e;simp[show Not (r.gv s=b) from λz=>e^m_.mpr z]
   let e2:u∈(if(s,b)∈eZ r then((bP r).filter λq=>decide (q.1=s)).map some else([]:List HM.gA))↔(u=!(s,r.gv s)/\0<=r.gv s/\b∈r.rd s):=by
    let mr:=mF h hs (b:=b);split
    .rename_i e;replace e:=mr.mp e;rw[aG];constructor
     .rintro⟨⟨s',b'⟩,hq,rfl⟩;let#[hg,hq2]:=eW.mp hq;let hq2:s'=s:=by simpa using hq2
      subst hq2;let Tb:0<=b':=Nn h hg;have:=(jk h hs Tb).mp hg;rw[this];show#[Y,Tb,e]
     .rintro⟨rfl,h0,_⟩;show#[(s,r.gv s),eW.mpr #[(jk h hs h0).mpr Y,by simp],Y]
    .rename_i e;simp[show Not (b∈r.rd s) from λz=>e^mr.mpr z]
   rw[e1,e2]
def lvB(rs:List bp)(k:B):HM.gA->ci
 | none=>true
 | some p=>decide (p∈lu rs k)
def Lf:lvB rs k t=am↔gA.lv rs k t:=by cases t<;>simp[lvB,gA.lv]
def Wh(h:xF (.str r.key) [.str "look", .str "out", .str "back"]=am):uU r.vals 1=!.int^r.qM.headD 0:=by cases r<;>first|rfl|(show absurd (show xF (.str "num") [.str "look", .str "out", .str "back"]=am from h) ())|(show absurd (show xF (.str "copy") [.str "look", .str "out", .str "back"]=am from h) ())|(show absurd (show xF (.str "op") [.str "look", .str "out", .str "back"]=am from h) ())|(show absurd (show xF (.str "mark") [.str "look", .str "out", .str "back"]=am from h) ())
abbrev mG(H:Hp):List V->List HM.gA->Prop:=Paired λx t=>fS H t x
theorem mG.same{ts:List HM.gA}(h:mG H vs ts)(e:az H H'):mG H' vs ts:=dX (λz z x=>fS.same x e) h
inductive RG(vs:List V)(H:Hp)(Q:VK)(z:XK):Prop|mk(a tk gv:Addr)(x:V)(r:Row)(n:Int)(t:HM.gA)(us ws:List V)(z:vs=[¬a,x,¬tk,¬gv])(z:H a=!.tup r.vals)(z:r.ok n)(z:fS H t x)(z:Ud t)(z:H tk=!.lst us)(z:cg H us^eZ r)(z:H gv=!.lst ws)(z:cg H ws (bP r))(z:∀(l:Addr)(xs:List V)(H':Hp),az H H'->H l=none->H' l=!.lst xs->mG H' xs^fB r t->Q (¬l) H')
set_option maxHeartbeats 40000000 in
theorem vR:T.jq∩(1,RG):=by
 exists T.jq,lZ,#[a,tk,gv,x,r,n,t,us,ws,rfl,ha,hok,hx,ht,KF,xH,hgv,hws,q],"-?T»1§+<Sa:0h'T.qK.c JRb-?Wna:0h'T.qL.c o|:0:1+<J-=4SkÚ13JR*1-?kÚ12+Bl4*]QE3i|V!0@V!1@0+<4",5,(by with_unfolding_all rfl),(by with_unfolding_all rfl),(by with_unfolding_all rfl),(by with_unfolding_all rfl),"spot",["thing"],[1],["thing"],C5 (K:=K_) rfl,C5 (K:=K_) rfl;let cm:=T.qK.q;let cs:=T.qL.q;lk;show Yy hx ?_;cases t with
 | none =>
  change C1 _ (.bl true) H;lk;split
  .rename_i he;lk;ext l H1 n1;show q l [] H1 n1.same n1.1 n1.self ?_;unfold fB;dsimp only;rw[if_pos^show r.ends none=true from he];show .nil
  .rename_i he;lk;ext l H1 n1;show q l _ H1 n1.same n1.1 n1.self ?_;unfold fB;dsimp only;rw[if_neg^show Not (r.ends none=true) from he];show .cons rfl .nil
 | some p =>
  change C1 _ (.bl false) H;let#[b,rfl,hb]:=hx;let hwl:=hws.length;let hgl:(bP r).length<=16:=Nm r;lk;let rest:r.ends^some p=false->nx0 [!.ref a,!.ref b,!.ref tk,!.ref gv,none] H:=by
   intro he;let em:fB r^some p=(if p∈bP r then[] else[!p])++if p∈eZ r then((bP r).filter λq=>decide (q.1=p.1)).map some else[]:=by unfold fB;dsimp only;rw[he];rfl
   show agt _ _ ?_;lk;show KA hb (bJ.of hgv) hws ?_;by_cases hg:p∈bP r
   case' pos =>
    rw[decide_eq_true hg];change C1 _ (.bl true) H;lk;ext f H1 n1;let bs:∃vs,H1 f=!.lst vs/\mG H1 vs (if p∈bP r then[] else[!p])/\vs.length<=1:=#[[],n1.self,by rw[if_pos hg];show .nil,aQ _]
   case' neg =>
    rw[decide_eq_false hg];change C1 _ (.bl false) H;lk;ext f H1 n1;let bs:∃vs,H1 f=!.lst vs/\mG H1 vs (if p∈bP r then[] else[!p])/\vs.length<=1:=#[[¬b],n1.self,by rw[if_neg hg];show .cons #[b,rfl,n1.keep hb] .nil,aq _]
   all_goals
    let s1:=n1.same;let ff:=n1.1;clear n1;let#[vs,hf1,Oy,Os]:=bs;let hb1:=s1 _ _ hb;let alU:=s1 _ _ KF;let alV:=s1 _ _ hgv;let alW:=cg.same s1 xH;let alX:=cg.same s1 hws;show KA hb1 (bJ.of alU) alW ?_;by_cases hr:p∈eZ r
    .rw[decide_eq_true hr];change C1 _ (.bl true) H1;lk;show iM (xs:=ws) (λk zs H'=>H'=H1/\mG H1 zs^(((bP r).take k).filter λq=>decide (q.1=p.1)).map some) #[rfl,.nil] ?_ ?_ ?_;rintro k zs H' _ ⟨rfl,_⟩;show bJ.of alV
     .rintro k y zs H' hy ⟨rfl,hz⟩;let#[t,acv,c,rfl,hc]:=bE alX hy;let hzl:=hz.length;rw[au] at hzl;let hle:=kq (λq:Int×Int=>decide (q.1=p.1))^(bP r).take k;rw[bU] at hle;show#[cV ∅,?_];let et:(bP r).take (k+1)=(bP r).take k++[t]:=by rw[b8,acv];rfl
      lk;ext e;show#[rfl,?_];rw[et,lB,bf,yC^by simpa using e];show dY hz #[c,rfl,hc];ext e;show#[rfl,?_];rw[et,lB,bf,yz^by simpa using e];simpa using hz
     .rintro zs H' ⟨rfl,hz⟩ l H2 n2;rw[hwl,cA] at hz;let hzl:=hz.length;rw[au] at hzl;let hle:=kq (λq:Int×Int=>decide (q.1=p.1))^bP r;let hf2:=n2.keep hf1;let N0:=n2.self;let s2:=n2.same;clear n2;lk;ext H3 p3;let s3:=p3.same (s1.trans s2) ff;let kp:∀{ys:List V}{ts:List HM.gA},mG H' ys ts->mG H3 ys ts:=λh=>dX (λv t x=>by
       cases t with
       | none=>show x
       | some u=>let#[c,e1,e2]:=x;show#[c,e1,p3.keep (by intro z;subst z;rw[hf1] at e2;cases e2)^s2 _ _ e2]) h
      show q f _ H3 s3 ff p3.self ?_;rw[em,if_pos hr];show kI (kp Oy)^kp hz
    .rw[decide_eq_false hr];change C1 _ (.bl false) H1;lk;show q f vs H1 s1 ff hf1 ?_;rw[em,if_neg hr,ck];show Oy
  clear agt;cases he:xF (.str r.key) [.str "look", .str "out", .str "back"];rw[if_neg (),if_neg ()];show Rv _^rest ?_;unfold Row.ends;dsimp only;rw[he];rfl
  .rw[if_pos rfl];lk;show sM (eB.of ha) (Wh he) ?_;lk
   .rename_i e l H1 n1;show q l [] H1 n1.same n1.1 n1.self ?_;have:r.ends^some p=true:=by unfold Row.ends;dsimp only;rw[he,decide_eq_true e];rfl
    unfold fB;dsimp only;rw[this];show .nil
   .rename_i e;show rest ?_;unfold Row.ends;dsimp only;rw[he,decide_eq_false e];rfl
def ly(rs:List bp)(r:bp)(t:HM.gA)(ks:List HM.bV):=ks.Pairwise (λx y=>HM.vM x<HM.vM y)/\∀z,z∈ks↔Ld rs r t z
inductive RH(vs:List V)(H:Hp)(Q:VK)(j:XK):Prop|mk(o th lv:Addr)(ws:List Int)(xs:List V)(ts:List HM.gA)(as:List Addr)(rs:List Row)(j:vs=[¬o,¬th,¬lv])(j:H o=!.lst^ws.map V.int)(j:ws.length<=2)(j:(∀q∈ws,0<=q/\q<rs.length))(j:H th=!.lst xs)(j:mG H xs ts)(j:ts.length<=2)(j:(∀t∈ts,Ud t))(j:(∀t∈ts,∀u∈ts,t.isSome=u.isSome))(j:H lv=!.lst^as.map V.ref)(j:as.length=rs.length)(j:B9 H as rs)(j:∀(l:Addr)(vs:List V)(ks:List HM.bV)(H':Hp),az H H'->H l=none->H' l=!.lst vs->cF H' vs ks->ks.Pairwise (λx y=>HM.vM x<HM.vM y)->(∀z,z∈ks↔z.1∈ws/\z.2∈ts/\gA.lv rs z.1.toNat z.2)->Q (¬l) H')
set_option maxHeartbeats 40000000 in
theorem Ja:T.ye∩(1,RH):=by
 exists T.ye,rC,#[o,th,lv,ws,xs,ts,as,rs,rfl,ho,hw2,hw,PX,hxs,Np,KF,NM,Ff,EZ,hL,q],"-=3J-KE0C4+Bl3*]QE1iWqT!0§¡k!0V!12>.2*0+<¸!*d!ÄÅ*3",5,"thing",["lively", "way"],[2,4],["way", "lively"],UY (K:=K_) rfl hr.units,Kz (K:=K_) rfl hr.units,oY (K:=K_) rfl,(by with_unfolding_all rfl),Iz hr.units rfl,MT hr.units rfl;lk;ext f H1 n1;let ff:=n1.1;let s1:=n1.same;let hf1:=n1.self;clear n1;show f_list (xs:=ws.map V.int) (λi U' H'=>A3 ((∃y,U'=[!.ref o,!.ref th,!.ref lv,!.ref f,y])) (az H H') (E2 λ(vs:List V)(ks:List HM.bV)=>A4 (H' f=!.lst vs) (cF H' vs ks) (ks.length<=2*i) (∀z,z∈ks↔z.1∈ws.take i/\z.2∈ts/\gA.lv rs z.1.toNat z.2))) ?_ ?_ ?_ ?_;show#[#[_,rfl],s1,[],[],hf1,.nil,aQ _,λz=>by simp];rintro i U' H' _ ⟨_,s',_⟩;show bJ.of^s' _ _ ho
 .rintro i x U' H2 hx ⟨⟨y0,rfl⟩,s2,vs,ks,hf2,hks,xM,hmem⟩;rw[bB] at hx;let#[q0,hqi,rfl]:=cL.mp hx;let#[hq0,hq1]:=hw q0^ie hqi;let GT:=(fK hqi).1;obtain⟨j,rfl⟩:∃j:Nat,q0=(j:Int):=#[q0.toNat,∅];obtain⟨a,ha⟩:∃a,as[j]?=some a:=#[_,g7 ∅];let#[us,xH,Ty]:=hL j a ha;let af6:=s2 _ _ xH;let RI:=Ty.same s2;let acy:=s2 _ _ PX;let acz:=hxs.same s2;let Wi:=s2 _ _ Ff;let Q5:=hxs.length;let hnf:∀{b:Addr}{o:HO},H b=!o->b≠f:=λe z=>by rw[z,ff] at e;cases e
  lk;show iM (xs:=xs) (λk zs H'=>az H2 H'/\∃G8:List HM.bV,cF H' zs G8/\G8.length<=k/\∀z,z∈G8↔z.1=(j:Int)/\z.2∈ts.take k/\gA.lv rs j z.2) #[az.refl _,[],.nil,aQ _,λz=>by simp] ?_ ?_ ?_;rintro k zs H' _ ⟨s',_⟩;show bJ.of^s' _ _ acy
  .rintro k y zs H3 hy ⟨s3,G8,Kk,alY,KB⟩;let#[t,acv,hyt]:=bE acz hy;let acA:=fS.same hyt s3;let hkb:=(fK hy).1;let hzl:=Kk.length;show#[cV ∅,?_];lk;show Yy acA ?_;let step:∀b:Bool,lvB rs j t=b->(b=true->∀(u:Addr)(H4:Hp),gU H3 u (.tup [.int (j:Int),y]) H4->az H2 H4/\∃G8:List HM.bV,cF H4 (zs++[¬u]) G8/\G8.length<=k+1/\∀z,z∈G8↔z.1=(j:Int)/\z.2∈ts.take (k+1)/\gA.lv rs j z.2)/\(b=false->az H2 H3/\∃G8:List HM.bV,cF H3 zs G8/\G8.length<=k+1/\∀z,z∈G8↔z.1=(j:Int)/\z.2∈ts.take (k+1)/\gA.lv rs j z.2):=by
    intro b hb;let et:ts.take (k+1)=ts.take k++[t]:=by rw[b8,acv];rfl
    show#[λe u H4 n4=>#[s3.trans n4.same,G8++[((j:Int),t)],dY (cF.same Kk n4.same) #[u,y,rfl,n4.self,fS.same acA n4.same],by simp;lia,λz=>?_],λe=>#[s3,G8,Kk,∅,λz=>?_]];rw[e] at hb;rw[aR,KB z,et,aR,aC,aC];constructor;rintro(⟨h1,h2,h3⟩|rfl);show#[h1,.inl h2,h3];show#[rfl,.inr rfl,Lf.mp hb];rintro⟨h1,h2|h2,h3⟩;show .inl #[h1,h2,h3];show .inr^Prod.ext h1 h2;rw[e] at hb;rw[KB z,et,aR,aC];constructor;rintro⟨h1,h2,h3⟩;show#[h1,.inl h2,h3];rintro⟨h1,h2|h2,h3⟩;show#[h1,h2,h3];rw[h2] at h3;rw[Lf.mpr h3] at hb;cases hb
   cases t with
   | none =>
    change C1 _ (.bl true) H3;lk;ext u H4 n4;show(step true rfl).1 rfl u H4 n4
   | some p =>
    change C1 _ (.bl false) H3;let#[b,rfl,hb]:=acA;let acB:=s3 _ _ Wi;let Nd:=s3 _ _ af6;lk;show cZ (bJ.of acB) (v:=¬a) (dN (by rw[bB,ha];rfl)) ?_;lk;show KA hb (bJ.of Nd) (cg.same s3 RI) ?_;by_cases hm:p∈lu rs j
    .rw[decide_eq_true hm];change C1 _ (.bl true) H3;lk;ext u H4 n4;show(step true^decide_eq_true hm).1 rfl u H4 n4
    .rw[decide_eq_false hm];change C1 _ (.bl false) H3;lk;show(step false^decide_eq_false hm).2 rfl
  .rintro zs H3 ⟨s3,G8,Kk,alY,KB⟩ l H4 n4;let Nq:=n4.keep^s3 _ _ hf2;let alZ:=cF.same (cF.same hks s3) n4.same;let hzl:=Kk.length;let Os:=hks.length;let YV:=n4.self;let hk4:=cF.same Kk n4.same;let Gb:=(s2.trans s3).trans n4.same;clear n4;lk;ext H5 p5;let s5:=p5.same Gb ff;let sp:∀(v:V)(k:HM.bV),bw H4 v k->bw H5 v k:=λv k ⟨a1,u,e1,e2,e3⟩=>#[a1,u,e1,p5.keep (by intro z;subst z;rw[Nq] at e2;cases e2) e2,by
    revert e3;generalize k.2=k2;intro e3;cases k2 with
    | none=>show e3
    | some p=>let#[b,e4,e5]:=e3;show#[b,e4,p5.keep (by intro z;subst z;rw[Nq] at e5;cases e5) e5]]
   show#[#[_,rfl],s5,_,ks++G8,p5.self,kI (dX sp alZ)^dX sp hk4,by simp;lia,λz=>?_];rw[aR,hmem z,KB z,b8,hqi,aR,Q5,cA];erw[qk,aC];constructor;rintro(⟨h1,h2,h3⟩|⟨h1,h2,h3⟩);show#[.inl h1,h2,h3];show#[.inr h1,h2,by rw[h1];show h3];rintro⟨h1|h1,h2,h3⟩;show .inl #[h1,h2,h3];show .inr #[h1,h2,by rw[h1] at h3;show h3]
 .rintro U' H2 ⟨⟨y0,rfl⟩,s2,vs,ks,hf2,hks,xM,hmem⟩;rw[au] at xM hmem;lk;show abZ (bJ.of hf2) hks ∅ ?_;intro p H3 zs n3 hz hzm;lk;let Rs:∀z∈zs,z.1.2∈ts:=λz Hk=>((hmem z.1).mp^(hzm _).mp^aG.mpr #[z,Hk,rfl]).2.1;show VL n3.self (λz Hk=>(hz z Hk).same n3.same) (λz Hk p hp=>?_) (λz Hk y hy=>NM _ (Rs z Hk) _^Rs y hy) ?_;have:=KF _^Rs z Hk;rw[hp] at this;let#[h1,h2,h3]:=this;lia
  .intro l H4 vs4 ks4 n4 h4 m4 u4;show q l vs4 ks4 H4 ((s2.trans n3.same).trans n4.same) ((s2.trans n3.same).free n4.1) n4.self (cF.same h4 n4.same) u4 λz=>by rw[m4,hzm,hmem,cA]
theorem yj(h:Rows H us rs)(hr:rs[p]?=!r):∃a,uU us (p:Z)=!.ref a/\H a=!.tup r.vals:=by let hp:p<rs.length:=(fK hr).1;let hl:=h.length;let#[y,hy,a,e,ha]:=bE h (i:=p) (x:=us[p]'∅) (by simp[show p<us.length by lia]);rw[hr] at hy;cases hy;show#[a,dN (by rw[<- e];simp[show p<us.length by lia]),ha]
def RJ(H0 H:Hp)(rs:List bp)(r:bp)(bs:List ae)(ts:List HM.gA):=bs.length=ts.length/\∀(i:B)(b:ae)(t:HM.gA),bs[i]?=!b->ts[i]?=!t->H0 b=bc/\∃vs ks,H b=!.lst vs/\cF H vs ks/\ly rs r t ks
inductive Nr(vs:List V)(H:Hp)(Q:VK)(z:XK):Prop|mk(a th lv:Addr)(r:Row)(xs:List V)(ts:List HM.gA)(as:List Addr)(rs:List Row)(z:vs=[¬a,¬th,¬lv])(z:H a=!.tup r.vals)(z:r.ok rs.length)(z:H th=!.lst xs)(z:mG H xs ts)(z:ts.length<=20)(z:(∀t∈ts,Ud t))(z:H lv=!.lst^as.map V.ref)(z:as.length=rs.length)(z:B9 H as rs)(z:∀(l:Addr)(bs:List Addr)(H':Hp),az H H'->H l=none->H' l=!.lst^bs.map V.ref->RJ H H' rs r bs ts->Q (¬l) H')
set_option maxHeartbeats 40000000 in
theorem Gd:T.uv∩(4,Nr):=by
 exists T.uv,kZ,#[a,th,lv,r,xs,ts,as,rs,rfl,ha,hok,PX,hxs,htl,hts,Ff,EZ,hL,q],"-=3/F5 *0-=4/F6 *0-=5/Aa *0+<]QE1O/Ja .5./vR .1.0.3*4*2",6,"thing",["row", "lively", "taken", "given", "onward"],[0,2,3,4,5],["taken", "row", "onward", "lively", "given"];lk;show#[a,r,rs.length,rfl,ha,hok,λtk us H1 s1 y KF xH=>?_];lk;show#[a,r,rs.length,rfl,s1 _ _ ha,hok,λgv ws H2 s2 y hgv hws=>?_];lk;show#[a,r,rfl,s2 _ _^s1 _ _ ha,λwy H3 s3 y hwy=>?_];let uW:=s2.trans s3;let Jb:=s1.trans uW;let al0:=uW _ _ KF;let Nd:=xH.same uW;let al1:=s3 _ _ hgv;let al2:=hws.same s3;let YW:=Jb _ _ ha;let al3:=Jb _ _ PX;let agv:=hxs.same Jb;let acB:=Jb _ _ Ff;let hL3:B9 H3 as rs:=λk a e=>let⟨vs,h1,h2⟩:=hL k a e;#[vs,Jb _ _ h1,h2.same Jb];clear s1 s2 s3 uW KF xH hgv hws ha PX hxs Ff hL;let Q5:=agv.length;lk;show iM (xs:=xs) (λi ys H'=>az H3 H'/\∃bs:List Addr,ys=bs.map V.ref/\RJ H H' rs r bs^ts.take i) #[az.refl _,[],rfl,by simp,λi b t h=>by simp at h] ?_ ?_ ?_;rintro i ys H' _ ⟨s',_⟩;show bJ.of^s' _ _ al3
 .rintro i x ys H4 hx ⟨s4,bs,rfl,hbl,Jc⟩;let#[t,hti,hxt]:=bE agv hx;let GT:=(fK hx).1;rw[bU] at hbl;show#[cV (by rw[au];lia),?_];let Kr:=hts t^ie hti;lk;show#[a,tk,gv,x,r,rs.length,t,us,ws,rfl,s4 _ _ YW,hok,fS.same hxt s4,Kr,s4 _ _ al0,Nd.same s4,s4 _ _ al1,al2.same s4,λth2 xs2 H5 s5 y acy acz=>?_];lk;let Lg:=s4.trans s5;show#[wy,th2,lv,r.ways,xs2,fB r t,as,rs,rfl,Lg _ _ hwy,Row.z6 r,λq hq=>?_,acy,acz,Af r Kr,λu hu=>((kJ hok Kr u).mp hu |>.ok hok Kr).1,λu hu v hv=>?_,Lg _ _ acB,EZ,λk a e=>let⟨vs,h1,h2⟩:=hL3 k a e;#[vs,Lg _ _ h1,h2.same Lg],λl vs6 ks6 H6 s6 fl hl6 hk6 u6 m6=>?_];show Row.nG hok q hq;rw[((kJ hok Kr u).mp hu |>.ok hok Kr).2,((kJ hok Kr v).mp hv |>.ok hok Kr).2]
  .have s36:=Lg.trans s6;show#[s36,bs++[l],by simp,by simp;lia,λj b t' hb ht'=>?_];rcases bR j bs.length with hlt|hge
   .rw[lC hlt] at hb;let hj:j<i:=∅;rw[qV ∅] at ht';let#[h0,vs,ks,h1,h2,h3]:=Jc j b t' hb (by rw[qV hj];show ht');show#[h0,vs,ks,(s5.trans s6) _ _ h1,cF.same h2^s5.trans s6,h3]
   .rw[ko hge] at hb;let hj:j=i:=by have:=(fK hb).1;simp at this;lia
    subst hj;rw[qV ∅,hti] at ht';cases ht';rw[show j-bs.length=0 by lia] at hb;cases hb;show#[(Jb.trans Lg).free fl,vs6,ks6,hl6,hk6,u6,λz=>?_];rw[m6 z,kJ hok Kr];rfl
 .rintro ys H4 ⟨s4,bs,rfl,Jc⟩ l H5 n5;rw[Q5,cA] at Jc;show q l bs H5 ((Jb.trans s4).trans n5.same) ((Jb.trans s4).free n5.1) n5.self #[Jc.1,λi b t hb ht=>?_];let#[h0,vs,ks,h1,h2,h3]:=Jc.2 i b t hb ht;show#[h0,vs,ks,n5.keep h1,cF.same h2 n5.same,h3]
def fE(H:Hp)(rs:List bp)(kvs:ia):=∀x∈kvs,∃(a:ae)(vs:List V)(ks:List HM.bV)(k:B)(r:bp),x.2.2=¬a/\H a=!.lst vs/\cF H vs ks/\x.1.1=(k:Z)/\rs[k]?=!r/\ly rs r x.1.2 ks
def cY(rs:List bp)(k:B):List HM.gA:=(lu rs k).map some++[none]
def cN(rs:List bp)(n:B):List HM.bV:=(List.range n).flatMap λk=>(cY rs k).map λt=>((k:Z),t)
def fS.Ge(h:fS H t v)(hf:H f=!.ext φ)(p:nU H f o H'):fS H' t v:=by
 cases t with
 | none=>show h
 | some p2=>let#[b,e1,e2]:=h;show#[b,e1,p.keep (by intro z;subst z;rw[hf] at e2;cases e2) e2]
theorem bw.Ge{k:HM.bV}(h:bw H v k)(hf:H f=!.ext φ)(p:nU H f o H'):bw H' v k:=by let#[a,u,e,h1,h2]:=h;show#[a,u,e,p.keep (by intro z;subst z;rw[hf] at h1;cases h1) h1,fS.Ge h2 hf p]
theorem fE.same(h:fE H rs kvs)(s:az H H'):fE H' rs kvs:=λx hx=>by let#[a,vs,ks,k,r,h1,h2,h3,h4]:=h x hx;show#[a,vs,ks,k,r,h1,s _ _ h2,cF.same h3 s,h4]
theorem fE.Ge(h:fE H rs kvs)(hf:H f=!.ext φ)(p:nU H f o H'):fE H' rs kvs:=λx hx=>by let#[a,vs,ks,k,r,h1,h2,h3,h4]:=h x hx;show#[a,vs,ks,k,r,h1,p.keep (by intro z;subst z;rw[hf] at h2;cases h2) h2,dX (λq q x=>bw.Ge x hf p) h3,h4]
def Jd(h:cg H vs ps):mG H vs^ps.map some:=by
 induction h with
 | nil=>show .nil
 | cons h _ ih=>show .cons h ih
theorem rF(rs:List bp)(k:B):(cY rs k).length<=17:=by have:=pK rs k;unfold cY;simp;lia
def Cd(rs:List bp)(k:B):∀t∈cY rs k,Ud t:=λt ht=>by
 unfold cY at ht;rcases aR.mp ht with ht|ht
 .let#[p,hp,Y]:=aG.mp ht;let all:∀t∈dG,(t.1=0\/t.1=1)/\0<=t.2/\t.2<8:=()
  show all p (eW.mp hp).1
 .rw[aC.mp ht];trivial
def rG(rs:List bp)(n:B):cN rs (n+1)=cN rs n++(cY rs n).map λt=>((n:Z),t):=by unfold cN;rw[ve,yD];simp
theorem uD(rs:List bp):∀n,(cN rs n).length<=17*n
 | 0=>by simp[cN]
 | n+1=>by have:=uD rs n;let h:=rF rs n;rw[rG,aP,au];lia
def Ce(rs:List bp)(k:B):(cY rs k).Nodup:=by unfold cY;rw[fN];show#[?_,by simp,λx hx y hy e=>?_];let h:(lu rs k).Nodup:=(List.Pairwise.filter _ (show dG.Pairwise (· ≠ ·) by decide));show oN.mpr (h.imp λh e=>h^Option.some.inj e);let#[p,_,Y]:=aG.mp hx;rw[aC.mp hy] at e;cases e
theorem RK(h:(cY rs i)[j]?=!t):((i:Z),t)∉cN rs i++((cY rs i).take j).map (λt=>((i:Z),t)):=by
 intro hm;rcases aR.mp hm with hm|hm
 .unfold cN at hm;let#[k,hk,hz]:=lF.mp hm;let#[u,_,e]:=aG.mp hz;let e1:(k:Z)=(i:Z):=congrArg Prod.fst e;have:=gD.mp hk;lia
 .let#[u,hu,e]:=aG.mp hm;let e2:u=t:=congrArg Prod.snd e;subst e2;let#[m,hm,e3]:=List.mem_take_iff_getElem.mp hu;let hj:=(fK h);let#[hjl,hje]:=hj;have:=(yF^Ce rs i).mp^e3.trans hje.symm;lia
inductive Nt(P_:Program)(w8:World)(vs:List V)(H:Hp)(Q:VK)(z:XK):Prop|mk(c:Addr)(us:List V)(rs:List Row)(z:vs=[¬c])(z:H c=!.lst us)(z:Rows H us rs)(z:(∀r∈rs,r.ok rs.length))(z:rs.length<=2000)(z:∀(d:Addr)(ep:Nat)(kvs:ia)(H':Hp),az H H'->H d=none->H' d=!.ext (eY P_ w8 d ep kvs)->cU H' kvs->kvs.map (·.1)=cN rs rs.length->fE H' rs kvs->Q (¬d) H')
set_option maxHeartbeats 40000000 in
theorem Je:T.yf∩(5,Nt P_ w8):=by
 exists T.yf,gG,#[c,us,rs,rfl,hc,T0,hok,hn,q],"-=1/Lb *0-=2Û-Kt*0¢2UC3[C4-=5~M13Rb+KÃ.5*/Gd .4.5*1¢2UC6[C7+Ü2>.3*67+<2",8;lk;show#[c,us,rs,rfl,hc,T0,hok,hn,λlv as H1 s1 s Ff EZ s s s hL=>?_];lk;ext d ep H2 n2;let fd:=(show H d=none from s1.free n2.1);let s2:=s1.trans n2.same;let PH:=n2.self;let Wi:=n2.keep Ff;let Yg:B9 H2 as rs:=λk a e=>let⟨vs,h1,h2⟩:=hL k a e;#[vs,n2.keep h1,h2.same n2.same];let fd1:=n2.1;let Tk:=n2.same;clear n2;let Ba:=T0.length;show C4 (xs:=us) (λi U' H'=>A3 ((E5 λy3 y4 y5 y6 y7=>U'=[!.ref c,!.ref lv,!.ref d,y3,y4,y5,y6,y7])) (az H1 H') (E2 λep kvs=>A4 (H' d=!.ext (eY P_ w8 d ep kvs)) (cU H' kvs) (kvs.map (·.1)=cN rs i)^fE H' rs kvs)) ?_ ?_ ?_ ?_;show#[#[_,_,_,_,_,rfl],Tk,ep,[],PH,(λx hx=>nomatch hx),rfl,λx hx=>nomatch hx];rintro i U' H' _ ⟨_,s',_⟩;show bJ.of^s' _ _^s1 _ _ hc
 .rintro i x p U' H3 H4 hx ⟨⟨y3,y4,y5,y6,y7,rfl⟩,s3,ep3,kvs,xr,hk3,em,hla⟩ n4;let#[r,Wa,a,rfl,ha]:=bE T0 hx;let nI:=hok r^ie Wa;let AO:az H1 H4:=s3.trans n4.same;let Oh:=n4.keep xr;let hk4:=hk3.same n4.same;let agw:=fE.same hla n4.same;lk;let GT:=(fK Wa).1;obtain⟨al,NM⟩:∃a,as[i]?=some a:=#[_,g7 ∅];let#[ws,hws,Ty]:=hL i al NM;let al8:=AO _ _ hws;let hwl:=Ty.length;let hll:=pK rs i;clear n4 xr hk3 hla;show cZ (bJ.of^AO _ _ Ff) (v:=¬al) (dN (by rw[bB,NM];rfl)) ?_;lk;ext mk H5 n5 tg H6 n6;let s46:=n5.same.trans n6.same;let Wj:=AO.trans s46;let Wk:=n6.self;let hts:mG H6 (ws++[.str "mark"])^cY rs i:=kI (Jd^Ty.same Wj)^.cons rfl .nil;let Wl:=s46 _ _ Oh;let hk6:=hk4.same s46;let al9:=fE.same agw s46;clear n5 n6 s46 Oh hk4 agw al8;show#[a,tg,lv,r,_,cY rs i,as,rs,rfl,Wj _ _^s1 _ _ ha,nI,Wk,hts,aZ (rF rs i) (),Cd rs i,Wj _ _ Ff,EZ,λk a e=>let⟨vs,h1,h2⟩:=hL k a e;#[vs,Wj _ _ h1,h2.same Wj],λl bs H7 s7 s hl Jc=>?_];lk;let Ue:=s7 _ _ Wl;let hk7:=hk6.same s7;let RL:=fE.same al9 s7;let ama:=hts.same s7;let amb:=s7 _ _ Wk;let hbl:=Jc.1;let htl:=hts.length;let xM:kvs.length<=17*rs.length:=by let h1:=congrArg List.length em;rw[au] at h1;let h2:=uD rs i;let h3:17*i<=17*rs.length:=Nat.mul_le_mul_left _ ∅;lia
  let hld:l≠d:=λz=>by rw[z,Ue] at hl;cases hl
  let htd:tg≠d:=λz=>by rw[z,Wl] at Wk;cases Wk
  let agy:=rF rs i;show afj (t1:=false) (t2:=false) (λj U' H'=>A3 ((E2 λy6 y7=>U'=[!.ref c,!.ref lv,!.ref d,!.int (i:Int),!.ref a,!.ref tg,y6,y7])) ((∀b o,b≠d->H7 b=!o->H' b=!o)) (E2 λep W1=>A4 (H' d=!.ext (eY P_ w8 d ep W1)) (cU H' W1) (W1.map (·.1)=cN rs i++((cY rs i).take j).map (λt=>((i:Int),t)))^fE H' rs W1)) ?_ ?_ ?_ ?_;show#[#[_,_,rfl],λb o s e=>e,ep3,kvs,Ue,hk7,by simpa using em,RL];rintro j U' H' _ ⟨_,k',_⟩;show#[bJ.of^k' _ _ htd amb,bJ.of^k' _ _ hld hl]
  .rintro j x y p U' H8 H9 hx hy ⟨⟨y6,y7,rfl⟩,k8,ep8,Wm,Ug,hk8,em8,acC⟩ n9;let#[t,htj,hxt]:=bE ama hx;rw[bB] at hy;let#[b,hbj,rfl]:=cL.mp hy;let#[h0b,bvs,bks,hb7,amc,amd]:=Jc.2 j b t hbj htj;lk;ext tu Ca Bb;let hbd:b≠d:=λz=>by rw[z,Wl] at h0b;cases h0b
   let nd7:∀{c:Addr}{zs:List V},H7 c=!.tup zs->c≠d:=λe z=>by rw[z,Ue] at e;cases e
   let t8:∀{v:V}{u:HM.gA},fS H7 u v->fS H8 u v:=λ{v u} h=>by
    cases u with
    | none=>show h
    | some q=>let#[c,e1,e2]:=h;show#[c,e1,k8 _ _ (nd7 e2) e2]
   let h8:∀(v:V)(k:HM.bV),bw H7 v k->bw H8 v k:=λv k ⟨c,u,e1,e2,e3⟩=>#[c,u,e1,k8 _ _ (nd7 e2) e2,t8 e3];let qE:=n9.same.trans Bb.same;let RM:=qE _ _ Ug;let hkey:bw Ca (¬tu) ((i:Int),t):=#[tu,x,rfl,Bb.self,fS.same (t8 hxt) qE];let aoX:Wm.length<=17*i+17:=by let h1:=congrArg List.length em8;rw[au,aP,au,bU] at h1;let h2:=uD rs i;lia
   show QY RM (hk8.same qE) hkey ∅ ?_;intro wo IY xw;let hnew:((i:Int),t)∉Wm.map (·.1):=by rw[em8];show RK htj
   rw[zH hnew] at xw;show#[#[_,_,rfl],λb o hb e=>xw.keep hb^qE _ _^k8 b o hb e,wo,_,xw.self,λz hz=>?_,?_,λz hz=>?_];rcases aR.mp hz with hz|hz;show bw.Ge ((hk8.same qE) z hz) RM xw;rw[aC.mp hz];show bw.Ge hkey RM xw;rw[bf,em8,b8,htj,bf,kh];rfl
   .rcases aR.mp hz with hz|hz;show fE.Ge (fE.same acC qE) RM xw z hz;rw[aC.mp hz];show#[b,bvs,bks,i,r,rfl,xw.keep hbd^qE _ _^k8 _ _ hbd hb7,dX (λv k h=>bw.Ge (bw.same (h8 v k h) qE) RM xw) amc,rfl,Wa,amd]
  .rintro U' H8 ⟨⟨y6,y7,rfl⟩,k8,ep8,Wm,Ug,hk8,em8,acC⟩;rw[au,hbl,htl,Nat.min_self,cA,<- rG] at em8;show Wn _ _ ?_;show#[#[_,_,_,_,_,rfl],λb o e=>k8 b o (λz=>by subst z;rw[fd1] at e;cases e)^s7 _ _^Wj _ _ e,ep8,Wm,Ug,hk8,em8,acC]
 .rintro U' H3 ⟨⟨y3,y4,y5,y6,y7,rfl⟩,s3,ep3,kvs,xr,hk3,em,hla⟩;rw[Ba] at em;lk;show q d ep3 kvs H3 (s1.trans s3) fd xr hk3 em hla
section
variable {α:Type} [DecidableEq α]
noncomputable def eO(L:α->List α)(ks:List α)(o:α):List α:=ks.flatMap λx=>((L x).filter λz=>decide (z=o)).map λq=>x
def YX(L:α->List α)(F:List (α×Z)):=∀x∈F,1<=x.2/\(∀o∈L x.1,∃m,(o,m)∈F/\m<x.2)/\(x.2=1/\L x.1=[]\/∃o∈L x.1,(o,x.2-1)∈F)
structure Cf (ks:List α) (L:α->List α) (F:List (α×Int)):Prop where
 nd:(F.map (·.1)).Nodup
 sub:∀x∈F,x.1∈ks
 fin:YX L F
 out:∀h∈ks,h∉F.map (·.1)->∃o∈L h,o∉F.map (·.1)
noncomputable def qN(L:α->List α)(G:List α)(h:α):Nat:=((L h).filter λo=>decide (o∉G)).length
structure jr (ks:List α) (L:α->List α) (F:List (α×Int)) (w8:α->Int) (R:List α):Prop where
 nd:(F.map (·.1)).Nodup
 sub:∀x∈F,x.1∈ks
 fin:YX L F
 cnt:∀h∈ks,w8 h=qN L (F.map (·.1)) h
 ndR:R.Nodup
 Uh:∀h,h∈R↔h∈ks/\h∉F.map (·.1)/\w8 h=0
def Nu{L:α->List α}{G:List α}{h:α}(e:qN L G h=0):∀o∈L h,o∈G:=λo ho=>CC λn=>by have:o∈(L h).filter λo=>decide (o∉G):=eW.mpr #[ho,decide_eq_true n];rw[qN] at e;rw[List.length_eq_zero_iff.mp e] at this;show nomatch this
def jr.done{ks:List α}{L:α->List α}{F:List (α×Z)}{w8:α->Z}(v:jr ks L F w8 []):Cf ks L F:=by
 show#[v.nd,v.sub,v.fin,λh hk hf=>CC λn=>?_];have:h∈([]:List α):=(v.Uh h).mpr #[hk,hf,by
  rw[v.cnt h hk];have:(L h).filter (λo=>decide (o∉F.map (·.1)))=[]:=List.filter_eq_nil_iff.mpr λo ho e=>n #[o,ho,of_decide_eq_true e];rw[qN,this];rfl]
 show nomatch this
def jr.start{ks:List α}{L:α->List α}(nd:ks.Nodup):jr ks L [] (λh=>((L h).length:Z)) (ks.filter λh=>decide (((L h).length:Z)=0)):=by
 show#[.nil,(λx hx=>nomatch hx),(λx hx=>nomatch hx),λh z=>?_,List.Pairwise.filter _ nd,λh=>?_]
 .have:(L h).filter (λo=>decide (o∉List.map (·.1) ([]:List (α×Z))))=L h:=List.filter_eq_self.mpr λo z=>by simp
  rw[qN,this]
 .rw[eW];simp
def RN{L:α->List α}{o x:α}:∀{ks:List α},ks.Nodup->x∈ks->(eO L ks o).count x=(L x).count o:=by
 intro ks;let each:∀y,(((L y).filter λz=>decide (z=o)).map λq=>y).count x=if y=x then(L x).count o else 0:=λy=>by generalize hn:((L y).filter λz=>decide (z=o))=l;let e:l.map (λq=>y)=List.replicate d4 y:=List.map_const';rw[e,List.count_replicate];by_cases hy:y=x;subst hy;erw[BEq.rfl,if_true];rw[<- hn,List.count_eq_length_filter];show congrArg List.length (List.filter_congr λz q=>by by_cases hz:z=o<;>simp[hz]);rw[if_neg hy,if_neg^by simpa using hy]
 induction ks with
 | nil=>intro _ h;show nomatch h
 | cons y ks ih =>
  intro nd hx;let nd2:=iG.mp nd;rw[eO,oH,List.count_append,each];by_cases hy:y=x
  .subst hy;rw[if_pos Y];let z:(ks.flatMap λx=>((L x).filter λz=>decide (z=o)).map λq=>x).count y=0:=by rw[List.count_eq_zero];intro hm;let#[a,ha,hb]:=lF.mp hm;let#[_,_,Y]:=aG.mp hb;show nd2.1 ha
   rw[z];rfl
  .rw[if_neg hy,Nat.zero_add];show ih nd2.2 ((aJ.mp hx).resolve_left λe=>hy e.symm)
def RO{L:α->List α}{ks:List α}{o x:α}:x∈eO L ks o↔x∈ks/\o∈L x:=by unfold eO;rw[lF];constructor;rintro⟨y,hy,hx⟩;let#[z,hz,Y]:=aG.mp hx;let#[h1,h2]:=eW.mp hz;rw[of_decide_eq_true h2] at h1;show#[hy,h1];rintro⟨hx,ho⟩;show#[x,hx,aG.mpr #[o,eW.mpr #[ho,by simp],Y]]
theorem Nv{L:α->List α}{G:List α}{h x:α}(hG:h∉G):qN L G x=qN L (G++[h]) x+(L x).count h:=by
 unfold qN;induction L x with
 | nil=>rfl
 | cons o l ih =>
  by_cases e:o=h;subst e;rw[yC^by simpa using hG,yz^by simp,List.count_cons_self,bW,ih];lia;rw[List.count_cons_of_ne e];by_cases g:o∈G;rw[yz^by simp[g],yz^by simp[g],ih];rw[yC^by simp[g],yC^by simp[g,e],bW,bW,ih];lia
structure uE (ks:List α) (L:α->List α) (G:List α) (E:List α) (j:Nat) (w8:α->Int) (R:List α):Prop where
 cnt:∀x∈ks,w8 x=qN L G x+((E.drop j).count x:Nat)
 ndR:R.Nodup
 Uh:∀x,x∈R↔x∈ks/\x∉G/\w8 x=0
theorem jr.pop{ks:List α}{L:α->List α}{F:List (α×Z)}{w8:α->Z}{R:List α}{h:α}(nd:ks.Nodup)(v:jr ks L F w8 (R++[h])):
  h∈ks/\h∉F.map (·.1)/\(∀o∈L h,o∈F.map (·.1))/\uE ks L (F.map (·.1)++[h]) (eO L ks h) 0 w8 R:=by let#[h1,h2,h3]:=(v.Uh h).mp (by simp);let h4:=v.cnt h h1;show#[h1,h2,Nu ∅,λx hx=>?_,(fN.mp v.ndR).1,λx=>?_];rw[v.cnt x hx,List.drop_zero,RN nd hx,Nv h2];simp;let hR:h∉R:=λz=>(fN.mp v.ndR).2.2 h z h (by simp) Y;have:=v.Uh x;rw[aR,aC] at this ⊢;constructor;intro hx;let#[a,b,c]:=this.mp^.inl hx;show#[a,λz=>z.elim b λe=>hR (e▸hx),c];rintro⟨a,b,c⟩;show(this.mpr #[a,λz=>b^.inl z,c]).resolve_right λe=>b^.inr e
noncomputable def Ag(w8:α->β)(x:α)(n:β):α->β:=λy=>if y=x then n else w8 y
theorem uE.next{ks:List α}{L:α->List α}{G:List α}{h:α}{w8:α->Z}{R:List α}{x:α}(v:uE ks L (G++[h]) (eO L ks h) j w8 R)
  (cl:∀y∈ks,y∈G->∀o∈L y,o∈G)(hG:h∉G)(hL:∀o∈L h,o∈G)(hx:(eO L ks h)[j]?=!x):
  1<=w8 x/\x∈ks/\(w8 x-1=0->uE ks L (G++[h]) (eO L ks h) (j+1) (Ag w8 x (w8 x-1)) (R++[x]))/\(w8 x-1≠0->uE ks L (G++[h]) (eO L ks h) (j+1) (Ag w8 x (w8 x-1)) R):=by
 let#[hk,hh]:=RO.mp^ie hx;let#[hj,ej]:=fK hx;let c:=v.cnt x hk;let ed:∀y,((eO L ks h).drop j).count y=((eO L ks h).drop (j+1)).count y+if x=y then 1 else 0:=λy=>by rw[CF hj,ej,List.count_cons];by_cases e:x=y<;>simp[e]
 let hw:1<=w8 x:=by have:=ed x;rw[if_pos Y] at this;lia
 let xG:x∉G++[h]:=λz=>by rcases aR.mp z with z|z;show hG^cl x hk z h hh;rw[aC.mp z] at hh;show hG^hL h hh
 let cnt:∀y∈ks,Ag w8 x (w8 x-1) y=qN L (G++[h]) y+(((eO L ks h).drop (j+1)).count y:B):=λy hy=>by let c:=v.cnt y hy;let e:=ed y;unfold Ag;by_cases hyx:y=x;subst hyx;rw[if_pos Y] at e ⊢;lia;rw[if_neg λz=>hyx z.symm] at e;rw[if_neg hyx];lia
 let xR:x∉R:=λz=>by have:=((v.Uh x).mp z).2.2;lia
 show#[hw,hk,λe0=>#[cnt,?_,λy=>?_],λe0=>#[cnt,v.ndR,λy=>?_]];rw[fN];show#[v.ndR,by simp,λa ha b hb e=>xR (by rw[aC.mp hb] at e;show e▸ha)];rw[aR,aC];unfold Ag;by_cases hyx:y=x;subst hyx;rw[if_pos Y];show#[λq=>#[hk,xG,e0],λq=>.inr Y];rw[if_neg hyx];show#[λz=>(v.Uh y).mp^z.resolve_right hyx,λz=>.inl^(v.Uh y).mpr z];unfold Ag;by_cases hyx:y=x;subst hyx;rw[if_pos Y];show#[λz=>absurd z xR,λz=>absurd z.2.2 e0];rw[if_neg hyx];show v.Uh y
theorem uE.end{ks:List α}{L:α->List α}{F:List (α×Z)}{h:α}{n m:Z}{w0 w8:α->Z}{R0 R E:List α}(v0:jr ks L F w0 R0)(v:uE ks L (F.map (·.1)++[h]) E E.length w8 R)(hk:h∈ks)(hF:h∉F.map (·.1))(hL:∀o∈L h,o∈F.map (·.1))(e:n=1+m)
  (h0:L h=[]->m=0)(h1:L h≠[]->(∃o∈L h,(o,m)∈F)/\∀o∈L h,∀k,(o,k)∈F->k<=m):jr ks L (F++[(h,n)]) w8 R:=by
 let em:(F++[(h,n)]).map (·.1)=F.map (·.1)++[h]:=by simp
 let up:∀o k,(o,k)∈F->(o,k)∈F++[(h,n)]:=λo k z=>jK _ z;show#[?_,λx hx=>?_,λx hx=>?_,λx hx=>?_,v.ndR,?_];rw[em,fN];show#[v0.nd,by simp,λa ha b hb z=>hF (by rw[aC.mp hb] at z;show z▸ha)];rcases aR.mp hx with z|z;show v0.sub x z;rw[aC.mp z];show hk
 .rcases aR.mp hx with z|z;let#[a,b,c]:=v0.fin x z;show#[a,λo ho=>let⟨k,c,d⟩:=b o ho;#[k,up _ _ c,d],c.imp_right λ⟨o,ho,c⟩=>#[o,ho,up _ _ c]];rw[aC.mp z];dsimp only;by_cases hn:L h=[];have:=h0 hn;rw[hn];show#[∅,(λo ho=>nomatch ho),.inl #[∅,Y]];let#[#[o,ho,hm],hle]:=h1 hn;have:=(v0.fin _ hm).1;dsimp only at this;show#[∅,λo ho=>?_,.inr #[o,ho,?_]];let#[#[_,k],hx,Y]:=aG.mp^hL o ho;have:=hle _ ho k hx;show#[k,up _ _ hx,∅];rw[show n-1=m by lia];show up _ _ hm
 .rw[em,v.cnt x hx,List.drop_length];simp
 .rw[em];show v.Uh
theorem uF{β:Type}:∀{F:List (α×β)}{o:α}{a b:β},(F.map (·.1)).Nodup->(o,a)∈F->(o,b)∈F->a=b
 | [],_,_,_,_,h,_=>nomatch h
 | x::F,o,a,b,nd,ha,hb=>by rw[cu,iG] at nd;rcases aJ.mp ha with e1|h1<;>rcases aJ.mp hb with e2|h2;show congrArg Prod.snd^e1.trans e2.symm;show absurd (by rw[<- e1];show aG.mpr #[_,h2,Y]) nd.1;show absurd (by rw[<- e2];show aG.mpr #[_,h1,Y]) nd.1;show uF nd.2 h1 h2
end
def Nx(H H':Hp):=∀b vs,H b=!.tup vs->H' b=!.tup vs
def Ah{xs:List V}(hf:H f=!.lst xs)(p:nU H f o H'):Nx H H':=λb vs h=>p.keep (by intro z;subst z;rw[hf] at h;cases h) h
def Gf(hf:H f=!.ext φ)(p:nU H f o H'):Nx H H':=λb vs h=>p.keep (by intro z;subst z;rw[hf] at h;cases h) h
def fS.tups(h:fS H t v)(s:Nx H H'):fS H' t v:=by
 cases t with
 | none=>show h
 | some p2=>let#[b,e1,e2]:=h;show#[b,e1,s _ _ e2]
theorem bw.tups{k:HM.bV}(h:bw H v k)(s:Nx H H'):bw H' v k:=by let#[a,u,e,h1,h2]:=h;show#[a,u,e,s _ _ h1,fS.tups h2 s]
theorem cF.tups(h:cF H vs ks)(s:Nx H H'):cF H' vs ks:=dX (λz z x=>bw.tups x s) h
theorem cU.tups(h:cU H kvs)(s:Nx H H'):cU H' kvs:=λx hx=>bw.tups (h x hx) s
def j3(H:Hp)(kvs:ia)(L:HM.bV->List HM.bV):=∀x∈kvs,∃a vs,x.2.2=V.ref a/\H a=!.lst vs/\cF H vs^L x.1
theorem j3.same{L:HM.bV->List HM.bV}(h:j3 H kvs L)(s:az H H'):j3 H' kvs L:=λx hx=>let⟨a,vs,h1,h2,h3⟩:=h x hx;#[a,vs,h1,s _ _ h2,cF.same h3 s]
theorem Ai:∀{kvs:ia}{x:HM.bV×ae×V},(kvs.map (·.1)).Nodup->x∈kvs->ou kvs x.1=!x.2.2
 | [],_,_,hx=>nomatch hx
 | y::kvs,x,nd,hx=>by
  rw[cu,iG] at nd;unfold ou;rw[kj];rcases aJ.mp hx with rfl|hx;simp
  .have ne:Not (y.1=x.1):=λe=>nd.1 (e▸oK hx);rw[decide_eq_false ne];show Ai nd.2 hx
def DA{k:HM.bV}(nd:(kvs.map (·.1)).Nodup)(hk:k∈kvs.map (·.1)):∃x∈kvs,x.1=k/\ou kvs k=!x.2.2:=by let#[x,hx,Y]:=aG.mp hk;show#[x,hx,Y,Ai nd hx]
def nJ(ks:List HM.bV)(L:HM.bV->List HM.bV):=ks.Nodup/\ks.length<=40000/\∀k∈ks,(L k).length<=4/\∀o∈L k,o∈ks
theorem Gg(L:HM.bV->List HM.bV)(o:HM.bV):∀ks:List HM.bV,(∀k∈ks,(L k).length<=4)->(eO L ks o).length<=4*ks.length
 | [],_=>by simp[eO]
 | k::ks,h=>by let h1:=Gg L o ks λk hk=>h k^dz _ hk;let h2:=h k (by simp);let h3:=kq (λz=>decide (z=o))^L k;unfold eO at h1 ⊢;rw[oH,aP,au,bW];lia
def Jg(H0 H:Hp)(kvs:ia)(L:HM.bV->List HM.bV):=(kvs.map (·.2.2)).Nodup/\∀x∈kvs,∃a vs,x.2.2=V.ref a/\H0 a=bc/\H a=!.lst vs/\cF H vs^L x.1
theorem Jg.same{L:HM.bV->List HM.bV}(h:Jg H0 H kvs L)(s:az H H'):Jg H0 H' kvs L:=#[h.1,λx hx=>let⟨a,vs,h1,h0,h2,h3⟩:=h.2 x hx;#[a,vs,h1,h0,s _ _ h2,cF.same h3 s]]
theorem Jh:∀{kvs:ia}{x y:HM.bV×ae×V},(kvs.map (·.2.2)).Nodup->x∈kvs->y∈kvs->x.2.2=y.2.2->x=y
 | [],_,_,_,hx,_,_=>nomatch hx
 | z::kvs,x,y,nd,hx,hy,e=>by rw[cu,iG] at nd;rcases aJ.mp hx with e1|h1<;>rcases aJ.mp hy with e2|h2;rw[e1,e2];show absurd (by rw[<- e1,e];show oK h2) nd.1;show absurd (by rw[<- e2,<- e];show oK h1) nd.1;show Jh nd.2 h1 h2 e
inductive RP(P_:Program)(w8:World)(vs:List V)(H:Hp)(Q:VK)(z:XK):Prop|mk(d:Addr)(ep:Nat)(kvs:ia)(L:HM.bV->List HM.bV)(z:vs=[¬d])(z:H d=!.ext (eY P_ w8 d ep kvs))(z:cU H kvs)(z:j3 H kvs L)(z:nJ (kvs.map (·.1)) L)(z:∀(d':Addr)(wo:Nat)(W1:ia)(H':Hp),az H H'->H d'=none->H' d'=!.ext (eY P_ w8 d' wo W1)->cU H' W1->W1.map (·.1)=kvs.map (·.1)->j3 H' W1^eO L^kvs.map (·.1)->Q (¬d') H')
set_option maxHeartbeats 40000000 in
theorem Ny:T.turned∩(1,RP P_ w8):=by
 exists T.turned,qp,#[d,ep,kvs,L,rfl,hd,hk,hl,#[nd,hn,hL],q],"-=1dÝÈÉ*º¼0O>.0*J-K¼0C2+KE¨02C3+BL¨13*2+<1",4,(λv v=>rfl),(λv v=>rfl);rw[au] at hn;lk;show Dh (kvs:=kvs) (λi ys H'=>az H H'/\∃ps:ia,ps.map (·.1)=(kvs.take i).map (·.1)/\tM H' ys ps/\Jg H H' ps λv=>[]) #[az.refl _,[],by simp,.nil,.nil,λx hx=>nomatch hx] ?_ ?_ ?_;rintro i ys H' _ ⟨s',_⟩;show s' _ _ hd
 .rintro i e ys H1 he ⟨s1,ps,YY,Ty,own⟩;let GT:=(fK he).1;let WF:=Ty.length;let h2:=congrArg List.length YY;rw[au,au,bU] at h2;show#[cV ∅,?_];lk;ext a H2 n2 t H3 n3;let s3:=n2.same.trans n3.same;show#[s1.trans s3,ps++[(e.1,e.2.1,¬a)],?_,dY (dX (λu p ⟨t,h1,h2,h3⟩=>#[t,h1,s3 _ _ h2,bw.same h3 s3]) Ty) #[t,rfl,n3.self,bw.same (hk e^ie he)^s1.trans s3],?_,λx hx=>?_];rw[bf,YY,b8,he,bf];rfl;rw[bf,fN];show#[own.1,by simp,λx hx y hy e=>?_];let#[z,hz,rfl]:=aG.mp hx;let#[b,vs,h1,_,h3,_]:=own.2 z hz;rw[List.map_singleton,aC] at hy;subst hy;rw[h1] at e;cases e;rw[n2.1] at h3;cases h3;rcases aR.mp hx with hx|hx;show(Jg.same own s3).2 x hx;rw[aC.mp hx];show#[a,[],rfl,s1.free n2.1,n3.keep n2.self,.nil]
 rintro ys H1 ⟨s1,ps,YY,Ty,own⟩ l H2 n2;rw[cA] at YY;lk;show KI (bJ.of n2.self) (dX (λu p ⟨t,h1,h2,h3⟩=>#[t,h1,n2.keep h2,bw.same h3 n2.same]) Ty) (by rw[YY];show nd) ?_;intro f MI H3 n3;let s23:=n2.same.trans n3.same;let s3:=s1.trans s23;let ff:H f=none:=(s1.trans n2.same).free n3.1;let hf:=n3.self;let ame:=own.same s23;let hpk:cU H3 ps:=λx hx=>by let#[i,hi,rfl]:=qW.mp hx;let#[t,_,_,h]:=zI Ty hi;rw[xV,g7 hi] at h;show bw.same h s23
 clear n2 n3 s23 own Ty s1;let ndp:(ps.map (·.1)).Nodup:=by rw[YY];show nd
 let e0:∀o,eO L [] o=[]:=λo=>rfl;lk;show VN (λi U' H'=>A5 ((E2 λy z=>U'=[!.ref d,!.ref f,y,z])) (az H H') (H' f=!.ext (eY P_ w8 f MI ps)) (cU H' ps)^Jg H H' ps^eO L^(kvs.map (·.1)).take i) ?_ ?_ ?_ ?_;show#[#[_,_,rfl],s3,hf,hpk,by rw[List.take_zero];show ame];rintro i U' H' _ ⟨_,s',_⟩;show s' _ _ hd
 .rintro i e U' H4 he ⟨⟨y,z,rfl⟩,s4,Nq,acE,Wo⟩;let hem:=ie he;let#[a,vs,ea,ha,Oy]:=hl e hem;let GT:=(fK he).1;let hLe:=hL e.1^oK hem;let Os:=Oy.length;lk;show tN (s4 _ _ hd) (hk.same s4) (bw.same (hk e hem) s4) ((Ai nd hem).trans^congrArg some ea) ?_;lk;show f_list (xs:=vs) (λj U' H'=>A5 ((∃z,U'=[!.ref d,!.ref f,!.ref e.2.1,z])) (az H H') (H' f=!.ext (eY P_ w8 f MI ps)) (cU H' ps)^Jg H H' ps (λo=>eO L ((kvs.map (·.1)).take i) o++(((L e.1).take j).filter λz=>decide (z=o)).map λv=>e.1)) ?_ ?_ ?_ ?_;show#[#[_,rfl],s4,Nq,acE,?_];simpa using Wo;rintro j U' H' _ ⟨_,s',_⟩;show bJ.of^s' _ _ ha
  .rintro j x U' H5 hx ⟨⟨z,rfl⟩,s5,IU,Wq,Ji⟩;let#[o,ho,hxo]:=bE Oy hx;let hom:=hLe.2 o^ie ho;let#[p,hp,rfl,uG]:=DA ndp (by rw[YY];show hom);let#[b,bs,eb,fb,hb,Jc]:=Ji.2 p hp;let amf:=bw.same hxo s5;let#[xa,xu,rfl,hxa,hxu]:=hxo;let hbl:bs.length<1000000:=by let h1:=Jc.length;let h2:=Gg L p.1 ((kvs.map (·.1)).take i) λk hk=>(hL k^yJ _ _ hk).1;let h3:=kq (λz=>decide (z=p.1))^(L e.1).take j;rw[aP,au] at h1;rw[bU,au] at h2;rw[bU] at h3;lia
   lk;show tN IU Wq amf (uG.trans^congrArg some eb) ?_;lk;ext H6 p6;let hfb:f≠b:=λz=>by rw[z,hb] at IU;cases IU
   let t6:=Ah hb p6;show#[#[_,rfl],p6.same s5 fb,p6.keep hfb IU,cU.tups Wq t6,Ji.1,λx hx=>?_];by_cases hxp:x=p
   .subst hxp;show#[b,_,eb,fb,p6.self,?_];dsimp only;rw[b8,ho,lB,bf,<- kh];let e1:List.filter (λz=>decide (z=x.1)) (!x.1).toList=[x.1]:=by simp
    rw[e1];show dY (cF.tups Jc t6)^bw.tups (bw.same (hk e hem) s5) t6
   .let#[c,cs,ec,fc,hc,hcs]:=Ji.2 x hx;show#[c,cs,ec,fc,p6.keep (λz=>hxp^Jh Ji.1 hx hp^by rw[ec,eb,z]) hc,?_];let UV:Not (p.1=x.1):=λz=>by let h1:=Ai ndp hx;rw[<- z,uG] at h1;show hxp^Jh Ji.1 hx hp (Option.some.inj h1).symm
    dsimp only;rw[b8,ho,lB,bf];let e1:List.filter (λz=>decide (z=x.1)) (!p.1).toList=[]:=by simp[UV]
    rw[e1,List.map_nil,ck];show cF.tups hcs t6
  .rintro U' H5 ⟨⟨z,rfl⟩,s5,IU,Wq,Ji⟩;show#[#[_,_,rfl],s5,IU,Wq,?_];let e1:(λo=>eO L ((kvs.map (·.1)).take i) o++(((L e.1).take vs.length).filter λz=>decide (z=o)).map λv=>e.1)=eO L^(kvs.map (·.1)).take (i+1):=by funext o;rw[Os,cA,b8,bB,he];unfold eO;rw[yD];simp
   rw[<- e1];show Ji
 .rintro U' H4 ⟨⟨y,z,rfl⟩,s4,Nq,acE,Wo⟩;rw[<- au (f:=λx:HM.bV×Addr×V=>x.1),cA] at Wo;lk;show q f MI ps H4 s4 ff Nq acE YY λx hx=>let⟨a,vs,h1,_,h2,h3⟩:=Wo.2 x hx;#[a,vs,h1,h2,h3]
def kK(kvs:ia)(F:List (HM.bV×Z)):=kvs.map (λx=>(x.1,x.2.2))=F.map λp=>(p.1,V.int p.2)
def kK.keys{F:List (HM.bV×Z)}(e:kK kvs F):kvs.map (·.1)=F.map (·.1):=by let h:=congrArg (List.map (·.1)) e;rw[gC,gC] at h;show h
theorem Gh:∀{kvs:ia}{F:List (HM.bV×Z)},kK kvs F->∀{o:HM.bV},o∈F.map (·.1)->∃n,(o,n)∈F/\ou kvs o=!(.int n)
 | [],[],_,_,ho=>nomatch ho
 | [],_::_,e,_,_=>nomatch e
 | _::_,[],e,_,_=>nomatch e
 | x::kvs,y::F,e,o,ho=>by unfold kK at e;rw[cu,cu] at e;let#[e1,e2]:=List.cons.inj e;let a1:x.1=y.1:=congrArg Prod.fst e1;let a2:x.2.2=V.int y.2:=congrArg Prod.snd e1;unfold ou;rw[kj];by_cases h:x.1=o;rw[decide_eq_true h];show#[y.2,by rw[<- h,a1];simp,congrArg some a2];rw[decide_eq_false h];rw[cu] at ho;let#[n,h1,h2]:=Gh (kvs:=kvs) (F:=F) e2 ((aJ.mp ho).resolve_left λz=>h^a1.trans z.symm);show#[n,dz _ h1,h2]
def RQ{F:List (HM.bV×Z)}{k:HM.bV}{n:Z}(e:kK kvs F)(hk:k∉F.map (·.1)):lX kvs k a^.int n=kvs++[(k,a,.int n)]/\kK (kvs++[(k,a,.int n)]) (F++[(k,n)]):=by show#[zH (by rw[e.keys];show hk),?_];unfold kK at e ⊢;rw[bf,bf,e];rfl
theorem uH:∀{kvs:ia}{k:HM.bV},k∈kvs.map (·.1)->(ou kvs k).isSome=am
 | [],_,h=>nomatch h
 | x::kvs,k,h=>by unfold ou;rw[kj];by_cases e:x.1=k;rw[decide_eq_true e];rfl;rw[decide_eq_false e];show uH (kvs:=kvs) ((aJ.mp h).resolve_left λz=>e z.symm)
def FnAt(kvs:ia)(ks:List HM.bV)(g:HM.bV->Z):=kvs.map (·.1)=ks/\∀x∈kvs,x.2.2=V.int^g x.1
def FnAt.val{g:HM.bV->Z}(h:FnAt kvs ks g){k:HM.bV}(hk:k∈ks):ou kvs k=!.int^g k:=by
 have:=uH (kvs:=kvs) (k:=k) (by rw[h.1];show hk);unfold ou at this ⊢;cases e:kvs.find? (λx=>decide (x.1=k)) with
 | none=>rw[e] at this;cases this
 | some x =>
  let h1:=h.2 x^List.mem_of_find?_eq_some e;let h2:=List.find?_some e;rw[of_decide_eq_true h2] at h1;show congrArg some h1
def FnAt.put{g:HM.bV->Z}(h:FnAt kvs ks g){k:HM.bV}{n:Z}(hk:k∈ks):FnAt (lX kvs k a^.int n) ks^Ag g k n:=by unfold lX;rw[if_pos^uH (by rw[h.1];show hk)];constructor;rw[gC,<- h.1];apply yH;intro x _;change(if x.1=k then(x.1,x.2.1,V.int n) else x).1=x.1;split<;>rfl;intro y hy;let#[x,hx,Y]:=aG.mp hy;unfold Ag;split;rfl;show h.2 x hx
def RS{k:HM.bV}(h:cU H kvs)(hk:k∈kvs.map (·.1)):cU H^lX kvs k a v:=by unfold lX;rw[if_pos^uH hk];intro y hy;let#[x,hx,Y]:=aG.mp hy;split;show h x hx;show h x hx
def Gi{F:α->β->O}{xs:List α}{ys:List β}(hp:Paired F xs ys):∀{i:B}{y:β},ys[i]?=!y->∃x,xs[i]?=!x/\F x y:=by
 induction hp with
 | nil=>show λ{i x} h=>by simp at h
 | cons a _ ih =>
  intro i x h;cases i with
  | zero=>cases h;show#[_,Y,a]
  | succ i=>show ih h
def Gj{F:α->β->O}{xs:List α}:∀{x:α}{ys:List β},Paired F (xs++[x]) ys->∃ys0 y,ys=ys0++[y]/\Paired F xs ys0/\F x y:=by
 induction xs with
 | nil =>
  intro x ys h;cases h with
  | cons h t=>cases t;show#[[],_,Y,.nil,h]
 | cons a xs ih =>
  intro x ys h;cases h with
  | cons h t =>
   let#[ys0,y,Y,h1,h2]:=ih t;show#[_::ys0,y,Y,.cons h h1,h2]
inductive Wr(P_:Program)(w8:World)(vs:List V)(H:Hp)(Q:VK)(z:XK):Prop|mk(d:Addr)(ep:Nat)(kvs:ia)(L:HM.bV->List HM.bV)(z:vs=[¬d])(z:H d=!.ext (eY P_ w8 d ep kvs))(z:cU H kvs)(z:j3 H kvs L)(z:nJ (kvs.map (·.1)) L)(z:∀(d':Addr)(wo:Nat)(W1:ia)(F:List (HM.bV×Int))(H':Hp),az H H'->H d'=none->H' d'=!.ext (eY P_ w8 d' wo W1)->cU H' W1->kK W1 F->Cf (kvs.map (·.1)) L F->Q (¬d') H')
set_option maxHeartbeats 40000000 in
theorem RT:T.ended∩(2,Wr P_ w8):=by
 exists T.ended,kE,#[d,ep,kvs,L,rfl,hd,hk,hl,hok,q],"-=1/Ny *0-=2dÝÈÉ*]Q¼0O>.0*m!¥¦*!-s3Q¼0if!0-=4Û-e£3-=5¤3-Ü45`@ì*]QE¨05O!+KE¨15C6-í26+?f¨26+BL3*6+<4",7,"harm",["later"],[0],["later"],zo (K:=K_) rfl,vN (P:=P_) (w:=w8) rfl rfl hr.units (pv 1) (pv 0) (λs s=>rfl),"harm",["waiting"],[2],["waiting"],vN (P:=P_) (w:=w8) rfl rfl hr.units (pv 1) (pv 0) (λs s=>rfl),(λs=>rfl),"other",["found"],[4],["found"],(λs s=>rfl),vN (P:=P_) (w:=w8) rfl rfl hr.units (pv 1) (pv 0) (λs s=>rfl),(λs s=>rfl),(λs s s=>rfl),(λs s=>rfl);lk;show#[d,ep,kvs,L,rfl,hd,hk,hl,hok,λe epE amh H1 s1 fe he hke eke hle=>?_];let#[nd,hn,hL]:=hok;generalize Ws:kvs.map (·.1)=ks at *;let hkn:kvs.length<=40000:=by rw[<- Ws,au] at hn;show hn
 let Qb:=s1 _ _ hd;let Md:=hk.same s1;let Op:=j3.same hl s1;clear hd hk hl;lk;show Dh (kvs:=kvs) (λi ys H'=>az H1 H'/\tM H' ys ((kvs.take i).map λx=>(x.1,x.2.1,V.int (L x.1).length))) #[az.refl _,by rw[List.take_zero];show .nil] ?_ ?_ ?_;rintro i ys H' _ ⟨s',_⟩;show s' _ _ Qb
 .rintro i x ys H2 hx ⟨s2,Ty⟩;let GT:=(fK hx).1;let WF:=Ty.length;rw[au,bU] at WF;let Wt:=ie hx;let#[a,vs,ea,ha,Oy]:=Op x Wt;let Os:=Oy.length;show#[cV ∅,?_];lk;show tN (s2 _ _ Qb) (Md.same s2) (bw.same (Md x Wt) s2) ((Ai (by rw[Ws];show nd) Wt).trans^congrArg some ea) ?_;let LE:=s2 _ _ ha;lk;ext t H3 n3;show#[s2.trans n3.same,?_];rw[b8,hx,bf];show dY (dX (λu p ⟨t,h1,h2,h3⟩=>#[t,h1,n3.keep h2,bw.same h3 n3.same]) Ty) #[t,rfl,by let z:=n3.self;rw[Os] at z;show z,bw.same (Md x Wt)^s2.trans n3.same]
 rintro ys H2 ⟨s2,Ty⟩ l H3 n3;rw[cA] at Ty;lk;show KI (bJ.of n3.self) (dX (λu p ⟨t,h1,h2,h3⟩=>#[t,h1,n3.keep h2,bw.same h3 n3.same]) Ty) (by rw[gC];show(show(kvs.map (·.1)).Nodup by rw[Ws];show nd)) ?_;intro wt epw H4 n4;let s4:az H1 H4:=(s2.trans n3.same).trans n4.same;let fwt:H1 wt=none:=(s2.trans n3.same).free n4.1;let hwt:=n4.self;let fn4:FnAt (kvs.map λx=>(x.1,x.2.1,V.int (L x.1).length)) ks λh=>((L h).length:Int):=#[by rw[gC];show Ws,λx hx=>by let#[y,_,rfl]:=aG.mp hx;rfl];let hwk:cU H4 (kvs.map λx=>(x.1,x.2.1,V.int (L x.1).length)):=λx hx=>by let#[y,hy,rfl]:=aG.mp hx;show bw.same (Md y hy) s4
 generalize (kvs.map λx=>(x.1,x.2.1,V.int (L x.1).length))=Lh at *;clear n3 n4 Ty s2;lk;show Dh (kvs:=kvs) (λi ys H'=>az H4 H'/\cF H' ys ((ks.take i).filter λh=>decide (((L h).length:Int)=0))) #[az.refl _,.nil] ?_ ?_ ?_;rintro i ys H' _ ⟨s',_⟩;show s' _ _^s4 _ _ Qb
 .rintro i x ys H5 hx ⟨s5,hys⟩;let GT:=(fK hx).1;let Id:=hys.length;let hfl:=kq (λh=>decide (((L h).length:Int)=0))^ks.take i;rw[bU] at hfl;let Wt:=ie hx;let hxk:x.1∈ks:=by rw[<- Ws];show oK Wt
  let hxi:ks[i]?=!x.1:=by rw[<- Ws,bB,hx];rfl
  let hkx:=bw.same (Md x Wt)^s4.trans s5;show#[cV ∅,?_];lk;show tN (s5 _ _ hwt) (hwk.same s5) hkx (fn4.val hxk) ?_;lk
  .rename_i h0;show#[s5,?_];rw[b8,hxi,lB];let e1:List.filter (λh=>decide (((L h).length:Int)=0)) (!x.1).toList=[x.1]:=by simpa using h0
   rw[e1];show dY hys hkx
  .rename_i h0;show#[s5,?_];rw[b8,hxi,lB];let e1:List.filter (λh=>decide (((L h).length:Int)=0)) (!x.1).toList=[]:=by simpa using h0
   rw[e1,ck];show hys
 rintro ys H5 ⟨s5,hys⟩ rd H6 n6;let ekl:kvs.length=ks.length:=by rw[<- Ws,au]
 rw[ekl,cA] at hys;let YN:=s5.trans n6.same;let s6:=s4.trans YN;let frd:H1 rd=none:=(s4.trans s5).free n6.1;let hrd:=n6.self;let agA:=cF.same hys n6.same;let Wu:=YN _ _ hwt;let agB:=hwk.same YN;let acF:rd≠wt:=λz=>by rw[z] at n6;have:=s5 _ _ hwt;rw[n6.1] at this;cases this
 clear n6 hys hwt hwk YN s5 s4;lk;ext f YZ H7 n7;let s7:=s6.trans n7.same;let ff:H1 f=none:=s6.free n7.1;let T9:=n7.self;let Wd:=n7.keep hrd;let amj:=n7.keep Wu;let acg:=cF.same agA n7.same;let amk:=agB.same n7.same;let agC:f≠wt:=λz=>by rw[z] at n7;rw[n7.1] at Wu;cases Wu
 let acG:f≠rd:=λz=>by rw[z] at n7;rw[n7.1] at hrd;cases hrd
 clear n7 hrd Wu agA agB s6;show jV (λm U' H'=>A3 ((E2 λy5 y6=>U'=[!.ref d,!.ref e,!.ref wt,!.ref rd,!.ref f,y5,y6])) (az H1 H') (E8 λvs R epw Lh g YZ G9 F=>A10 (H' rd=!.lst vs) (cF H' vs R) (H' wt=!.ext (eY P_ w8 wt epw Lh)) (cU H' Lh) (FnAt Lh ks g) (H' f=!.ext (eY P_ w8 f YZ G9)) (cU H' G9) (kK G9 F) (jr ks L F g R) (m=ks.length-F.length))) ?_ ?_;show#[_,#[_,_,rfl],s7,ys,_,epw,Lh,_,YZ,[],[],Wd,acg,amj,amk,fn4,T9,(λx hx=>nomatch hx),rfl,jr.start nd,rfl];rintro m U' H8 ⟨⟨y5,y6,rfl⟩,s8,vs,R,aml,amm,g,amn,G9,F,Wv,Gk,agD,agE,fn8,YO,acH,hF8,inv,rfl⟩;lk;let hFl:F.length<=ks.length:=by
  have:=oh inv.nd (ys:=ks) λx hx=>by let#[y,hy,rfl]:=aG.mp hx;show inv.sub y hy
  rw[au] at this;show this
 rcases List.eq_nil_or_concat vs with rfl|⟨vs0,v,rfl⟩
 .cases Gk;show Po rfl ?_;lk;show q f amn G9 F H8 (s1.trans s8) (s1.free ff) YO acH hF8 inv.done
 rw[List.concat_eq_append] at Wv Gk ⊢;let#[R0,h,rfl,agF,hvh]:=Gj Gk;let#[hhk,hhF,hhL,inn]:=inv.pop nd;show C2 (by simp) #[_,λs s x=>x,?_];lk;show s_pop Wv (y:=v) (by simp) ?_;rw[List.dropLast_concat];intro H9 p9;let t9:=Ah Wv p9;let s9:=p9.same s8 frd;let RB:=p9.self;let RU:=cF.tups agF t9;let Ww:=bw.tups hvh t9;let agH:=p9.keep (aM acF) agD;let agI:=cU.tups agE t9;let Ua:=p9.keep acG YO;let acI:=cU.tups acH t9;clear p9 t9 Wv Gk agF hvh agD agE YO acH s8;let#[x,Wt,rfl,Fs]:=DA (kvs:=kvs) (k:=h) (by rw[Ws];show nd) (by rw[Ws];show hhk);let#[a,as,ea,ha,has]:=Op x Wt;let hL4:=hL x.1 hhk;let EZ:=has.length;let hv:=Ww;let#[vb,vu,rfl,_,_]:=hv;lk;show tN (s9 _ _ Qb) (Md.same s9) Ww (Fs.trans^congrArg some ea) ?_;let ha9:=s9 _ _ ha;let agJ:=cF.same has s9;let hkF:=hF8.keys;lk;show iM (xs:=as) (λj ys H'=>az H9 H'/\∃ns:List Int,ys=ns.map V.int/\Paired (λn o=>(o,n)∈F) ns^(L x.1).take j) #[az.refl _,[],rfl,.nil] ?_ ?_ ?_;rintro j ys H' _ ⟨s',_⟩;show bJ.of^s' _ _ ha9
 .rintro j y ys Ca hy ⟨oE,ns,rfl,PP⟩;let#[o,ho,hyo]:=bE agJ hy;let hjl:=(fK hy).1;let hnl:=PP.length;rw[bU] at hnl;show#[cV (by rw[au];lia),?_];let#[n,hn1,hn2]:=Gh hF8^hhL o^ie ho;let amq:=bw.same hyo oE;let#[yb,yu,rfl,_,_]:=hyo;lk;show tN (oE _ _ Ua) (acI.same oE) amq hn2 ?_;show#[oE,ns++[n],by simp,?_];rw[b8,ho];show dY PP hn1
 rintro ys Ca ⟨oE,ns,rfl,PP⟩ ml IY pM;rw[EZ,cA] at PP;let DB:=oE.trans pM.same;let hml:=pM.self;let Cb:=s9.trans DB;let Y0:=DB _ _ RB;let Lc:=cF.same RU DB;let Li:=bw.same Ww DB;let Y3:=DB _ _ agH;let Y4:=agI.same DB;let acJ:=DB _ _ Ua;let RW:=acI.same DB;clear pM oE DB RB RU Ww agH agI Ua acI s9 ha9 agJ;lk;show ab2 (bJ.of hml) λm hm0 hm1=>?_;lk;let arB:G9.length=F.length:=by have:=congrArg List.length hkF;rw[au,au] at this;show this
 show QY acJ RW Li ∅ ?_;intro agL Nj Nz;let#[ep1,amr]:=RQ (a:=vb) (n:=1+m) hF8 hhF;rw[ep1] at Nz;let t12:=Gf acJ Nz;let Tk:=Nz.same Cb ff;let agM:=Nz.self;let Y5:cU Nj (G9++[(x.1,vb,.int (1+m))]):=λy hy=>by rcases aR.mp hy with hy|hy;show bw.tups (RW y hy) t12;rw[aC.mp hy];show bw.tups Li t12
 let Y6:=Nz.keep (aM acG) Y0;let Y7:=cF.tups Lc t12;let agN:=bw.tups Li t12;let Y8:=Nz.keep (aM agC) Y3;let Y9:=cU.tups Y4 t12;clear Nz t12 hml Y0 Lc Li Y3 Y4 acJ RW Cb;let#[pe,hpe,epx,uG]:=DA (kvs:=amh) (k:=x.1) (by rw[eke];show nd) (by rw[eke];show hhk);let#[b,bs,eb,hb,Jc]:=hle pe hpe;rw[epx] at Jc;lk;show tN (Tk _ _ he) (hke.same Tk) agN (uG.trans^congrArg some eb) ?_;let ams:=Tk _ _ hb;lk;let cl:∀y∈ks,y∈F.map (·.1)->∀o∈L y,o∈F.map (·.1):=λy s hy o ho=>by let#[z,hz,rfl]:=aG.mp hy;let#[n,hn,_]:=(inv.fin z hz).2.1 o ho;show aG.mpr #[_,hn,rfl]
 show f_list (xs:=bs) (λj U' H'=>A3 ((∃z,U'=[!.ref d,!.ref e,!.ref wt,!.ref rd,!.ref f,!.ref vb,z])) (az H1 H') (E5 λvs R epw Lh g=>A8 (H' rd=!.lst vs) (cF H' vs R) (H' wt=!.ext (eY P_ w8 wt epw Lh)) (cU H' Lh) (FnAt Lh ks g) (H' f=!.ext (eY P_ w8 f agL (G9++[(x.1,vb,.int (1+m))]))) (cU H' (G9++[(x.1,vb,.int (1+m))]))^uE ks L (F.map (·.1)++[x.1]) (eO L ks x.1) j g R)) ?_ ?_ ?_ ?_;show#[#[_,rfl],Tk,vs0,R0,aml,amm,g,Y6,Y7,Y8,Y9,fn8,agM,Y5,inn];rintro j U' H' _ ⟨_,s',_⟩;show bJ.of^s' _ _ hb
 .rintro j y U' YQ hy ⟨⟨z0,rfl⟩,uW,vs,R,Za,Lh,g,Lj,Ll,Cg,Ci,NB,Wx,Lm,NC⟩;clear Y6 Y7 Y8 Y9 agM Y5 Tk ams;let#[o,ho,hyo]:=bE Jc hy;let#[hw1,hok,hyes,hno]:=NC.next cl hhF hhL ho;let Ln:=bw.same hyo uW;let#[yb,yu,rfl,_,_]:=hyo;let hWl:Lh.length=ks.length:=by rw[<- NB.1,au]
  lk;show tN Cg Ci Ln (NB.val hok) ?_;lk;show aby ?_;show QY Cg Ci Ln ∅ ?_;intro Zb H14 Ub;let t14:=Gf Cg Ub;let AO:=Ub.same uW fwt;let RX:=Ub.self;let RY:=cU.tups (RS (a:=yb) (v:=.int (g o-1)) Ci (by rw[NB.1];show hok)) t14;let acK:FnAt (lX Lh o yb^.int (g o-1)) ks^Ag g o (g o-1):=NB.put hok;let Zc:=Ub.keep acF Lj;let RZ:=cF.tups Ll t14;let We:=Ub.keep agC Wx;let Zd:=cU.tups Lm t14;let Ze:=bw.tups Ln t14;clear Ub t14 uW Lj Ll Cg Ci Wx Lm Ln;let Os:=RZ.length;let hRl:=oh NC.ndR (ys:=ks) λy hy=>((NC.Uh y).mp hy).1;lk;show tN RX RY Ze (acK.val hok) ?_;let eg:Ag g o (g o-1) o=g o-1:=by unfold Ag;rw[if_pos rfl]
  rw[eg];lk;ext h0 Uc IZ;let t15:=Ah Zc IZ;show#[#[_,rfl],IZ.same AO frd,_,_,Zb,_,_,IZ.self,dY (cF.tups RZ t15)^bw.tups Ze t15,IZ.keep (aM acF) RX,cU.tups RY t15,acK,IZ.keep acG We,cU.tups Zd t15,hyes h0];ext h0;show#[#[_,rfl],AO,_,_,Zb,_,_,Zc,RZ,RX,RY,acK,We,Zd,hno h0]
 .rintro U' YQ ⟨⟨z0,rfl⟩,uW,vs,R,Za,Lh,g,Lj,Ll,Cg,Ci,NB,Wx,Lm,NC⟩;rw[Jc.length] at NC;show Wn _ _ ?_;let hlt:F.length+1<=ks.length:=by
   let h1:(F.map (·.1)++[x.1]).Nodup:=by rw[fN];show#[inv.nd,by simp,λa ha b hb z=>hhF (by rw[aC.mp hb] at z;show z▸ha)]
   have:=oh h1 (ys:=ks) λy hy=>by rcases aR.mp hy with hy|hy;let#[z,hz,rfl]:=aG.mp hy;show inv.sub z hz;rw[aC.mp hy];show hhk
   rw[aP,au] at this;show this
  show#[ks.length-(F++[(x.1,1+m)]).length,by rw[aP];simp;lia,#[_,_,rfl],uW,vs,R,Za,Lh,g,agL,_,_,Lj,Ll,Cg,Ci,NB,Wx,Lm,amr,uE.end inv NC hhk hhF hhL rfl (λe0=>?_) (λe0=>?_),rfl];rw[e0] at PP;cases PP;show hm0 rfl
  .have UV:ns≠[]:=λz=>by rw[z] at PP;cases hL0:L x.1 with
    | nil=>show e0 hL0
    | cons _ _=>rw[hL0] at PP;cases PP
   let#[h1,h2]:=hm1 UV;let#[i,hi,ei]:=qW.mp h1;let#[o,ho,hoF]:=bE PP (i:=i) (x:=m) (by rw[g7 hi,ei]);show#[#[o,ie ho,hoF],λo ho k hk=>?_];let#[j,hj,ej]:=qW.mp ho;let#[n,hn,hnF]:=Gi PP (i:=j) (y:=o) (by rw[g7 hj,ej]);rw[uF inv.nd hk hnF];show h2 n^ie hn
section
variable {α:Type} [DecidableEq α]
theorem uI{ks:List α}{L:α->List α}{F G:List (α×Z)}(hF:Cf ks L F)(hG:Cf ks L G):∀(n:B)(h:α)(m:Z),m.toNat<=n->(h,m)∈F->(h,m)∈G
 | 0,h,m,hn,hm=>by have:=(hF.fin _ hm).1;dsimp only at this;lia
 | n+1,h,m,hn,hm=>by
  let#[h1,h2,h3]:=hF.fin _ hm;dsimp only at h1 h2 h3;let ih:∀o∈L h,∀k,(o,k)∈F->(o,k)∈G:=λo ho k hk=>by let#[k',Qr,hlt]:=h2 o ho;let e:=uF hF.nd hk Qr;subst e;have:=(hF.fin _ hk).1;dsimp only at this;show uI hF hG n o k ∅ hk
  let Rs:h∈G.map (·.1):=CC λno=>by let#[o,ho,hno]:=hG.out h (hF.sub _ hm) no;let#[k,hk,_]:=h2 o ho;show hno^aG.mpr #[_,ih o ho k hk,Y]
  let#[#[_,m'],SB,Y]:=aG.mp Rs;let#[g1,g2,g3]:=hG.fin _ SB;dsimp only at g1 g2 g3 h1 h2 h3 ih hm;let e:m'=m:=by rcases h3 with⟨e1,e2⟩|⟨o,ho,ho1⟩;rcases g3 with⟨e3,_⟩|⟨o,ho,_⟩;lia;rw[e2] at ho;show nomatch ho;rcases g3 with⟨_,e3⟩|⟨o',KK,ho2⟩;rw[e3] at ho;show nomatch ho;let#[k,hk,hlt]:=g2 o ho;let a:=uF hG.nd hk^ih o ho _ ho1;let#[k',Qr,hlt']:=h2 o' KK;let b:=uF hG.nd (ih o' KK _ Qr) ho2;lia
  rw[<- e];show SB
def lP(ks:List α)(L:α->List α)(F:List (α×Z)):=Cf ks L F/\F.length=ks.length
theorem Wy{ks:List α}{L:α->List α}{F G:List (α×Z)}(nd:ks.Nodup)(hF:lP ks L F)(hG:Cf ks L G):G.length=ks.length:=by
 let h1:F.length<=G.length:=by
  have:=oh hF.1.nd (ys:=G.map (·.1)) λx hx=>by let#[#[h,m],hm,Y]:=aG.mp hx;show aG.mpr #[_,uI hF.1 hG _ h m (aq _) hm,Y]
  rwa [au,au] at this
 let h2:G.length<=ks.length:=by
  have:=oh hG.nd (ys:=ks) λx hx=>by let#[y,hy,Y]:=aG.mp hx;show hG.sub y hy
  rwa [au] at this
 have:=hF.2;lia
def qz(ks:List α)(L:α->List α)(m:Z):=∃F,lP ks L F/\(∃x∈F,x.2=m)/\∀x∈F,x.2<=m
theorem ND{ks:List α}{L:α->List α}{m n:Z}(h:qz ks L m)(g:qz ks L n):m=n:=by let#[F,hF,#[x,hx,Y],h1]:=h;let#[G,hG,#[y,hy,Y],g1]:=g;let a:=h1 _^uI hG.1 hF.1 _ y.1 y.2 (aq _) hy;let b:=g1 _^uI hF.1 hG.1 _ x.1 x.2 (aq _) hx;dsimp only at a b;lia
end
def Wz{ls:List HM.bV}(h:ly rs r t ks)(g:ly rs r t ls):ks=ls:=Le HM.vM h.1 g.1 λz=>(h.2 z).trans (g.2 z).symm
theorem R3{n:Z}(hok:r.ok n)(ht:Ud t)(h:ly rs r t ks):ks.length<=4:=by
 let nd:ks.Nodup:=h.1.imp λh e=>by rw[e] at h;lia
 let h1:ks.length<=(r.ways.flatMap λq=>(fB r t).map λu=>(q,u)).length:=oh nd λz hz=>by let#[a1,a2,_]:=(h.2 z).mp hz;show lF.mpr #[z.1,a1,aG.mpr #[z.2,(kJ hok ht _).mpr a2,Y]]
 let h2:=Row.z6 r;let h3:=Af r ht;let h4:∀ws:List Z,(ws.flatMap λq=>(fB r t).map λu=>(q,u)).length=ws.length*(fB r t).length:=λws=>by
  induction ws with
  | nil=>simp
  | cons w8 ws ih=>rw[oH,aP,ih,au,bW,Nat.succ_mul,Nat.add_comm]
 rw[h4] at h1;show aZ h1^Nat.mul_le_mul h2 h3
open Classical in
def gq(rs:List bp)(h:HM.bV):List HM.bV:=if e:∃(ks:List HM.bV)(r:bp),rs[h.1.toNat]?=!r/\ly rs r h.2 ks then e.choose else[]
def Lo{h:HM.bV}(hr:rs[h.1.toNat]?=!r)(hl:ly rs r h.2 ks):gq rs h=ks:=by let e:∃(ks:List HM.bV)(r:bp),rs[h.1.toNat]?=!r/\ly rs r h.2 ks:=#[ks,r,hr,hl];unfold gq;rw[dif_pos e];let#[r',TK,FS]:=e.choose_spec;rw[hr] at TK;cases TK;show Wz FS hl
def R4(h:fE H rs kvs):j3 H kvs^gq rs:=λx hx=>by let#[a,vs,ks,k,r,h1,h2,h3,h4,h5,h6]:=h x hx;show#[a,vs,h1,h2,?_];rw[Lo (r:=r) (by rw[h4];show h5) h6];show h3
def mH{z:HM.bV}:z∈cN rs n↔∃k:B,k<n/\z.1=(k:Z)/\z.2∈cY rs k:=by unfold cN;rw[lF];constructor;rintro⟨k,hk,hz⟩;let#[t,ht,Y]:=aG.mp hz;show#[k,gD.mp hk,Y,ht];rintro⟨k,hk,e,ht⟩;show#[k,gD.mpr hk,aG.mpr #[z.2,ht,Prod.ext e.symm rfl]]
def Cj:t∈cY rs k↔gA.lv rs k t:=by
 unfold cY;cases t with
 | none=>simp[gA.lv]
 | some p=>simp[gA.lv]
theorem Gm(rs:List bp):∀n,(cN rs n).Nodup
 | 0=>.nil
 | n+1=>by rw[rG,fN];show#[Gm rs n,oN.mpr ((Ce rs n).imp λh e=>h^congrArg Prod.snd e),λx hx y hy e=>?_];let#[k,hk,e1,_]:=mH.mp hx;let#[t,_,Y]:=aG.mp hy;rw[e] at e1;let e1:(n:Z)=(k:Z):=e1;lia
theorem R5(hok:∀r∈rs,r.ok bn)(hn:bn<=2000)(em:kvs.map (·.1)=cN rs bn)(h:fE H rs kvs):
  nJ (cN rs bn)^gq rs/\∀k r t,rs[k]?=!r->t∈cY rs k->ly rs r t^gq rs ((k:Z),t):=by
 let each:∀z∈cN rs bn,∃(k:B)(r:bp),z.1=(k:Z)/\rs[k]?=!r/\ly rs r z.2^gq rs z/\Ud z.2:=λz hz=>by rw[<- em] at hz;let#[x,hx,Y]:=aG.mp hz;let#[a,vs,ks,k,r,h1,h2,h3,h4,h5,h6]:=h x hx;let#[k',_,e',ht]:=mH.mp (by rw[<- em];show hz);show#[k,r,h4,h5,?_,Cd rs k' _ ht];rw[Lo (r:=r) (by rw[h4];show h5) h6];show h6
 show#[#[Gm rs _,aZ (uD rs _) ∅,λz hz=>?_],λk r t hr ht=>?_];let#[k,r,e,hr,hl,Kr]:=each z hz;let nI:=hok r^ie hr;show#[R3 nI Kr hl,λo ho=>?_];let#[a1,a2,a3]:=(hl.2 o).mp ho;let#[b1,b2]:=Row.nG nI o.1 a1;show mH.mpr #[o.1.toNat,∅,∅,Cj.mpr a3];let hk:=(fK hr).1;let#[k',r',e,TK,hl,_]:=each ((k:Z),t)^mH.mpr #[k,hk,Y,ht];let e:(k:Z)=(k':Z):=e;have:k=k':=∅;subst this;rw[hr] at TK;cases TK;show hl
inductive NF(P_:Program)(w8:World)(vs:List V)(H:Hp)(Q:VK)(z:XK):Prop|mk(d:Addr)(ep:Nat)(kvs:ia)(L:HM.bV->List HM.bV)(z:vs=[¬d])(z:H d=!.ext (eY P_ w8 d ep kvs))(z:cU H kvs)(z:j3 H kvs L)(z:nJ (kvs.map (·.1)) L)(z:(∀H',az H H'->(∀F,Not (lP (kvs.map (·.1)) L F))->Q .cH H'))(z:∀(d':Addr)(wo:Nat)(W1:ia)(F:List (HM.bV×Int))(H':Hp),az H H'->H d'=none->H' d'=!.ext (eY P_ w8 d' wo W1)->cU H' W1->kK W1 F->lP (kvs.map (·.1)) L F->Q (¬d') H')
set_option maxHeartbeats 40000000 in
theorem Jj:T.yg∩(3,NF P_ w8):=by
 exists T.yg,zR,#[d,ep,kvs,L,rfl,hd,hk,hl,hok,q0,q],"-=1/RT *0+<S|mÞ¥¦*1mÞ¥¦*01©",2;lk;show#[d,ep,kvs,L,rfl,hd,hk,hl,hok,λf YZ G9 F H1 s1 ff hf Oi hF agP=>?_];let Qb:=s1 _ _ hd;let hkF:G9.length=F.length:=by have:=congrArg List.length hF.keys;rw[au,au] at this;show this
 lk;ext e;show q f YZ G9 F H1 s1 ff hf Oi hF #[agP,by rw[au];lia];ext e;show q0 H1 s1 λG hG=>e ?_;have:=Wy hok.1 hG agP;rw[au] at this;lia
inductive R6(P_:Program)(w8:World)(vs:List V)(H:Hp)(Q:VK)(z:XK):Prop|mk(c:Addr)(us:List V)(rs:List Row)(z:vs=[¬c])(z:H c=!.lst us)(z:Rows H us rs)(z:(∀r∈rs,r.ok rs.length))(z:rs.length<=2000)(z:(nJ (cN rs rs.length)^gq rs->(∀k r t,rs[k]?=!r->t∈cY rs k->ly rs r t^gq rs ((k:Int),t))->(∀H',az H H'->(∀F,Not (lP (cN rs rs.length) (gq rs) F))->Q .cH H')/\∀(d':Addr)(wo:Nat)(W1:ia)(F:List (HM.bV×Int))(H':Hp),az H H'->H d'=none->H' d'=!.ext (eY P_ w8 d' wo W1)->cU H' W1->kK W1 F->lP (cN rs rs.length) (gq rs) F->Q (¬d') H'))
set_option maxHeartbeats 40000000 in
def NG:T.Dv∩(6,R6 P_ w8):=by
 exists T.Dv,M4,#[c,us,rs,rfl,hc,T0,hok,hn,q],"+</Jj */Je *0",1;lk;show#[c,us,rs,rfl,hc,T0,hok,hn,λd ep kvs H1 s1 fd hd hk em hla=>?_];let#[Ui,Bc]:=R5 hok hn em hla;let#[q0,q1]:=q Ui Bc;lk;show#[d,ep,kvs,gq rs,rfl,hd,hk,R4 hla,by rw[em];show Ui,λH2 s2 no=>?_,λf YZ G9 F H2 s2 ff hf Oi hF e=>?_]
 .lk;rw[em] at no;show q0 H2 (s1.trans s2) no
 .lk;rw[em] at e;show q1 f YZ G9 F H2 (s1.trans s2) (s1.free ff) hf Oi hF e
inductive WA(vs:List V)(H:Hp)(Q:VK)(z:XK):Prop|mk(c:Addr)(us:List V)(rs:List Row)(z:vs=[¬c])(z:H c=!.lst us)(z:Rows H us rs)(z:(∀r∈rs,r.ok rs.length))(z:rs.length<=2000)(z:rs≠[])(z:(nJ (cN rs rs.length)^gq rs->(∀k r t,rs[k]?=!r->t∈cY rs k->ly rs r t^gq rs ((k:Int),t))->(∀H',az H H'->(∀F,Not (lP (cN rs rs.length) (gq rs) F))->Q .cH H')/\∀(m:Int)(H':Hp),az H H'->qz (cN rs rs.length) (gq rs) m->Q (.int m) H'))
set_option maxHeartbeats 40000000 in
def Gn:T.delay∩(7,WA):=by
 exists T.delay,FL,#[c,us,rs,rfl,hc,T0,hok,hn,UV,q],"-=1/NG *0+<ST'J8 1©©m!'T.YJ 'BT.Yl *î1",2,MW rfl;lk;show#[c,us,rs,rfl,hc,T0,hok,hn,λUi Bc=>#[λH1 s1 no=>?_,λf YZ G9 F H1 s1 ff hf Oi hF e=>?_]]
 .lk;show(q Ui Bc).1 H1 s1 no
 .lk;ext v H2 n2;let ev:G9.map (·.2.2)=(F.map (·.2)).map V.int:=by have:=congrArg (List.map (·.2)) hF;rw[gC,gC] at this;rw[gC];show this
  let amt:F.map (·.2)≠[]:=λz=>by
   let h0:F.length=0:=by rw[<- au (f:=(·.2)),z];rfl
   let h1:=e.2;cases rs with
   | nil=>show UV rfl
   | cons r rs =>
    have:((0:Int),none)∈cN (r::rs) (r::rs).length:=mH.mpr #[0,by simp,rfl,Cj.mpr trivial];rw[h0] at h1;rw[List.length_eq_zero_iff.mp h1.symm] at this;show nomatch this
  show ab1 n2.self (n2.keep hf) ev amt λm hm hle=>?_;lk;let#[x,hx,rfl]:=aG.mp hm;show(q Ui Bc).2 _ H2 (s1.trans n2.same) #[F,e,#[x,hx,rfl],λy hy=>hle _^oK hy]
section
variable {α:Type} [DecidableEq α]
noncomputable def Hf:List Z->Z
 | []=>0
 | x::l=>if x<=Hf l then Hf l else x
theorem Jk:∀{l:List Z}{x:Z},x∈l->x<=Hf l
 | y::l,x,h=>by
  unfold Hf;rcases aJ.mp h with rfl|h;split<;>lia
  .have:=Jk h;split<;>lia
theorem DE:∀l:List Z,(Hf l=0\/Hf l∈l)/\0<=Hf l\/(Hf l∈l)
 | []=>.inl #[.inl Y,Int.le_refl _]
 | y::l=>by unfold Hf;split;rcases DE l with⟨h|h,h0⟩|h;show .inl #[.inl h,h0];show .inr^dz _ h;show .inr^dz _ h;show .inr^aJ.mpr^.inl Y
noncomputable def Aj(L:α->List α):B->α->Z
 | 0,_=>1
 | n+1,h=>1+Hf^(L h).map^Aj L n
theorem Ck{ks:List α}{L:α->List α}{rk:α->B}(hL:∀k∈ks,∀o∈L k,o∈ks)(hr:∀k∈ks,∀o∈L k,rk o<rk k):∀(n m:B)(h:α),h∈ks->rk h<n->rk h<m->Aj L n h=Aj L m h
 | 0,_,_,_,h1,_=>absurd h1^fz _
 | _,0,_,_,_,h2=>absurd h2^fz _
 | n+1,m+1,h,hk,h1,h2=>by unfold Aj;congr 2;show yH λo ho=>Ck hL hr n m o (hL h hk o ho) ?_ ?_;have:=hr h hk o ho;lia;have:=hr h hk o ho;lia
theorem acL{ks:List α}{L:α->List α}{rk:α->B}(nd:ks.Nodup)(hL:∀k∈ks,∀o∈L k,o∈ks)(hr:∀k∈ks,∀o∈L k,rk o<rk k):∃F,lP ks L F:=by
 letI G:α->Int:=λh=>Aj L (rk h+1) h
 let hG:∀h∈ks,G h=1+Hf^(L h).map G:=λh hk=>by change 1+Hf^(L h).map^Aj L^rk h=_;congr 2;show yH λo ho=>Ck hL hr _ _ o (hL h hk o ho) (hr h hk o ho)^f9 _
 let pos:∀h,1<=G h:=λh=>by
  change 1<=1+Hf _;have:0<=Hf^(L h).map^Aj L^rk h:=by
   rcases DE^(L h).map^Aj L^rk h with⟨_,h0⟩|hm;show h0
   .have:∀(n:B)(x:α),0<=Aj L n x:=λn=>by
     induction n with
     | zero=>intro x;change(0:Z)<=1;decide
     | succ n ih =>
      intro x;change 0<=1+Hf^(L x).map^Aj L n;rcases DE^(L x).map^Aj L n with⟨_,h0⟩|hm;lia
      .let#[o,_,e]:=aG.mp hm;have:=ih o;lia
    let#[o,_,e]:=aG.mp hm;rw[<- e];show this _ _
  lia
 let em:(ks.map λh=>(h,G h)).map (·.1)=ks:=by rw[gC];show List.map_id' _
 show#[ks.map λh=>(h,G h),#[by rw[em];show nd,λx hx=>?_,λx hx=>?_,λh hh no=>absurd (by rw[em];show hh) no],au _];let#[h,hh,Y]:=aG.mp hx;show hh
 .let#[h,hh,Y]:=aG.mp hx;dsimp only;let e:=hG h hh;show#[pos h,λo ho=>#[G o,aG.mpr #[o,hL h hh o ho,Y],?_],?_];have:=Jk^oK (f:=G) ho;lia
  .by_cases hn:L h=[];left;rw[hn] at e;show#[e,hn]
   .right;let hm:Hf^(L h).map G∈(L h).map G:=by rcases DE^(L h).map G with⟨h0|h0,_⟩|h0;exfalso;let#[o,ho]:=List.exists_mem_of_ne_nil _ hn;let h1:=Jk^oK (f:=G) ho;have:=pos o;lia;show h0;show h0
    let#[o,ho,eo]:=aG.mp hm;show#[o,ho,aG.mpr #[o,hL h hh o ho,by rw[eo,e];congr 1;lia]]
end
open Classical in
def pN(rs:List bp):Option Int:=if e:∃m,qz (cN rs bn) (gq rs) m then !e.choose else none
def Cm{m:Z}(h:qz (cN rs bn) (gq rs) m):pN rs=!m:=by unfold pN;rw[dif_pos #[m,h]];show congrArg some^ND (Exists.choose_spec (#[m,h]:∃m,qz (cN rs bn) (gq rs) m)) h
def NH(h:∀F,Not (lP (cN rs bn) (gq rs) F)):pN rs=none:=by unfold pN;rw[dif_neg];rintro⟨m,F,hF,_⟩;show h F hF
def WB(Bc:∀k r t,rs[k]?=!r->t∈cY rs k->ly rs r t^gq rs ((k:Z),t)){z:HM.bV}(hz:z∈cN rs bn){o:HM.bV}(ho:o∈gq rs z):∃(p:B)(r:bp),z.1=(p:Z)/\p<bn/\rs[p]?=!r/\z.2∈cY rs p/\Ld rs r z.2 o:=by let#[p,hp,e,ht]:=mH.mp hz;let#[zp,zt]:=z;dsimp only at e ht;subst e;show#[p,rs[p],Y,hp,g7 hp,ht,((Bc p _ zt (g7 hp) ht).2 o).mp ho]
def cX(rs:List bp)(p:B):List Int:=SN.gn^(lu rs p).map (·.2)
def dj(rs:List bp)(p:B):Nat:=if e9 rs p=am then(cX rs p).length+1 else 0
def Row.own(r:bp):Nat:=if r.g6=am then 2 else 1
def gB(rs:List bp)(p:B):Nat:=dj rs p+(rs[p]?.map Row.own).getD 0
def firstM(rs:List bp):B->B
 | 0=>0
 | p+1=>firstM rs p+gB rs p
def iT(rs:List bp)(q:Z):Int:=(firstM rs q.toNat:Z)
noncomputable def Row.dbl(at_:Z):bp->List bp
 | .num _ k v q=>[.num 0 k v (at_+1),.num 1 k v q]
 | .copy _ k i q=>[.copy 0 k i (at_+1),.copy 1 k i q]
 | .op _ s k i j q=>[.op 0 s k i j (at_+1),.op 1 s k i j q]
 | r=>[r]
noncomputable def cK(f:Z):List Z->List bp
 | []=>[]
 | b::bs=>.look b (f+1)::cK (f+1) bs
theorem fk(f:Z):∀bs,(cK f bs).length=bs.length
 | []=>rfl
 | b::bs=>by rw[cK,bW,fk (f+1) bs,bW]
theorem pP(b:Z):∀(f:Z)(bs:List Z),cK f (bs++[b])=cK f bs++[.look b (f+bs.length+1)]
 | f,[]=>by simp[cK]
 | f,c::bs=>by rw[ki,cK,pP b (f+1) bs,cK,ki,bW];have:f+1+(bs.length:Z)+1=f+((bs.length+1:B):Z)+1:=∅;rw[this]
def Gp(rs:List bp)(p:B):List Row:=if e9 rs p=am then cK (firstM rs p)^cX rs p++[.mark ((firstM rs p:Z)+(cX rs p).length+1)] else[]
def putAt(rs:List bp)(p:B)(r:bp):List Row:=Gp rs p++(r.dP^iT rs).dbl ((firstM rs p:Z)+dj rs p)
def b4(rs:List bp):B->List bp
 | 0=>[]
 | p+1=>b4 rs p++(rs[p]?.map^putAt rs p).getD []
def mJ(rs:List bp)(p:B):(Gp rs p).length=dj rs p:=by unfold Gp dj;split;rw[aP,fk];rfl;rfl
def qA(f:Z->Z)(a:Z)(r:bp):((r.dP f).dbl a).length=r.own:=by cases r<;>rfl
theorem fQ{rs:List bp}:∀{p},p<=bn->(b4 rs p).length=firstM rs p
 | 0,_=>rfl
 | p+1,h=>by let e:rs[p]?=some rs[p]:=g7 h;rw[b4,firstM,aP,fQ^Nat.le_of_succ_le h];unfold gB;rw[e];change _+(putAt rs p rs[p]).length=_;unfold putAt;rw[aP,mJ,qA];rfl
theorem NI(rs:List bp)(p:B):∀b∈cX rs p,0<=b/\b<8:=λb hb=>by unfold cX SN.gn at hb;let#[k,hk,Y]:=aG.mp hb;have:=gD.mp (eW.mp hk).1;lia
def Ak(rs:List bp)(p:B):(cX rs p).length<=8:=mE _
theorem yk(rs:List bp)(p:B):dj rs p<=9:=by have:=Ak rs p;unfold dj;split<;>lia
theorem vS(r:bp):r.own<=2:=by unfold Row.own;split<;>lia
theorem WC(rs:List bp)(p:B):gB rs p<=11:=by
 have:=yk rs p;unfold gB;cases rs[p]? with
 | none=>simp;lia
 | some r=>have:=vS r;simp;lia
theorem vU(rs:List bp):∀p,firstM rs p<=11*p
 | 0=>aq _
 | p+1=>by have:=vU rs p;have:=WC rs p;rw[firstM];lia
theorem Al{ks:B->Key}{vs:B->V}:∀{n:B},(∀i j,i<n->j<n->ks i=ks j->i=j)->∀i,i<n->dI (fY ks vs n)^ks i=!(vs i)
 | 0,_,i,h=>absurd h^fz _
 | n+1,hn,i,h=>by
  rw[fY,lU];by_cases e:ks i=ks n;have:i=n:=hn i n h (f9 _) e;rw[if_pos e,this]
  .rw[if_neg e];show Al (λa b ha hb=>hn a b ∅ ∅) i ?_;rcases bR i n with hl|hg;show hl;show absurd (by rw[show i=n by lia]) e
theorem oj{ks:B->Key}{vs:B->V}{k:Key}:∀{n:B},(∀i,i<n->ks i≠k)->dI (fY ks vs n) k=bc
 | 0,_=>rfl
 | n+1,h=>by rw[fY,lU,if_neg (λe=>h n (f9 _) e.symm)];show oj λi hi=>h i ∅
def uJ(H:Hp)(rs:List bp)(kvs:List (Key×V)):=∀j:B,j<bn->(e9 rs j=am->∃a,dI kvs^.inl (j:Z)=!.ref a/\H a=!.lst^(cX rs j).map V.int)/\(Not (e9 rs j=am)->dI kvs^.inl (j:Z)=bc)
def uJ.same{kvs:List (Key×V)}(e:az H H')(h:uJ H rs kvs):uJ H' rs kvs:=λj hj=>#[λhm=>let⟨a,h1,h2⟩:=(h j hj).1 hm;#[a,h1,e _ _ h2],(h j hj).2]
def Row.pl:bp->O
 | .num d _ _ _=>d=2|.copy d _ _ _=>d=2|.op d _ _ _ _ _=>d=2|.look _ _=>False|.mark _=>False|_=>True
inductive Gq (rs:List Row):Nat->Prop
 | zero:Gq rs 0
 | step {p q:Nat} {r:Row} (h:Gq rs p) (hr:rs[p]?=!r) (w8:((q:Nat):Int)∈r.ways):Gq rs q
def cnt_cons(r:bp)(rs:List bp)(j:B):cnt (r::rs) j=r.ways.count (j:Z)+cnt rs j:=by unfold cnt;rw[cu,List.sum_cons]
theorem DG:∀{rs:List bp}{p j:B}{r:bp},rs[p]?=!r->((j:B):Z)∈r.ways->1<=cnt rs j
 | [],_,_,_,h,_=>by simp at h
 | x::rs,0,j,r,h,w8=>by
  simp at h;subst h;have:=List.count_pos_iff.mpr w8;rw[cnt_cons];lia
 | x::rs,p+1,j,r,h,w8=>by have:=DG (rs:=rs) (p:=p) (by simpa using h) w8;rw[cnt_cons];lia
theorem Lp{r':bp}(w8:((j:B):Z)∈r.ways)(w':((j:B):Z)∈r'.ways)(rs:List bp):∀(p q:B),p<q->rs[p]?=!r->rs[q]?=!r'->2<=cnt rs j:=by
 induction rs with
 | nil=>intro p q _ h;simp at h
 | cons x rs ih =>
  intro p q hl h h';rw[cnt_cons];obtain⟨q,rfl⟩:∃i,q=i+1:=#[q-1,∅];rw[qU] at h';rcases vg p with e|hp
  .subst e;rw[yE] at h;cases h;let h1:=List.count_pos_iff.mpr w8;let h2:=DG h' w';lia
  .obtain⟨p,rfl⟩:∃i,p=i+1:=#[p-1,∅];rw[qU] at h;have:=ih p q ∅ h h';lia
def DI(hn:Not (e9 rs j=am))(hr:rs[p]?=!r)(w8:((j:B):Z)∈r.ways):j≠0/\∀(q:B)(r':bp),rs[q]?=!r'->((j:B):Z)∈r'.ways->q=p:=by let h1:=DG hr w8;let hm:Not ((if j=0 then 1 else 2)<=cnt rs j):=λz=>hn^decide_eq_true z;let hj:j≠0:=λz=>hm (by rw[if_pos z];show h1);rw[if_neg hj] at hm;show#[hj,λq r' hq w'=>?_];rcases rY p q with h|h|h;show absurd (Lp w8 w' rs _ _ h hr hq) hm;show h.symm;show absurd (Lp w' w8 rs _ _ h hq hr) hm
inductive Lq (rs:List Row):Nat->Nat->Prop
 | top {j:Nat} (h:j=0\/e9 rs j=true):Lq rs j 0
 | on {p j d:Nat} {r:Row} (hr:rs[p]?=!r) (w8:((j:Nat):Int)∈r.ways) (hn:Not (e9 rs j=true)) (h:Lq rs p d):Lq rs j (d+1)
def acM(h:Gq rs j):∃d,Lq rs j d:=by
 induction h with
 | zero=>show#[0,.top^.inl Y]
 | step _ hr w8 ih =>
  rename_i p q r _;let#[d,hd]:=ih;by_cases hm:e9 rs q=am;show#[0,.top^.inr hm];show#[d+1,.on hr w8 hm hd]
def Lr(h:Lq rs j d):∀{d':B},Lq rs j d'->d=d':=by
 induction h with
 | top h =>
  intro d' h';cases h' with
  | top _=>rfl
  | on hr w8 hn _=>show absurd (h.resolve_left (DI hn hr w8).1) hn
 | on hr w8 hn _ ih =>
  intro d' h';cases h' with
  | top h=>show absurd (h.resolve_left (DI hn hr w8).1) hn
  | on TK w' _ h' =>
   obtain rfl:=(DI hn hr w8).2 _ _ TK w';rw[ih h']
theorem R7(h:Lq rs j d):j<bn->∃l:List B,d4=d+1/\l.Nodup/\∀x∈l,x<bn/\∃i,i<=d/\Lq rs x i:=by
 induction h with
 | top h=>show λhj=>#[[_],Y,by simp,λx hx=>by rw[aC.mp hx];show#[hj,0,aq _,.top h]]
 | @on p j d r hr w8 hn hd ih =>
  intro hj;let#[l,h1,h2,h3]:=ih (fK hr).1;show#[j::l,by rw[bW,h1],iG.mpr #[λhx=>?_,h2],λx hx=>?_];let#[_,i,hi,IN]:=h3 _ hx;have:=Lr (Lq.on hr w8 hn hd) IN;lia;rcases aJ.mp hx with rfl|hx;show#[hj,_,aq _,.on hr w8 hn hd];let#[h4,i,hi,IN]:=h3 x hx;show#[h4,i,∅,IN]
theorem R8(h:Lq rs j d)(hj:j<bn):d<rs.length:=by let#[l,h1,h2,h3]:=R7 h hj;have:=oh h2 (ys:=List.range bn) λx hx=>gD.mpr (h3 x hx).1;rw[oJ] at this;lia
open Classical in
def WD(rs:List bp)(j:B):Nat:=if e:∃d,Lq rs j d then e.choose else 0
def Ls(h:Lq rs j d):WD rs j=d:=by unfold WD;rw[dif_pos #[d,h]];show Lr (Exists.choose_spec (#[d,h]:∃d,Lq rs j d)) h
theorem jC(h:p<=q):firstM rs p<=firstM rs q:=by
 induction q with
 | zero=>rw[Nat.le_zero.mp h];show aq _
 | succ q ih =>
  rcases bR p (q+1) with h1|h1;have:=ih ∅;change _<=firstM rs q+gB rs q;lia;rw[show p=q+1 by lia];show aq _
def NJ(hr:rs[p]?=!r):(putAt rs p r).length=gB rs p:=by unfold putAt gB;rw[aP,mJ,qA,hr];rfl
theorem Am(hr:rs[p]?=!r)(hk:k<gB rs p):∀m,p<m->m<=bn->(b4 rs m)[firstM rs p+k]?=(putAt rs p r)[k]?:=by
 intro m;induction m with
 | zero=>intro h;show absurd h^fz _
 | succ m ih =>
  intro h1 h2;let hl:=fQ (rs:=rs) (p:=m) ∅;change(b4 rs m++_)[firstM rs p+k]?=_;rcases bR p m with h3|h3
  .have hm:=jC (rs:=rs) (p:=p+1) (q:=m) h3;let e:firstM rs (p+1)=firstM rs p+gB rs p:=rfl;rw[lC ∅,ih h3 ∅]
  .obtain rfl:p=m:=∅;rw[ko ∅,hl,show firstM rs p+k-firstM rs p=k by lia,hr];rfl
theorem An{rs:List bp}:∀{m x:B},x<firstM rs m->m<=bn->∃p k,p<m/\k<gB rs p/\x=firstM rs p+k
 | 0,x,h,_=>absurd h^fz _
 | m+1,x,h,hm=>by rcases bR x^firstM rs m with h1|h1;let#[p,k,h2,h3,h4]:=An h1 ∅;show#[p,k,∅,h3,h4];let h:x<firstM rs m+gB rs m:=h;show#[m,x-firstM rs m,∅,∅,∅]
theorem vV(hk:k<gB rs p)(hj:j<gB rs q)(e:firstM rs p+k=firstM rs q+j):p=q/\k=j:=by rcases rY p q with h|h|h;let h1:=jC (rs:=rs) (p:=p+1) (q:=q) h;let h1:firstM rs p+gB rs p<=firstM rs q:=h1;lia;subst h;show#[Y,∅];let h1:=jC (rs:=rs) (p:=q+1) (q:=p) h;let h1:firstM rs q+gB rs q<=firstM rs p:=h1;lia
theorem qP:∀(f:Z)(bs:List Z)(k:B),(cK f bs)[k]?=bs[k]?.map λb=>Row.look b (f+k+1)
 | _,[],_=>by simp[cK]
 | f,b::bs,0=>by simp[cK]
 | f,b::bs,k+1=>by rw[cK,qU,qU,qP (f+1) bs k,show f+1+(k:Z)+1=f+((k+1:B):Z)+1 by lia]
inductive Jl (rs:List Row) (p:Nat) (r:Row) (x:Int):Nat->Row->Prop
 | look {k:Nat} {b:Int} (hm:e9 rs p=true) (hb:(cX rs p)[k]?=!b):Jl rs p r x k^.look b (x+1)
 | mark {k:Nat} (hm:e9 rs p=true) (e:k=(cX rs p).length):Jl rs p r x k^.mark (x+1)
 | own {k:Nat} (hd:r.g6=false) (e:k=dj rs p):Jl rs p r x k^r.dP^iT rs
 | one {k:Nat} {R:Row} (hd:r.g6=true) (e:k=dj rs p) (h1:R.g6=true) (h2:R.sd=0) (h3:R.qM=r.qM) (h4:R.ways=[x+1]) (h5:∀n n':Int,r.ok n->nF n' (x+1)->R.ok n'):Jl rs p r x k R
 | two {k:Nat} {R:Row} (hd:r.g6=true) (e:k=dj rs p+1) (h1:R.g6=true) (h2:R.sd=1) (h3:R.qM=r.qM) (h4:R.ways=r.ways.map^iT rs) (h5:∀n n':Int,r.ok n->(∀q,nF n q->nF n'^iT rs q)->R.ok n'):Jl rs p r x k R
theorem R9(h:(putAt rs p r)[k]?=!R):Jl rs p r ((firstM rs p:Z)+k) k R:=by
 let hl:=mJ rs p;unfold putAt at h;rcases bR k^dj rs p with h1|h1
 .rw[lC ∅] at h;unfold dj at h1;by_cases hm:e9 rs p=am
  .rw[if_pos hm] at h1;unfold Gp at h;rw[if_pos hm] at h;rcases bR k (cX rs p).length with h2|h2
   .rw[lC (by rw[fk];show h2),qP] at h;let#[b,hb,Y]:=cL.mp h;show .look hm hb
   .obtain rfl:k=(cX rs p).length:=∅;rw[ko (by rw[fk];show aq _),fk,Nat.sub_self] at h;cases h;show .mark hm Y
  .rw[if_neg hm] at h1;show absurd h1^fz _
 .rw[ko ∅,hl] at h;let e2:k=dj rs p+(k-dj rs p):=∅;generalize k-dj rs p=i at h e2;subst e2;let ex:(firstM rs p:Z)+dj rs p+1=(firstM rs p:Z)+((dj rs p+0:B):Z)+1:=∅;cases r with
  | num d a v q =>
   match i,h with
   | 0,h=>cases h;show .one Y rfl rfl rfl rfl (by change[_]=_;rw[ex]) (λn n' h hx=>by rw[<- ex] at hx;show#[#[(),()],h.2.1,h.2.2.1,hx])
   | 1,h=>cases h;show .two Y rfl rfl rfl rfl rfl (λn n' h hf=>#[#[(),()],h.2.1,h.2.2.1,hf _ h.2.2.2])
   | i+2,h=>cases h
  | copy d a b q =>
   match i,h with
   | 0,h=>cases h;show .one Y rfl rfl rfl rfl (by change[_]=_;rw[ex]) (λn n' h hx=>by rw[<- ex] at hx;show#[#[(),()],h.2.1,h.2.2.1,hx])
   | 1,h=>cases h;show .two Y rfl rfl rfl rfl rfl (λn n' h hf=>#[#[(),()],h.2.1,h.2.2.1,hf _ h.2.2.2])
   | i+2,h=>cases h
  | op d s a b c q =>
   match i,h with
   | 0,h=>cases h;show .one Y rfl rfl rfl rfl (by change[_]=_;rw[ex]) (λn n' h hx=>by rw[<- ex] at hx;show#[#[(),()],h.2.1,h.2.2.1,h.2.2.2.1,h.2.2.2.2.1,hx])
   | 1,h=>cases h;show .two Y rfl rfl rfl rfl rfl (λn n' h hf=>#[#[(),()],h.2.1,h.2.2.1,h.2.2.2.1,h.2.2.2.2.1,hf _ h.2.2.2.2.2])
   | i+2,h=>cases h
  | out a q =>
   match i,h with
   | 0,h=>cases h;show .own Y rfl
   | i+1,h=>cases h
  | fork a q q2 =>
   match i,h with
   | 0,h=>cases h;show .own Y rfl
   | i+1,h=>cases h
  | look a q =>
   match i,h with
   | 0,h=>cases h;show .own Y rfl
   | i+1,h=>cases h
  | mark q =>
   match i,h with
   | 0,h=>cases h;show .own Y rfl
   | i+1,h=>cases h
  | back a =>
   match i,h with
   | 0,h=>cases h;show .own Y rfl
   | i+1,h=>cases h
section
variable {rs:List bp}
def Gr(h:r.pl)(s s':Z):r.gv s=r.gv s'/\r.rd s=r.rd s':=by
 unfold Row.gv Row.rd;cases r with
 | num d _ _ _=>let h:d=2:=h;subst h;simp[Row.sd,Row.g6]
 | copy d _ _ _=>let h:d=2:=h;subst h;simp[Row.sd,Row.g6]
 | op d _ _ _ _ _=>let h:d=2:=h;subst h;simp[Row.sd,Row.g6]
 | _=>show#[Y,Y]
def Gs(hok:∀r∈rs,r.ok bn)(WF:∀r∈rs,r.pl){s s' b:Z}(hs:s=0\/s=1)(Ix:s'=0\/s'=1)(hb:0<=b)(h:c7 rs (s,b) p):c7 rs (s',b) p:=by show pJ (S:=c7 rs (s',b)) (λk r hr hm=>?_) (λk q r hr hm w8 hq=>?_) p h;let SB:=ie hr;rw[mF (hok r SB) hs,(Gr (WF r SB) s s').2] at hm;show .here hr^(mF (hok r SB) Ix).mpr hm;let SB:=ie hr;rw[jk (hok r SB) hs hb,(Gr (WF r SB) s s').1] at hm;show .on hr (λz=>hm^(jk (hok r SB) Ix hb).mp z) w8 hq
theorem yl(r:bp):1<=r.own:=by unfold Row.own;split<;>lia
theorem uK(hp:p<bn):firstM rs p<firstM rs bn/\dj rs p<gB rs p:=by
 let h1:=jC (rs:=rs) (p:=p+1) (q:=bn) hp;let h1:firstM rs p+gB rs p<=_:=h1;let e:gB rs p=dj rs p+(rs[p]).own:=by unfold gB;rw[g7 hp];rfl
 have:=yl rs[p];lia
def rH:iT rs (q:Z)=(firstM rs q:Z):=by unfold iT;rw[iX]
theorem ym{x:B}(h:(b4 rs bn)[x]?=!R):∃(p k:B)(r:bp),rs[p]?=!r/\k<gB rs p/\x=firstM rs p+k/\Jl rs p r (x:Z) k R:=by let hx:=(fK h).1;rw[fQ^aq _] at hx;let#[p,k,h1,h2,Y]:=An hx^aq _;let hr:rs[p]?=some rs[p]:=g7 h1;rw[Am hr h2 _ h1^aq _] at h;have:=R9 h;show#[p,k,_,hr,h2,Y,by rw[show((firstM rs p+k:B):Z)=(firstM rs p:Z)+k by lia];show this]
def pQ(hr:rs[p]?=!r):gB rs p=dj rs p+r.own:=by unfold gB;rw[hr];rfl
def pR(f:Z->Z)(r:bp):(r.dP f).g6=r.g6/\(r.dP f).sd=r.sd/\(r.dP f).qM=r.qM/\(r.dP f).ways=r.ways.map f:=by cases r<;>show#[Y,Y,Y,Y]
def Gu(f:Z->Z)(r:bp)(s:Z):(r.dP f).gv s=r.gv s/\(r.dP f).rd s=r.rd s:=by let#[h1,h2,h3,_]:=pR f r;unfold Row.gv Row.rd Row.Nf;rw[h1,h2,h3];show#[Y,Y]
theorem yo{d:Z}(WF:r.pl)(hd:r.g6=am)(h1:R.g6=am)(h2:R.sd=d)(h3:R.qM=r.qM)(BL:d=0\/d=1)(s:Z):(s=d->R.gv s=r.gv s/\R.rd s=r.rd s)/\(s≠d->s=0\/s=1->R.gv s = -1/\R.rd s=[]):=by
 let e2:r.sd=2:=by
  cases r with
  | num d _ _ _=>show WF
  | copy d _ _ _=>show WF
  | op d _ _ _ _ _=>show WF
  | _=>cases hd
 unfold Row.gv Row.rd Row.Nf;rw[h1,h2,h3,hd,e2];constructor;intro e;subst e;simp;intro e hs;let e1:Not (d=s):=λz=>e z.symm;let e3:Not (d=2):=∅;simp[e1,e3]
theorem NK(hok:∀r∈rs,r.ok bn)(WF:∀r∈rs,r.pl)(Bd:∀r∈b4 rs bn,r.ok (b4 rs bn).length){s b:Z}(hs:s=0\/s=1)(hb:0<=b/\b<8){x:B}(h:c7 (b4 rs bn) (s,b) x):
  ∀(p k:B)(r:bp),rs[p]?=!r->k<gB rs p->x=firstM rs p+k->(k<=dj rs p\/s=1->c7 rs (s,b) p)/\(dj rs p<k->s=0->∃q:B,((q:B):Z)∈r.ways/\c7 rs (s,b) q):=by
 show pJ (S:=λx=>∀(p k:B)(r:bp),rs[p]?=!r->k<gB rs p->x=firstM rs p+k->(k<=dj rs p\/s=1->c7 rs (s,b) p)/\(dj rs p<k->s=0->∃q:B,((q:B):Z)∈r.ways/\c7 rs (s,b) q)) (λy R hR hm=>?_) (λy q R hR hm w8 hq=>?_) x h
 .intro p k r hr hk ey;let#[p',k',r',TK,Qr,ey',hw]:=ym hR;let#[Y,Y]:=vV hk Qr ∅;rw[hr] at TK;cases TK;let hmem:=ie hr;let Sa:=hok r hmem;rw[mF (Bd R^ie hR) hs] at hm;let hso:=pQ hr;let T5:=vS r;let here:b∈r.rd s->c7 rs (s,b) p:=λz=>.here hr^(mF Sa hs).mpr z;cases hw with
  | look SB Tb =>
   have:b∈cX rs p:=by let hm:b∈[_]:=hm;rw[aC.mp hm];show ie Tb
   obtain⟨z,hz,ez⟩:∃z∈lu rs p,z.2=b:=by
    unfold cX at this;rw[SN.j6 λn hn=>?_] at this;let#[z,hz,ez]:=aG.mp this;show#[z,hz,ez]
    .let#[z,hz,Y]:=aG.mp hn;let all:∀t∈dG,0<=t.2/\t.2<8:=()
     show all z (eW.mp hz).1
   let#[hz1,hz2]:=eW.mp hz;let all:∀t∈dG,t.1=0\/t.1=1:=()
   let#[zs,zb]:=z;dsimp only at ez;subst ez;show#[λv=>Gs hok WF (all _ hz1) hs hb.1^jj.mp hz2,λh=>?_];have:=(fK Tb).1;unfold dj at h;rw[if_pos SB] at h;lia
  | mark _ _=>show nomatch (show b∈([]:List Z) from hm)
  | own hd e =>
   rw[(Gu _ r s).2] at hm;show#[λv=>here hm,λh=>∅]
  | one hd e h1 h2 h3 h4 _ =>
   show#[λv=>?_,λh=>∅];let hg:=yo (WF r hmem) hd h1 h2 h3 (.inl Y) s;by_cases e0:s=0;rw[(hg.1 e0).2] at hm;show here hm;rw[(hg.2 e0 hs).2] at hm;show nomatch hm
  | two hd e h1 h2 h3 h4 _ =>
   let hg:=yo (WF r hmem) hd h1 h2 h3 (.inr Y) s;by_cases e0:s=1;rw[(hg.1 e0).2] at hm;show#[λv=>here hm,λv h=>∅];rw[(hg.2 e0 hs).2] at hm;show nomatch hm
 .intro p k r hr hk ey;let#[p',k',r',TK,Qr,ey',hw]:=ym hR;let#[Y,Y]:=vV hk Qr ∅;rw[hr] at TK;cases TK;let hmem:=ie hr;let Sa:=hok r hmem;rw[jk (Bd R^ie hR) hs hb.1] at hm;let hso:=pQ hr;let T5:=vS r;let hop:=yl r;let next:∀{j:B},(q:Z)=(y:Z)+1->k+1=j->j<gB rs p->_:=λ{j} e1 e2 e3=>hq p j r hr e3 ∅;let far:(q:Z)∈r.ways.map^iT rs->∃q':B,((q':B):Z)∈r.ways/\c7 rs (s,b) q':=λw8=>by let#[z,hz,ez]:=aG.mp w8;let#[h1,h2]:=Row.nG Sa z hz;obtain⟨q',rfl⟩:∃q':Nat,z=(q':Int):=#[z.toNat,∅];rw[rH] at ez;let FK:q'<rs.length:=∅;show#[q',hz,(hq q' 0 rs[q'] (g7 FK) (by have:=(uK FK).2;lia) ∅).1^.inl^aQ _]
  let onp:r.gv s≠b->(∃q':B,((q':B):Z)∈r.ways/\c7 rs (s,b) q')->c7 rs (s,b) p:=λh ⟨q',h1,h2⟩=>.on hr (λz=>h^(jk Sa hs hb.1).mp z) h1 h2;cases hw with
  | look SB Tb =>
   let xM:=(fK Tb).1;let em:dj rs p=(cX rs p).length+1:=by unfold dj;rw[if_pos SB]
   let w8:(q:Z)=(y:Z)+1:=aC.mp w8;show#[λv=>(next (j:=k+1) w8 Y ∅).1 (.inl ∅),λh=>∅]
  | mark SB e =>
   let em:dj rs p=(cX rs p).length+1:=by unfold dj;rw[if_pos SB]
   let w8:(q:Z)=(y:Z)+1:=aC.mp w8;show#[λv=>(next (j:=k+1) w8 Y ∅).1 (.inl ∅),λh=>∅]
  | own hd e =>
   rw[(pR (iT rs) r).2.2.2] at w8;rw[(Gu _ r s).1] at hm;show#[λv=>onp hm^far w8,λh=>∅]
  | one hd e h1 h2 h3 h4 _ =>
   rw[h4] at w8;let w8:(q:Z)=(y:Z)+1:=aC.mp w8;let ho:r.own=2:=by unfold Row.own;rw[if_pos hd]
   let hn:=next (j:=k+1) w8 Y ∅;show#[λv=>?_,λh=>∅];by_cases e0:s=1;show hn.1^.inr e0;let e1:s=0:=hs.resolve_right e0;let hg:=(yo (WF r hmem) hd h1 h2 h3 (.inl Y) s).1 e1;rw[hg.1] at hm;show onp hm (hn.2 ∅ e1)
  | two hd e h1 h2 h3 h4 _ =>
   rw[h4] at w8;show#[λh=>?_,λv v=>far w8];let e1:s=1:=h.resolve_left ∅;let hg:=(yo (WF r hmem) hd h1 h2 h3 (.inr Y) s).1 e1;rw[hg.1] at hm;show onp hm^far w8
def Gv{n n':Z}{f:Z->Z}(h:r.ok n)(hf:∀q,nF n q->nF n'^f q):(r.dP f).ok n':=by
 cases r with
 | num d k v q=>show#[h.1,h.2.1,h.2.2.1,hf _ h.2.2.2]
 | copy d k i q=>show#[h.1,h.2.1,h.2.2.1,hf _ h.2.2.2]
 | op d s k i j q=>show#[h.1,h.2.1,h.2.2.1,h.2.2.2.1,h.2.2.2.2.1,hf _ h.2.2.2.2.2]
 | out i q=>show#[h.1,hf _ h.2]
 | fork i q p=>show#[h.1,hf _ h.2.1,hf _ h.2.2]
 | look i q=>show#[h.1,hf _ h.2]
 | mark q=>show hf _ h
 | back i=>show h
theorem Lu(hok:∀r∈rs,r.ok bn):∀R∈b4 rs bn,R.ok (b4 rs bn).length:=λR hR=>by
 let#[x,hx]:=ir.mp hR;let#[p,k,r,hr,hk,ex,hw]:=ym hx;let hp:=(fK hr).1;let Sa:=hok r^ie hr;let hso:=pQ hr;let hop:=yl r;rw[fQ^aq _];let hm:=jC (rs:=rs) (p:=p+1) (q:=bn) hp;let hm:firstM rs p+gB rs p<=_:=hm;let hf:∀q,nF bn q->nF (firstM rs bn)^iT rs q:=λq hq=>by obtain⟨q',rfl⟩:∃q':Nat,q=(q':Int):=#[q.toNat,by have:=hq.1;lia];rw[rH];let h1:=hq.2;have:=(uK (rs:=rs) (p:=q') ∅).1;show#[∅,∅]
 let nx:k+1<gB rs p->nF (firstM rs bn) ((x:Z)+1):=λh=>#[∅,∅];cases hw with
 | look SB Tb =>
  let xM:=(fK Tb).1;let em:dj rs p=(cX rs p).length+1:=by unfold dj;rw[if_pos SB]
  show#[NI rs p _^ie Tb,nx ∅]
 | mark SB e =>
  let em:dj rs p=(cX rs p).length+1:=by unfold dj;rw[if_pos SB]
  show nx ∅
 | own hd e=>show Gv Sa hf
 | one hd e _ _ _ _ h5 =>
  let ho:r.own=2:=by unfold Row.own;rw[if_pos hd]
  show h5 _ _ Sa (nx ∅)
 | two hd e _ _ _ _ h5=>show h5 _ _ Sa hf
def nK(rs:List bp)(p k:B)(t:HM.gA):=k<dj rs p/\(t=bc\/∃s b i,t=!(s,b)/\k<=i/\(cX rs p)[i]?=!b)
open Classical in
def Gw(rs:List bp)(p k:B)(t:HM.gA):Nat:=if nK rs p k t then dj rs p-k else 12*(bn+1-WD rs p)+(gB rs p-k)
def DJ(h:nK rs p k t):Gw rs p k t=dj rs p-k:=by unfold Gw;rw[if_pos h]
def pS(h:Not (nK rs p k t)):Gw rs p k t=12*(bn+1-WD rs p)+(gB rs p-k):=by unfold Gw;rw[if_neg h]
open Classical in
def rkZ(rs:List bp)(z:HM.bV):Nat:=if e:∃a:B×B,a.2<gB rs a.1/\z.1=((firstM rs a.1+a.2:B):Z) then Gw rs e.choose.1 e.choose.2 z.2 else 0
theorem Jm{z:Z}(hk:k<gB rs p)(hz:z=((firstM rs p+k:B):Z)):rkZ rs (z,t)=Gw rs p k t:=by let e:∃a:B×B,a.2<gB rs a.1/\(z,t).1=((firstM rs a.1+a.2:B):Z):=#[(p,k),hk,hz];unfold rkZ;rw[dif_pos e];let h:=e.choose_spec;let h2:z=((firstM rs e.choose.1+e.choose.2:B):Z):=h.2;let#[h1,h3]:=vV h.1 hk ∅;rw[h1,h3]
theorem Sb(hok:∀r∈rs,r.ok bn)(WF:∀r∈rs,r.pl)(hre:∀p,p<bn->Gq rs p)(Ui:nJ (cN (b4 rs bn) (b4 rs bn).length)^gq^b4 rs bn)
  (Bc:∀k r t,(b4 rs bn)[k]?=!r->t∈cY (b4 rs bn) k->ly (b4 rs bn) r t^gq (b4 rs bn) ((k:Z),t)):∃F,lP (cN (b4 rs bn) (b4 rs bn).length) (gq^b4 rs bn) F:=by
 let Bd:=Lu hok;show acL (rk:=rkZ rs) Ui.1 (λk hk o ho=>(Ui.2.2 k hk).2 o ho) λz hz o ho=>?_;let#[x,R,ez,hx,hR,PX,hl]:=WB Bc hz ho;let#[p,k,r,hr,hk,ex,hw]:=ym hR;let hp:=(fK hr).1;let#[zp,t]:=z;let#[op,u]:=o;dsimp only at ez hl PX;rw[Jm (z:=zp) (t:=t) hk^by rw[ez,ex]];let hso:=pQ hr;let hop:=yl r;let T5:=vS r;let#[d,hd]:=acM^hre p hp;let Hm:=R8 hd hp;let hdm:=Ls hd;let#[w8,lf,lv]:=hl;dsimp only at w8 lf lv;let next:k+1<gB rs p->op=(x:Z)+1->rkZ rs (op,u)=Gw rs p (k+1) u:=λh e=>Jm h (by rw[e,ex];lia);let far:Not (nK rs p k t)->op∈r.ways.map^iT rs->rkZ rs (op,u)<Gw rs p k t:=λUV w8=>by
  rw[pS UV,hdm];let#[q,hq,eq]:=aG.mp w8;let#[g1,g2]:=Row.nG (hok r^ie hr) q hq;obtain⟨q',rfl⟩:∃q':Nat,q=(q':Int):=#[q.toNat,∅];rw[rH] at eq;let FK:q'<rs.length:=∅;let hfl:=uK FK;rw[Jm (p:=q') (k:=0) ∅ (by rw[<- eq];simp)];by_cases hm:e9 rs q'=am
  .have em:dj rs q'=(cX rs q').length+1:=by unfold dj;rw[if_pos hm]
   let hen:nK rs q' 0 u:=by
    show#[∅,?_];cases u with
    | none=>show .inl Y
    | some y =>
     right;let#[s,b]:=y;let lv:(s,b)∈lu (b4 rs bn) op.toNat:=lv;let#[l1,l2]:=eW.mp lv;let all:∀t∈dG,(t.1=0\/t.1=1)/\0<=t.2/\t.2<8:=()
     let TZ:=all _ l1;let Ff:=(NK hok WF Bd TZ.1 TZ.2 (jj.mp l2) q' 0 rs[q'] (g7 FK) ∅ (by rw[<- eq];simp)).1^.inl^aQ _;let Rs:b∈cX rs q':=by unfold cX;rw[SN.j6 λn hn=>?_];show aG.mpr #[(s,b),eW.mpr #[l1,jj.mpr Ff],Y];let#[z,hz,Y]:=aG.mp hn;show(all z (eW.mp hz).1).2
     let#[i,hi,e]:=qW.mp Rs;show#[s,b,i,Y,aQ _,by rw[g7 hi,e]]
   rw[DJ hen];have:=yk rs q';lia
  .have e0:dj rs q'=0:=by unfold dj;rw[if_neg hm]
   let IN:=Lq.on hr hq hm hd;rw[pS (λz=>by have:=z.1;lia),Ls IN];have:=R8 IN FK;let h1:=pQ^g7 FK;let h2:=vS rs[q'];lia
 let stay:∀{R:bp},R.gv=(λj=>-1)->LeftOf R t u->u=t:=λ{R} hg l=>by
  cases t with
  | none=>show l.2
  | some y =>
   rcases l.2 with⟨h,_⟩|⟨_,h,_⟩;show h;rw[hg] at h;show absurd (show(0:Z) <= -1 from h) ()
 cases hw with
 | @look bb SB Tb =>
  let xM:=(fK Tb).1;let em:dj rs p=(cX rs p).length+1:=by unfold dj;rw[if_pos SB]
  rw[next ∅ (aC.mp w8)];let eu:=stay Y lf;subst eu;by_cases he:nK rs p k u
  .have he':nK rs p (k+1) u:=by
    show#[∅,he.2.imp_right ?_];rintro⟨s,b',i,rfl,hi,hib⟩;show#[s,b',i,Y,?_,hib];rcases bR k i with h|h;show h
    .exfalso;obtain rfl:i=k:=∅;rw[Tb] at hib;cases hib;let h1:=lf.1;unfold Row.ends at h1;dsimp only at h1;rw[show xF (.str (Row.look bb ((x:Z)+1)).key) [.str "look", .str "out", .str "back"]=am from by change xF (.str "look") _=am;decide,show(Row.look bb ((x:Z)+1)).qM.headD 0=bb from Y,decide_eq_true Y] at h1;cases h1
   rw[DJ he,DJ he'];lia
  .have he':Not (nK rs p (k+1) u):=λz=>he #[∅,z.2.imp_right λ⟨s,b',i,h1,h2,h3⟩=>#[s,b',i,h1,∅,h3]];rw[pS he,pS he'];lia
 | mark SB e =>
  let em:dj rs p=(cX rs p).length+1:=by unfold dj;rw[if_pos SB]
  rw[next ∅ (aC.mp w8)];let eu:=stay Y lf;subst eu;let UV:Not (nK rs p k u):=by rintro⟨_,h⟩;rcases h with rfl|⟨s,b',i,rfl,hi,hib⟩;let h1:=lf.1;rw[show(Row.mark ((x:Z)+1)).ends bc=am from by change xF (.str "mark") _=am;decide] at h1;cases h1;have:=(fK hib).1;lia
  rw[pS UV,pS (λz=>by have:=z.1;lia)];lia
 | own IN e =>
  rw[(pR (iT rs) r).2.2.2] at w8;show far (λz=>by have:=z.1;lia) w8
 | one IN e h1 h2 h3 h4 _ =>
  let ho:r.own=2:=by unfold Row.own;rw[if_pos IN]
  rw[h4] at w8;rw[next ∅ (aC.mp w8),pS (λz=>by have:=z.1;lia),pS (λz=>by have:=z.1;lia)];lia
 | two IN e h1 h2 h3 h4 _ =>
  rw[h4] at w8;show far (λz=>by have:=z.1;lia) w8
end
noncomputable def Row.mK(p:Z):bp->ci
 | .look _ q=>decide (q=p+1)|.mark q=>decide (q=p+1)|_=>false
inductive WE(K_:aB)(vs:List V)(H:Hp)(Q:VK)(z:XK):Prop|mk(c:Addr)(p:Nat)(us:List V)(rs:List Row)(r:Row)(z:vs=[¬c,.int p])(z:H c=!.lst us)(z:Rows H us rs)(z:rs[p]?=!r)(z:∀H',az H H'->Q (.bl^r.mK p) H')
def Cn:T.zX∩(1,WE K_):=by
 exists T.zX,B6,#[c,p,us,rs,r,rfl,hc,T0,TK,q],"ß?gï1F*0+v-=2M01+<Êð:2>AbËªàVÌ2X^1«",3,(by with_unfolding_all rfl);let hl:=T0.length;let hp:p<rs.length:=(fK TK).1;let#[ra,QR,lS]:=yj T0 TK;lk;show cZ (bJ.of hc) QR ?_;cases r
 all_goals erw[Row.vals,Row.key,Row.rest] at lS
 all_goals erw[Row.mK] at q
 all_goals lk
 all_goals show q _ (by walk_at "same")
noncomputable def yp(p x:Z):Int:=if p<x then x-1 else x
noncomputable def Be(rs:List bp)(n:B)(lo hi:Option Z):List Row:=(rs.drop^HT.gz n 0 lo).take (HT.gz n n hi-HT.gz n 0 lo)
theorem Paired.take'{F:α->β->O}:∀{xs:List α}{ys:List β}(n:B),Paired F xs ys->Paired F (xs.take n) (ys.take n)
 | _,_,0,_=>.nil
 | _,_,_+1,.nil=>.nil
 | _,_,n+1,.cons h t=>.cons h^Paired.take' n t
theorem Paired.drop'{F:α->β->O}:∀{xs:List α}{ys:List β}(n:B),Paired F xs ys->Paired F (xs.drop n) (ys.drop n)
 | _,_,0,h=>h
 | _,_,_+1,.nil=>.nil
 | _,_,n+1,.cons _ t=>Paired.drop' n t
def Paired.app'{F:α->β->O}{xs xs':List α}{ys RF:List β}(h:Paired F xs ys)(h':Paired F xs' RF):Paired F (xs++xs') (ys++RF):=by
 induction h with
 | nil=>show h'
 | cons a _ ih=>show .cons a ih
def Gx(h:Rows H us rs)(lo hi:Option Z):Rows H (iI us lo hi)^Be rs dC lo hi:=Paired.take' _^Paired.drop' _ h
def Sd{lo hi:Option Z}(h:r∈Be rs n lo hi):r∈rs:=List.mem_of_mem_drop^List.mem_of_mem_take h
noncomputable def xN(rs:List bp)(p:Z):List Row:=(Be rs bn bc^some p++Be rs bn (!(p+1)) bc).map^Row.dP^yp p
inductive NL(K_:aB)(vs:List V)(H:Hp)(Q:VK)(z:XK):Prop|mk(c:Addr)(p:Nat)(us:List V)(rs:List Row)(z:vs=[¬c,.int p])(z:H c=!.lst us)(z:Rows H us rs)(z:rs.length<=3900)(z:(∀r∈rs,r.ok rs.length))(z:∀c' Ps H1 H',az H H1->gU H1 c' (.lst Ps) H'->Rows H' Ps^xN rs p->Q (¬c') H')
theorem rJ:T.without∩(2,NL K_):=by
 exists T.without,zS,#[c,p,us,rs,rfl,hc,T0,hl,hok,q],"-=2]QÍ*F*0OST½01I²0@0+<]QE~¹0¬1p×0¬^1}O/uB .0*1",3,"other",["place"],[1],["place"],"row",["moved"],[2],["moved"];let Ba:=T0.length;lk;show sP (λi ys H'=>H'=H/\ys=((List.range i).map λj:B=>V.int^yp p j)) #[Y,Y] ?_ ?_
 .rintro i ys H' hi ⟨rfl,rfl⟩;show#[cV (by rw[au,oJ];lia),?_];let e:∀z:Z,z=yp p i->(List.range i).map (λj:B=>V.int^yp p j)++[.int z]=(List.range (i+1)).map (λj:B=>V.int^yp p j):=λz e=>by rw[ve,bf,e];rfl
  lk;ext h;show#[Y,e _ (by rw[yp,if_pos ∅];lia)];ext h;show#[Y,e _ (by rw[yp,if_neg ∅];lia)]
 rintro ys H' ⟨rfl,rfl⟩ m H2 n2;let hc2:=n2.keep hc;let c1:=ju us bc^!(p:Z);let c2:=ju us (!((p:Z)+1)) bc;lk;ext l3 H3 n3 l4 H4 n4 l5 H5 n5;let Uj:az H' H5:=by walk_at "same"
 let pT:=T0.same Uj;show V1 (rs:=Be rs bn bc^some p++Be rs bn (!(p+1)) bc) (Row.dP^yp p) (bJ.of n5.self) ?_ (by rw[aP];lia) ?_ ?_;let k1:=Gx pT bc^!(p:Z);let k2:=Gx pT (!((p:Z)+1)) bc;rw[Ba] at k1 k2;show Paired.app' k1 k2
 .intro r TK ra H6 s6 lS Q h;let TK:r∈rs:=by rcases aR.mp TK with h|h<;>show Sd h
  let hm:H6 m=!.lst ((List.range (dC:Z).toNat).map λj:B=>V.int^yp p j):=s6 _ _ (by walk_at "look");lk;show#[ra,m,r,_,yp p,Y,lS,hm,λz hz=>?_,λt H7 s7 ht=>h t H7 s7 ht];let hz:=Row.nG (hok r TK) z hz;let e:z=((z.toNat:B):Z):=∅;rw[e];show dN ?_;rw[bB,List.getElem?_range ∅];rfl
 .intro Ps p' H6 H7 s6 n7 Lv;show q p' Ps H6 H7 (Uj.trans s6) n7 Lv
theorem Jo(hp:p<bn):xN rs (p:Z)=(rs.take p++rs.drop (p+1)).map^Row.dP^yp p:=by
 let e1:Be rs bn bc^some (p:Z)=rs.take p:=by unfold Be;rw[show HT.gz bn 0 bc=0 from Y,show HT.gz bn bn^some (p:Z)=p by rw[HT.ql];lia];rfl
 let e2:Be rs bn (!((p:Z)+1)) bc=rs.drop (p+1):=by unfold Be;rw[show HT.gz bn bn bc=bn from Y,show HT.gz bn 0^some ((p:Z)+1)=p+1 by rw[show(p:Z)+1=((p+1:B):Z) by lia,HT.ql];lia];rw[List.take_of_length_le (by rw[uZ];show aq _)]
 unfold xN;rw[e1,e2]
theorem Lw(hp:p<bn):(xN rs (p:Z)).length=bn-1:=by rw[Jo hp,au,aP,bU,uZ];lia
structure Lx (rs:List Row) (n:Nat):Prop where
 ok:∀r∈rs,r.ok rs.length
 ne:rs≠[]
 len:rs.length<=n
theorem acN(hok:∀r∈rs,r.ok bn)(hr:rs[p]?=!r)(hc:r.mK p=am):p+1<rs.length:=by
 let Sa:=hok r^ie hr;cases r with
 | look i q =>
  let e:q=(p:Z)+1:=of_decide_eq_true hc;have:=Sa.2.2;lia
 | mark q =>
  let e:q=(p:Z)+1:=of_decide_eq_true hc;have:=Sa.2;lia
 | _=>cases hc
theorem Lx.out(h:Lx rs n)(hr:rs[p]?=!r)(hc:r.mK p=am):Lx (xN rs (p:Z)) n:=by
 let hp:=acN h.ok hr hc;let hl:=Lw (rs:=rs) (p:=p) ∅;show#[λR hR=>?_,λz=>by rw[z] at hl;have:0=bn-1:=hl;lia,by have:=h.len;lia];rw[hl];rw[Jo ∅] at hR;let#[r',TK,Y]:=aG.mp hR;let hm:r'∈rs:=by rcases aR.mp TK with h|h;show yJ _ _ h;show List.drop_subset _ _ h
 show Gv (h.ok r' hm) λq hq=>?_;let h1:=hq.1;let h2:=hq.2;unfold yp;split<;>show#[∅,∅]
noncomputable def Ly(m:Option Z)(n:Z):Bool:=match m with
 | none=>false
 | some d=>decide (d<=n)
def acO(n:Z)(rs:List bp):=Ly (pN rs) n=am
def AL(G:List bp->O):=∀(cs:List bp)(p:B)(r:bp),G cs->cs[p]?=!r->r.mK (p:Z)=am->G^xN cs (p:Z)
noncomputable def oV:Option Z->V
 | none=>.cH
 | some m=>.int m
inductive Se(vs:List V)(H:Hp)(Q:VK)(z:XK):Prop|mk(c:Addr)(us:List V)(rs:List Row)(z:vs=[¬c])(z:H c=!.lst us)(z:Rows H us rs)(z:(∀r∈rs,r.ok rs.length))(z:rs.length<=2000)(z:rs≠[])(z:∀H',az H H'->Q (oV^pN rs) H')
def Co(T:Txt w8 K_ m_):bK P_ w8 K_ m_ b_ fX 7 T.delay.f T.delay.d ["code"] Se :=
 (Gn T).imp λvs H Q E ⟨c,us,rs,h1,h2,h3,h4,h5,h6,q⟩=>#[c,us,rs,h1,h2,h3,h4,h5,h6,λz z=>#[λH' s no=>by have:=q H' s;rw[NH no] at this;show this,λm H' s d=>by have:=q H' s;rw[Cm d] at this;show this]]
inductive acP(vs:List V)(H:Hp)(Q:VK)(z:XK):Prop|mk(m:Option Int)(n:Int)(z:vs=[oV m,.int n])(z:Q (.bl^Ly m n) H)
def Ao:T.uw∩(1,acP):=by
 show T.uw.F.ok IK (λvs H Q E h=>?_) (λcdv A outer s H vs Q E hr h=>?_);let#[m,n,Y,_]:=h;rfl;let#[m,n,Y,q]:=h;show#[_,(ao^aD^vo (gf EC (pv 0) lH^i9 _)^vm^gf JQ (pv 0) (pv 1)^i9 _),?_];cases m with
 | none =>
  change(_:TS) (Ends.mk _ _ _ _) [!V.cH,!V.int n] H;k_in;lk;show q
 | some d =>
  change(_:TS) (Ends.mk _ _ _ _) [!V.int d,!V.int n] H;k_in;lk;show q
inductive acQ(vs:List V)(H:Hp)(Q:VK)(z:XK):Prop|mk(c:Addr)(us:List V)(rs:List Row)(n:Int)(G:List Row->Prop)(z:vs=[¬c,.int n])(z:H c=!.lst us)(z:Rows H us rs)(z:Lx rs 2000)(z:G rs)(z:AL G)(z:∀(g:Addr)(vs:List V)(cs:List Row)(H':Hp),az H H'->H g=none->H' g=!.lst vs->Rows H' vs cs->Lx cs 2000->G cs->Q (¬g) H')
set_option maxHeartbeats 40000000 in
theorem om:T.iP∩(9,acQ):=by
 exists T.iP,fT,#[c,us,rs,n,G,rfl,hc,rows,ht,hG,cG,q],"-=2d'jd 'T.lM 'BT.m8 *0-¾3-e{3F*2+­WnY/Cn .2*3oY/Ao ./Co */rJ .2*3*1+=2/rJ .2*3+®3@¿+<2",4;lk;ext l H1 n1;show jV (λk U' H'=>E4 λl vs IR p=>A9 (U'=[!.ref c,!.int n,!.ref l,!.int ((p:Nat):Int)]) (az H H') (H l=none) (H' l=!.lst vs) (Rows H' vs IR) (Lx IR 2000) (p<=IR.length) (G IR) (k=IR.length-p)) ?_ ?_;show#[_,l,us,rs,0,rfl,n1.same,n1.1,n1.self,rows.same n1.same,ht,aQ _,hG,rfl];clear n1;rintro k U' H2 ⟨l,vs,IR,p,rfl,s2,fl,N0,uL,Np,FC,hg,rfl⟩;let Os:=uL.length;let hln:=Np.len;lk
 .rename_i hlt;let hp:p<IR.length:=∅;obtain⟨r,TK⟩:∃r,IR[p]?=some r:=#[_,g7 hp];show ED (λH'=>az H2 H'/\r.mK p=true) (λH'=>az H2 H') ?_ ?_ ?_
  .lk;show#[l,p,vs,IR,r,rfl,N0,uL,TK,λH3 s3=>?_];let Iy:=s3 _ _ N0;let Aq:=uL.same s3;cases hcg:r.mK p with
   | false =>
    lk;show s3
   | true =>
    let ho:=Np.out TK hcg;let T5:=ho.len;lk;show#[l,p,vs,IR,rfl,Iy,Aq,∅,Np.ok,λc' Ps H4 H5 s4 n5 pT=>?_];let Lg:=s4.trans n5.same;let hc5:=n5.self;clear n5 s4;lk;show#[c',Ps,xN IR (p:Int),rfl,hc5,pT,ho.ok,T5,ho.ne,λH6 s6=>?_];lk;show#[_,n,rfl,?_];let s26:=(s3.trans Lg).trans s6;cases hsn:Ly (pN^xN IR (p:Int)) n with
    | false =>
     change C1 _ (.bl false) H6;lk;show s26
    | true =>
     change C1 _ (.bl true) H6;lk;show#[s26,rfl]
  .rintro H3 ⟨s3,hcg⟩;let ho:=Np.out TK hcg;let T5:=Lw (rs:=IR) (p:=p) hp;let Iy:=s3 _ _ N0;let Aq:=uL.same s3;lk;show#[l,p,vs,IR,rfl,Iy,Aq,∅,Np.ok,λc' Ps H4 H5 s4 n5 pT=>?_];let Wb:=(s2.trans s3).trans s4;show#[_,?_,c',Ps,xN IR (p:Int),p,rfl,Wb.trans n5.same,Wb.free n5.1,n5.self,pT,ho,∅,cG _ _ _ hg TK hcg,rfl];lia
  .intro H3 s3;lk;show#[_,?_,l,vs,IR,p+1,by simp,s2.trans s3,fl,s3 _ _ N0,uL.same s3,Np,hp,hg,rfl];lia
 .show q l vs IR H2 s2 fl N0 uL Np hg
inductive acR(vs:List V)(H:Hp)(Q:VK)(z:XK):Prop|mk(c:Addr)(us:List V)(rs:List Row)(n:Int)(G:List Row->Prop)(z:vs=[¬c,.int n])(z:H c=!.lst us)(z:Rows H us rs)(z:Lx rs 2000)(z:acO n rs)(z:G rs)(z:AL G)(z:∀(g:Addr)(vs:List V)(cs:List Row)(H':Hp),az H H'->H g=none->H' g=!.lst vs->Rows H' vs cs->Lx cs 2000->G cs->Q (¬g) H')
set_option maxHeartbeats 40000000 in
theorem WG:T.VW∩(10,acR):=by
 exists T.VW,qq,#[c,us,rs,n,G,rfl,hc,rows,ht,hsn,hG,cG,q],"-=2/Co *0-?gY/Ao .2*1+'OC -=30-=4/om .3*1-e{F*4F*3-=34+=4/om .3*1+<4",5;lk;show#[c,us,rs,rfl,hc,rows,ht.ok,ht.len,ht.ne,λH1 s1=>?_];let KM:=s1 _ _ hc;let Gy:=rows.same s1;lk;show#[_,n,rfl,?_];rw[show Ly (pN rs) n=true from hsn];change C1 _ (.bl true) H1;lk;show#[c,us,rs,n,G,rfl,KM,Gy,ht,hG,cG,λg vs fs H2 s2 fg hg uL t2 g2=>?_];let hc2:=s2 _ _ KM;let Jp:=s1.trans s2;let fg0:=s1.free fg;lk;show jV (λk U' H'=>E6 λy l vs gl ws fs=>A10 (U'=[!.ref c,!.int n,y,!.ref l,!.ref gl]) (az H H') (H' l=!.lst vs) (H gl=none) (H' gl=!.lst ws) (Rows H' ws fs) (Lx fs 2000) (G fs) (vs.length<=3000) (k=vs.length)) ?_ ?_;show#[_,_,c,us,g,vs,fs,rfl,Jp,hc2,fg0,hg,uL,t2,g2,by have:=ht.len;have:=rows.length;lia,rfl];clear Jp hc2 fg0 t2 g2 hg uL s2 KM Gy s1;rintro k U' H3 ⟨y,l,vs,gl,ws,fs,rfl,s3,Iy,fgl,acS,Aq,t3,g3,hv3,rfl⟩;let hwl:=Aq.length;let hfl:=t3.len;lk
 .rename_i hlt;show#[gl,ws,fs,n,G,rfl,acS,Aq,t3,g3,cG,λg2 vs2 fs2 H4 s4 Zf T3 agR t4 g4=>?_];lk;show#[_,∅,_,gl,ws,g2,vs2,fs2,rfl,s3.trans s4,s4 _ _ acS,s3.free Zf,T3,agR,t4,g4,∅,rfl]
 .show q gl ws fs H3 s3 fgl acS Aq t3 g3
inductive WH(vs:List V)(H:Hp)(Q:VK)(z:XK):Prop|mk(p:Addr)(us:List V)(rs:List Row)(z:vs=[¬p])(z:H p=!.lst us)(z:Rows H us rs)(z:(∀r∈rs,r.ok rs.length))(z:rs.length<=2000)(z:∀(d:Addr)(kvs:List (Key×V))(H':Hp),az H H'->H d=none->H' d=!.dK kvs->uJ H' rs kvs->Q (¬d) H')
theorem Sf:T.looks∩(5,WH):=by
 exists T.looks,FJ,#[p,us,rs,rfl,hp,T0,hok,hn,q],"-=1/Lb *0+<d!ÈÉ*]QE/RE *0O>.0*¸!*d!ÄÅ*º!OV!0@",2,wH rfl,"place",["lively"],[1],["lively"],E1 (w:=w8) rfl rfl,Io (K:=K_) (w:=w8) rfl rfl rfl,PR (K:=K_) rfl (aI (oY (K:=K_) rfl) (pv 1) (pv 0)),C5 (K:=K_) rfl;lk;show#[p,us,rs,Y,hp,T0,hok,hn,λlv as H1 s1 flv Ff NM z z z hL=>?_];lk;show#[p,us,rs,Y,s1 _ _ hp,T0.same s1,hok,∅,λmt H2 s2 z hmt=>?_];let Wi:=s2 _ _ Ff;let Yg:B9 H2 as rs:=λk a e=>let⟨vs,h1,h2⟩:=hL k a e;#[vs,s2 _ _ h1,h2.same s2];let Tk:=s1.trans s2;clear s1 s2 Ff hL;let mem:∀x∈gJ rs,∃j:B,x=(j:Z)/\j<bn/\e9 rs j=true:=λx hx=>by unfold gJ at hx;let#[j,hj,Y]:=aG.mp hx;let#[h1,h2]:=eW.mp hj;show#[j,Y,gD.mp h1,h2]
 let arL:(gJ rs).length<=rs.length:=by unfold gJ;rw[au];show aZ (kq _ _) (by rw[oJ];show aq _)
 lk;show iM (xs:=(gJ rs).map V.int) (λi ys H'=>az H2 H'/\∃ps:List (Key×V),zw H' ys ps/\cn=i/\∀(k:B)(x:Z),k<i->(gJ rs)[k]?=!x->∃b,ps[k]?=!(.inl x,¬b)/\H' b=!.lst^(cX rs x.toNat).map V.int) #[az.refl _,[],.nil,Y,λk x h=>absurd h^fz _] ?_ ?_ ?_;rintro i ys H' _ ⟨s',_⟩;show bJ.of^s' _ _ hmt
 .rintro i x ys H3 hx ⟨s3,ps,hP,WF,Ty⟩;rw[bB] at hx;let#[x,hxi,Y]:=cL.mp hx;let#[j,Y,hj,hmj]:=mem x^ie hxi;let GT:=(fK hxi).1;let Id:=kR hP;show#[cV ∅,?_];obtain⟨a,ha⟩:∃a,as[j]?=some a:=#[_,g7 ∅];let#[vs,Oy,RI]:=Yg j a ha;let amw:=s3 _ _ Oy;let amx:=RI.same s3;let Os:dv<=16:=by rw[RI.length];show pK ..
  lk;show cZ (bJ.of^s3 _ _ Wi) (v:=¬a) (dN (by rw[bB,ha];rfl)) ?_;lk;show iM (xs:=vs) (λk zs H'=>H'=H3/\zs=(((lu rs j).take k).map (·.2)).map V.int) #[Y,Y] ?_ ?_ ?_;rintro k zs H' _ ⟨rfl,_⟩;show bJ.of amw
  .rintro k y zs H' hy ⟨rfl,rfl⟩;let#[t,KF,b,Y,hb]:=bE amx hy;let hll:=pK rs j;show#[cV (by simp;lia),?_];lk;show#[Y,?_];rw[b8,KF,bf,bf];rfl
  .rintro zs H' ⟨rfl,rfl⟩ l H4 n4;rw[RI.length,cA] at n4;let T7:∀b∈(lu rs j).map (·.2),0<=b/\b<8:=λb hb=>by
    let#[t,ht,Y]:=aG.mp hb;let all:∀t∈dG,0<=t.2/\t.2<8:=()
    show all t (eW.mp ht).1
   let hl:=pK rs j;lk;show abN (bJ.of n4.self) (by rw[au];lia) ?_;intro st H5 n5;lk;show Kv n5.self T7 ?_;intro so H6 n6;let hso:=n6.self;let s36:=(n4.same.trans n5.same).trans n6.same;clear n4 n5 n6;lk;ext tu H7 n7;let s37:=s36.trans n7.same;show#[s3.trans s37,ps++[(.inl (j:Z),¬so)],?_,by simp[WF],λk y hk hy=>?_];show dY (dX (λz z zq=>?_) hP) #[tu,Y,n7.self];let#[t,e1,e2]:=zq;show#[t,e1,s37 _ _ e2];rcases bR k i with hlt|hge;let#[b,h1,h2]:=Ty k y hlt hy;show#[b,by rw[lC ∅];show h1,s37 _ _ h2];let ek:k=i:=∅;subst ek;rw[hxi] at hy;cases hy;show#[so,?_,n7.keep hso];rw[ko ∅,WF,Nat.sub_self];rfl
 .rintro ys H3 ⟨s3,ps,hP,WF,Ty⟩ l H4 n4;rw[au] at WF Ty;let hP4:zw H4 ys ps:=dX (λ_ _ ⟨t,e1,e2⟩=>#[t,e1,n4.keep e2]) hP;lk;show Yq (bJ.of n4.self) hP4 ?_;intro d H5 n5;let s25:=(s3.trans n4.same).trans n5.same;lk;show q d _ H5 (Tk.trans s25) (Tk.free^(s3.trans n4.same).free n5.1) n5.self λj hj=>#[λhm=>?_,λhm=>?_]
  all_goals
   let up:(gJ rs).Pairwise (· < ·):=by unfold gJ;rw[oN];show List.Pairwise.imp (λh=>Int.ofNat_lt.mpr h)^List.Pairwise.sublist List.filter_sublist CG
   let key:∀i,i<cn->∃x,(gJ rs)[i]?=!x/\(ps.getD i (.inl 0,.cH)).1=(.inl x:Key)/\∃b,(ps.getD i (.inl 0,.cH)).2=¬b/\H3 b=!.lst^(cX rs x.toNat).map V.int:=λi hi=>by obtain⟨x,hx⟩:∃x,(gJ rs)[i]?=some x:=#[_,g7 ∅];let#[b,h1,h2]:=Ty i x ∅ hx;show#[x,hx,by rw[getD_at h1],b,by rw[getD_at h1],h2]
  .have Rs:(j:Z)∈gJ rs:=by unfold gJ;show aG.mpr #[j,eW.mpr #[gD.mpr hj,hm],Y]
   let#[i,hi]:=ir.mp Rs;let GT:=(fK hi).1;let#[x,hx,hk,b,hb,hHb]:=key i ∅;rw[hi] at hx;cases hx;rw[iX] at hHb;show#[b,?_,((n4.same.trans n5.same) _ _ hHb)];have:=Al (ks:=λi=>(ps.getD i (.inl 0,.cH)).1) (vs:=λi=>(ps.getD i (.inl 0,.cH)).2) (n:=cn) (λa c ha hc e=>?_) i ∅;rw[<- hk,<- hb];show this;let#[x1,h1,k1,_]:=key a ha;let#[x2,h2,k2,_]:=key c hc;let e':(Sum.inl x1:Key)=Sum.inl x2:=k1.symm.trans^e.trans k2;cases e';show mD (up.imp λh=>∅) h1 h2
  .show oj λi hi e=>hm ?_;let#[x1,h1,k1,_]:=key i hi;let e':(Sum.inl x1:Key)=Sum.inl (j:Z):=k1.symm.trans e;cases e';let#[j',e1,_,SB]:=mem _^ie h1;have:j'=j:=∅;rw[<- this];show SB
inductive WI(vs:List V)(H:Hp)(Q:VK)(z:XK):Prop|mk(p d:Addr)(us:List V)(rs:List Row)(kvs:List (Key×V))(z:vs=[¬p,¬d])(z:H p=!.lst us)(z:Rows H us rs)(z:rs.length<=2000)(z:H d=!.dK kvs)(z:uJ H rs kvs)(z:∀(f:Addr)(H':Hp),az H H'->H f=none->H' f=!.lst ((List.range rs.length).map λp=>V.int^firstM rs p)->Q (¬f) H')
theorem xO:T.j0∩(1,WI):=by
 exists T.j0,dQ,#[p,d,us,rs,kvs,rfl,hp,T0,hn,hd,hL,q],"-=2J-¾3-Kt*0¢2UC4[C5-BL2*3Î?ÇáD41+®3^F*_D14¿+®3Sa:5rF*hÕ@¿+<2",6,(λz z=>rfl),(by with_unfolding_all rfl);let cD:=T.k9.q;let cS:=T.xm.q;let Ba:=T0.length;lk;ext f H1 n1;let ff:=n1.1;let s1:=n1.same;let hf1:=n1.self;clear n1;show C4 (xs:=us) (λi U' H'=>A3 ((E2 λx y=>U'=[!.ref p,!.ref d,!.ref f,!.int^firstM rs i,x,y])) (az H H') (H' f=!.lst ((List.range i).map λp=>V.int^firstM rs p))) ?_ ?_ ?_ ?_;show#[#[_,_,Y],s1,hf1];rintro i U' H' _ ⟨_,s',_⟩;show bJ.of^s' _ _ hp
 .rintro i x t U' H2 H3 hx ⟨⟨x0,y0,rfl⟩,s2,hf2⟩ n3;let hi:i<us.length:=(fK hx).1;let#[r,TK,ra,Y,lS]:=bE T0 hx;let s3:=s2.trans n3.same;let hf3:=n3.keep hf2;let xr:=s3 _ _ hd;let Ng:=s3 _ _ lS;let ht3:=n3.self;let hfl:((List.range i).map λp=>V.int^firstM rs p).length=i:=by simp
  let hdf:d≠f:=aE hd ff;let amz:ra≠f:=aE lS ff;clear n3 s2 hf2;let#[hL1,Yg]:=hL i ∅;lk;ext H4 p4;let s4:=p4.same s3 ff;let Nq:H4 f=!.lst ((List.range (i+1)).map λp=>V.int^firstM rs p):=by rw[p4.self,ve,bf];rfl
  let Oh:=p4.keep hdf xr;let NN:=p4.keep amz Ng;clear p4 xr Ng hf3 s3 ht3;show EA (λU' H'=>H'=H4/\U'=[!.ref p,!.ref d,!.ref f,!.int ((firstM rs i:Z)+dj rs i),!.int (i:Z),!.ref ra]) ?_ ?_
  .lk;by_cases hm:e9 rs i=am
   .let#[a,e1,e2]:=hL1 hm;let ha4:=s4 _ _ e2;rw[e1,if_pos (show(!V.ref a).isSome=am from Y)];lk;show afn Oh e1 ?_;lk;show#[Y,?_];unfold dj;rw[if_pos hm,au];have:(firstM rs i:Z)+((cX rs i).length+1:Z)=(firstM rs i:Z)+(((cX rs i).length+1:B):Z):=∅;rw[this]
   .rw[Yg hm,if_neg ()];lk;show#[Y,?_];unfold dj;rw[if_neg hm];simp
  rintro _ _ ⟨rfl,rfl⟩;let hdi:=yi r;let eN:firstM rs (i+1)=firstM rs i+(dj rs i+r.own):=by rw[firstM];unfold gB;rw[TK];rfl
  lk;rw[hdi];cases BL:r.g6 with
  | true =>
   rw[if_pos Y];lk;show#[#[!.int (i:Z),!.ref ra,?_],s4,Nq];have:(firstM rs (i+1):Z)=(firstM rs i:Z)+(dj rs i:Z)+2:=by rw[eN];unfold Row.own;rw[BL,if_pos Y];lia
   rw[this]
   first|rfl|skip
  | false =>
   rw[if_neg ()];lk;show#[#[!.int (i:Z),!.ref ra,?_],s4,Nq];have:(firstM rs (i+1):Z)=(firstM rs i:Z)+(dj rs i:Z)+1:=by rw[eN];unfold Row.own;rw[BL,if_neg ()];lia
   rw[this]
 .rintro U' H2 ⟨⟨x0,y0,rfl⟩,s2,hf2⟩;lk;rw[Ba] at hf2;show q f H2 s2 ff hf2
inductive NO(vs:List V)(H:Hp)(Q:VK)(z:XK):Prop|mk(a:Addr)(r:Row)(q:Int)(z:vs=[¬a,.int q])(z:H a=!.tup r.vals)(z:∀(l:Addr)(us:List V)(H':Hp),az H H'->H l=none->H' l=!.lst us->Rows H' us^r.dbl q->Q (¬l) H')
def Jq(r:bp)(h:r.g6=am):∃(ky:ax)(d:Z)(m:List V),r.vals=.str ky::.int d::m/\(2<=m.length/\m.length<=5)/\xF (.str ky) [.str "num", .str "copy", .str "op"]=am /\
  ∀q,∃r0 r1,r.dbl q=[r0,r1]/\r0.vals=(([.str ky]++[.int 0])++m.dropLast)++[.int (q+1)]/\r1.vals=([.str ky]++[.int 1])++m:=by cases r<;>first|(cases h;done)|show#[_,_,_,rfl,by simp,rfl,λq=>#[_,_,Y,Y,Y]]
theorem agS(a b:V)(m:List V):iI (a::b::m) bc^some 1=[a]/\iI (a::b::m) (!2)^some (-1)=m.dropLast/\iI (a::b::m) (!2) bc=m:=by show#[?_,?_,?_]<;>simp[iI,HT.gz,List.dropLast_eq_take]<;>lia
theorem Jr:T.doubled∩(1,NO):=by
 exists T.doubled,IJ,#[a,r,q1,rfl,ha,q],"-?kÖ:0r+<R*0+<R.¯¯¯À0Z>Npµ0Z¬X>*^1*¯¯À0Z>Npµ0Z}",2,(by with_unfolding_all rfl);let cD:=T.k9.q;by_cases hd:r.g6=am
 .let#[ky,d,m,e,#[m2,m5],Rs,hq]:=Jq r hd;let#[r0,r1,e0,e1,e2]:=hq q1;let#[c1,c2,c3]:=agS (.str ky) (.int d) m;let d0:m.dropLast.length=m.length-1:=List.length_dropLast;let dn:m.dropLast≠[]:=λz=>by rw[z] at d0;simp at d0;lia
  let mn:m≠[]:=λz=>by rw[z] at m2;simp at m2
  rw[e] at ha;rw[e0] at q;clear e hd hq e0;lk;rw[Rs];lk;show BD (eB.of ha) (by simp[HT.gz]) λp1 H1 n1=>?_;rw[c1] at n1;lk;ext p2 H2 n2;show vG (eB.of^n2.keep n1.self) (eB.of n2.self) (by simp) (by simp) (by simp) λp3 H3 n3=>?_;let s3:=(n1.same.trans n2.same).trans n3.same;let YW:=s3 _ _ ha;clear n1 n2;lk;show BD (eB.of YW) (by simp[HT.gz]) λp4 H4 n4=>?_;rw[c2] at n4;show vG (eB.of^n4.keep n3.self) (eB.of n4.self) (by simp) dn (by simp;lia) λp5 H5 n5=>?_;let s5:=(s3.trans n4.same).trans n5.same;let h5:=n5.self;clear n3 n4 n5 YW s3;lk;ext p6 H6 n6;show vG (eB.of^n6.keep h5) (eB.of n6.self) (by simp) (by simp) (by simp;lia) λp7 H7 n7=>?_;let s7:=(s5.trans n6.same).trans n7.same;let ha7:=s7 _ _ ha;let h7:=n7.self;rw[<- e1] at h7;clear n6 n7 h5 s5;lk;show BD (eB.of ha7) (by simp[HT.gz]) λp8 H8 n8=>?_;rw[c1] at n8;lk;ext p9 H9 n9;show vG (eB.of^n9.keep n8.self) (eB.of n9.self) (by simp) (by simp) (by simp) λLz Ca Bb=>?_;let oE:=(n8.same.trans n9.same).trans Bb.same;let Nk:=oE _ _ ha7;clear n8 n9;lk;show BD (eB.of Nk) (by simp[HT.gz]) λxw IY pM=>?_;rw[c3] at pM;show vG (eB.of^pM.keep Bb.self) (eB.of pM.self) (by simp) mn (by simp;lia) λNz Nj AN=>?_;let Tk:=(oE.trans pM.same).trans AN.same;let h12:=AN.self;rw[<- e2] at h12;let h7':=Tk _ _ h7;clear Bb pM AN Nk;lk;ext l YQ n13;show q l _ YQ ((s7.trans Tk).trans n13.same) ((s7.trans Tk).free n13.1) n13.self^.cons #[p7,Y,n13.keep h7']^.cons #[Nz,Y,n13.keep h12] .nil
 .have ha0:=ha;cases r<;>first|show absurd Y hd|(erw[Row.vals,Row.key,Row.rest] at ha;lk;ext l H1 n1;show q l _ H1 n1.same n1.1 n1.self^.cons #[a,Y,n1.keep ha0] .nil)
def vW{g:ae}(h:H g=!.lst us)(p:nU H g (.lst vs) H'):bT H H':=λb xs e=>p.keep (cB e h (by intro z;cases z)) e
def Sg{qs:List bp}(h1:Rows H us rs)(h2:Rows H vs qs):Rows H (us++vs) (rs++qs):=kI h1 h2
inductive Si(vs:List V)(H:Hp)(Q:VK)(z:XK):Prop|mk(p:Addr)(us:List V)(rs:List Row)(z:vs=[¬p])(z:H p=!.lst us)(z:Rows H us rs)(z:(∀r∈rs,r.ok rs.length))(z:rs.length<=2000)(z:∀(g:Addr)(vs:List V)(H':Hp),az H H'->H g=none->H' g=!.lst vs->Rows H' vs^b4 rs rs.length->Q (¬g) H')
set_option maxHeartbeats 40000000 in
theorem NP:T.Dt∩(6,Si):=by
 exists T.Dt,jf,#[p,us,rs,rfl,hp,T0,hok,hn,q],"-=1/Sf *0-=2/xO .0*1-=3J-Kt*0¢2UC4[C5-KEñD14JC6+BL3*>A.6*^F*3Î?ÇáD41+BL3*>A*^F*3+Bl3*/Jr ./uB .5*2*F*3+<3",7,#[rfl,rfl,rfl,rfl];let Ba:=T0.length;lk;show#[p,us,rs,rfl,hp,T0,hok,hn,λd kvs H1 s1 fd Qb hL1=>?_];lk;show#[p,d,us,rs,kvs,rfl,s1 _ _ hp,T0.same s1,hn,Qb,hL1,λf H2 s2 ff hf2=>?_];let PH:=s2 _ _ Qb;let Yg:=hL1.same s2;let Jp:=s1.trans s2;let FC:=Jp _ _ hp;let Rz:=T0.same Jp;clear s1 s2 Qb hL1;lk;ext g H3 n3;let Zf:H2 g=none:=n3.1;let s3:=n3.same;let hg3:=n3.self;clear n3;show C4 (xs:=us) (λi U' H'=>A3 ((E3 λx y z=>U'=[!.ref p,!.ref d,!.ref f,!.ref g,x,y,z])) (az H2 H') (∃vs,H' g=!.lst vs/\Rows H' vs^b4 rs i)) ?_ ?_ ?_ ?_;show#[#[_,_,_,rfl],s3,[],hg3,.nil];rintro i U' H' _ ⟨_,s',_⟩;show bJ.of^s' _ _ FC
 .rintro i x t U' H4 H5 hx ⟨⟨x0,y0,z0,rfl⟩,s4,vs,hg4,Oy⟩ n5;let hi:i<us.length:=(fK hx).1;let#[r,TK,ra,rfl,lS]:=bE Rz hx;let s5:=s4.trans n5.same;let hg5:=n5.keep hg4;let agU:=Oy.same n5.same;let VM:=s5 _ _ PH;let agV:=s5 _ _ lS;let ht5:=n5.self;let hdg:d≠g:=aE PH Zf;let Os:vs.length=firstM rs i:=by rw[Oy.length,fQ ∅]
  let hfl:=vU rs i;let#[hm1,KB]:=Yg i ∅;clear n5 s4 hg4 Oy;lk;ext dl H6 n6;let s6:=s5.trans n6.same;let hg6:=n6.keep hg5;let agW:=agU.same n6.same;let Wl:=n6.keep VM;let amB:=n6.keep agV;let amC:dl≠g:=(aE hg5 n6.1).symm;let agX:=n6.self;clear n6 hg5 agU VM agV s5 ht5;obtain⟨la,Lk,ela,hla,hlk,WJ⟩:∃la Lk,(dI kvs (.inl (i:Int))).getD (.ref dl)=.ref la/\H6 la=some (.lst (Lk.map V.int))/\Lk=(if e9 rs i=true then cX rs i else[])/\la≠g:=by by_cases hm:e9 rs i=true;let#[a,e1,e2]:=hm1 hm;show#[a,_,by rw[e1];rfl,s6 _ _ e2,by rw[if_pos hm],aE e2 Zf];show#[dl,[],by rw[KB hm];rfl,agX,by rw[if_neg hm],amC]
  let hLl:Lk.length<=8:=by rw[hlk];split;show Ak rs i;show aQ _
  rw[ela];lk;show f_list (xs:=Lk.map V.int) (λk U' H'=>A4 ((∃z,U'=[!.ref p,!.ref d,!.ref f,!.ref g,!.int (i:Int),!.ref ra,z])) (az H2 H') (H' la=!.lst^Lk.map V.int) (∃vs',H' g=!.lst vs'/\Rows H' vs' (b4 rs i++cK (firstM rs i)^Lk.take k))) ?_ ?_ ?_ ?_;show#[#[_,rfl],s6,hla,vs,hg6,by simpa[cK] using agW];rintro k U' H' _ ⟨_,_,h,_⟩;show bJ.of h
  .rintro k y U' H7 hy ⟨⟨z,rfl⟩,s7,RL,vs',hg7,Bf⟩;rw[bB] at hy;let#[b,hb,rfl]:=cL.mp hy;let xM:=(fK hb).1;let agZ:vs'.length=firstM rs i+k:=by rw[Bf.length,aP,fQ ∅,fk,bU];lia
   lk;ext t8 H8 n8 H9 p9;let hg8:=n8.keep hg7;let tt:=vW hg8 p9;show#[#[_,rfl],p9.same (s7.trans n8.same) Zf,p9.keep WJ^n8.keep RL,_,p9.self,?_];rw[b8,hb];change Rows H9 _ (b4 rs i++cK (firstM rs i) (Lk.take k++[b]));rw[pP,<- kh];show dY ((Bf.same n8.same).gp tt) #[t8,rfl,?_];let e:(firstM rs i:Int)+((Lk.take k).length:Int)+1=(vs'.length:Int)+1:=by rw[bU];lia
   rw[e];show tt _ _ n8.self
  .rintro U' H7 ⟨⟨z,rfl⟩,s7,RL,vs',hg7,Bf⟩;rw[au,cA] at Bf;let Ue:=s7 _ _ PH;let amD:=s7 _ _ lS;let agZ:vs'.length=firstM rs i+Lk.length:=by rw[Bf.length,aP,fQ ∅,fk]
   clear hg6 agW Wl amB agX hla s6;lk;show EA (λU' H'=>A3 (U'=[!.ref p,!.ref d,!.ref f,!.ref g,!.int (i:Int),!.ref ra,z]) (az H2 H') (∃vs2,H' g=!.lst vs2/\Rows H' vs2 (b4 rs i++Gp rs i))) ?_ ?_
   .lk;by_cases hm:e9 rs i=true
    .let#[a,e1,_]:=hm1 hm;rw[e1,if_pos (show(!V.ref a).isSome=true from rfl)];lk;ext t8 H8 n8 H9 p9;let hg8:=n8.keep hg7;let tt:=vW hg8 p9;show#[rfl,p9.same (s7.trans n8.same) Zf,_,p9.self,?_];unfold Gp;rw[if_pos hm,<- kh];rw[hlk,if_pos hm] at Bf agZ;show dY ((Bf.same n8.same).gp tt) #[t8,rfl,?_];let e:(firstM rs i:Int)+((cX rs i).length:Int)+1=(vs'.length:Int)+1:=∅;rw[e];show tt _ _ n8.self
    .rw[KB hm,if_neg ()];lk;show#[rfl,s7,vs',hg7,?_];unfold Gp;rw[if_neg hm];rw[hlk,if_neg hm] at Bf;simpa[cK] using Bf
   rintro _ H8 ⟨rfl,s8,vs2,hg8,Gk⟩;let amE:vs2.length=firstM rs i+dj rs i:=by rw[Gk.length,aP,fQ ∅,mJ]
   let hmn:=yk rs i;let ag0:=s8 _ _ lS;let YO:=s8 _ _ hf2;clear Ue amD hg7 Bf s7 RL;lk;show#[ra,f,r,_,iT rs,rfl,ag0,YO,λz hz=>?_,λt9 H9 s9 ht9=>?_];let hzb:=Row.nG (hok r^ie TK) z hz;let ez:z=((z.toNat:Nat):Int):=∅;let hzl:z.toNat<rs.length:=∅;have:=dN (xs:=(List.range rs.length).map λp=>V.int^firstM rs p) (j:=z.toNat) (v:=.int^firstM rs z.toNat) (by rw[bB,List.getElem?_range hzl];rfl);rw[<- ez] at this;show this;let hg9:=s9 _ _ hg8;let RU:=Gk.same s9;let s29:=s8.trans s9;clear s9 s8 hg8 Gk ag0 YO;lk;show#[t9,r.dP^iT rs,_,rfl,ht9,λl Oj Ca oE fl arT Zg=>?_];let WL:=oE _ _ hg9;let ag1:=RU.same oE;let amF:=s29.trans oE;let WJ:l≠g:=(aE hg9 fl).symm;let amG:Oj.length<=2:=by rw[Zg.length,qA];show vS r
   clear oE hg9 RU s29 ht9;lk;ext IY xw;let tt:=vW WL xw;show#[#[_,_,_,rfl],xw.same amF Zf,_,xw.self,?_];let e:b4 rs (i+1)=b4 rs i++Gp rs i++(r.dP^iT rs).dbl (vs2.length:Int):=by rw[b4,TK];change _++putAt rs i r=_;unfold putAt;rw[amE,<- kh,Int.natCast_add]
   rw[e];show Sg (ag1.gp tt)^Zg.gp tt
 .rintro U' H4 ⟨⟨x0,y0,z0,rfl⟩,s4,vs,hg4,Oy⟩;lk;rw[Ba] at Oy;show q g vs H4 (Jp.trans s4) (Jp.free Zf) hg4 Oy
inductive S where
 | num (x:Str) (n:Int)
 | copy (x a:Str)
 | op (x o a b:Str)
 | out (a:Str)
 | ifs (a:Str) (y n:List S)
 | rX (a:Str) (b:List S)
end
mutual
def dU(H:Hp):S->V->O
 | .num x n,v=>∃p,v=¬p/\H p=!.tup [.str "num", .str x,.int n]
 | .copy x a,v=>∃p,v=¬p/\H p=!.tup [.str "copy", .str x,.str a]
 | .op x o a b,v=>∃p,v=¬p/\H p=!.tup [.str "op", .str x,.str o,.str a,.str b]
 | .out a,v=>∃p,v=¬p/\H p=!.tup [.str "out", .str a]
 | .ifs a y n,v=>∃p py pn vy vn,v=¬p/\H p=!.tup [.str "if", .str a,¬py,¬pn]/\H py=!.tup vy/\H pn=!.tup vn/\bg H y vy/\bg H n vn
 | .rX a b,v=>∃p pb vb,v=¬p/\H p=!.tup [.str "while", .str a,¬pb]/\H pb=!.tup vb/\bg H b vb
def bg(H:Hp):List S->List V->O
 | [],vs=>vs=[]
 | s::ss,vs=>∃v vr,vs=v::vr/\dU H s v/\bg H ss vr
end
mutual
theorem dU.mono{H H':Hp}(e:bT H H'):∀(s:S)(v:V),dU H s v->dU H' s v
 | .num ..,v,h|.copy ..,v,h|.op ..,v,h|.out ..,v,h=>by
  erw[dU] at h ⊢;let#[p,h1,h2]:=h;show#[p,h1,e _ _ h2]
 | .ifs a y n,v,h=>by
  erw[dU] at h ⊢;let#[p,py,pn,vy,vn,h1,h2,h3,h4,h5,h6]:=h;show#[p,py,pn,vy,vn,h1,e _ _ h2,e _ _ h3,e _ _ h4,bg.mono e y vy h5,bg.mono e n vn h6]
 | .rX a b,v,h=>by erw[dU] at h ⊢;let#[p,pb,vb,h1,h2,h3,h4]:=h;show#[p,pb,vb,h1,e _ _ h2,e _ _ h3,bg.mono e b vb h4]
theorem bg.mono{H H':Hp}(e:bT H H'):∀(ss:List S)(vs:List V),bg H ss vs->bg H' ss vs
 | [],vs,h=>by
  erw[bg] at h ⊢;show h
 | s::ss,vs,h=>by erw[bg] at h ⊢;let#[v,vr,h1,h2,h3]:=h;show#[v,vr,h1,dU.mono e s v h2,bg.mono e ss vr h3]
end
theorem bg.append{ts:List S}{ws:List V}(h2:bg H ts ws):∀{ss:List S}{vs:List V},bg H ss vs->bg H (ss++ts) (vs++ws)
 | [],vs,h=>by
  erw[bg] at h;subst h;show h2
 | s::ss,vs,h=>by erw[bg] at h;let#[v,vr,Y,h1,h3]:=h;change bg H (s::(ss++ts)) (v::(vr++ws));erw[bg];show#[v,_,Y,h1,bg.append h2 h3]
def bg.one(h:dU H s v):bg H [s] [v]:=by erw[bg];show#[v,[],Y,h,Y]
theorem bg.length{H:Hp}:∀{ss:List S}{vs:List V},bg H ss vs->dv=ss.length
 | [],vs,h=>by
  erw[bg] at h;subst h;rfl
 | s::ss,vs,h=>by erw[bg] at h;let#[v,vr,Y,_,h3]:=h;simp[bg.length h3]
theorem bg.get:∀{ss:List S}{vs:List V}{i:B}{v:V},bg H ss vs->vs[i]?=!v->∃s,ss[i]?=!s/\dU H s v
 | [],vs,i,v,h,e=>by
  erw[bg] at h;subst h;simp at e
 | s::ss,vs,0,v,h,e=>by
  erw[bg] at h;let#[w8,vr,Y,h1,h3]:=h;simp at e;subst e;show#[s,Y,h1]
 | s::ss,vs,i+1,v,h,e=>by erw[bg] at h;let#[w8,vr,Y,h1,h3]:=h;let#[t,e1,e2]:=bg.get (i:=i) (v:=v) h3 (by simpa using e);show#[t,by simpa using e1,e2]
mutual
noncomputable def S.rows:S->B
 | .ifs _ y n=>3+S.bM y+S.bM n
 | .rX _ b=>3+S.bM b
 | _=>1
noncomputable def S.bM:List S->B
 | []=>0
 | s::ss=>s.rows+S.bM ss
end
theorem gK(ss ts:List S):S.bM (ss++ts)=S.bM ss+S.bM ts:=by
 induction ss with
 | nil=>simp[S.bM]
 | cons s ss ih=>simp[S.bM,ih];lia
mutual
def S.ok(N:ax->O):S->O
 | .num x n=>N x/\0<=n/\n<281474976710656
 | .copy x a=>N x/\N a
 | .op x o a b=>N x/\o∈(["+", "-", "*", "/", "<", "=", "&", "|", "^"]:List ax)/\N a/\N b
 | .out a=>N a
 | .ifs a y n=>N a/\S.rK N y/\S.rK N n
 | .rX a b=>N a/\S.rK N b
def S.rK(N:ax->O):List S->O
 | []=>True
 | s::ss=>S.ok N s/\S.rK N ss
end
def nL{ts:List S}(h1:S.rK N ss)(h2:S.rK N ts):S.rK N (ss++ts):=by
 induction ss with
 | nil=>show h2
 | cons s ss ih =>
  erw[S.rK] at h1;erw[ki,S.rK];show#[h1.1,ih h1.2]
def WM(h:S.ok N s):S.rK N [s]:=by erw[S.rK];show#[h,trivial]
mutual
noncomputable def S.c9:S->List S
 | .ifs a y n=>.ifs a y n::(S.bA y++S.bA n)
 | .rX a b=>.rX a b::S.bA b
 | s=>[s]
noncomputable def S.bA:List S->List S
 | []=>[]
 | s::ss=>s.c9++S.bA ss
end
def nM(ss ts:List S):S.bA (ss++ts)=S.bA ss++S.bA ts:=by
 induction ss with
 | nil=>simp[S.bA]
 | cons s ss ih=>simp[S.bA,ih]
mutual
theorem NQ:∀s:S,s.c9.length<=s.rows
 | .num .. | .copy .. | .op .. | .out ..=>by simp[S.c9,S.rows]
 | .ifs a y n=>by
  let h1:=gM y;let h2:=gM n;erw[S.c9,S.rows,bW,aP];lia
 | .rX a b=>by let h1:=gM b;erw[S.c9,S.rows,bW];lia
theorem gM:∀ss:List S,(S.bA ss).length<=S.bM ss
 | []=>by simp[S.bA,S.bM]
 | s::ss=>by let h1:=NQ s;let h2:=gM ss;erw[S.bA,S.bM,aP];lia
end
theorem uM:∀{ss:List S}{i:B}{s:S},ss[i]?=!s->S.bM^ss.take i+s.rows<=S.bM ss
 | [],i,s,e=>by simp at e
 | t::ss,0,s,e=>by
  simp at e;subst e;erw[List.take_zero,S.bM];lia
 | t::ss,i+1,s,e=>by have:=uM (ss:=ss) (i:=i) (s:=s) (by simpa using e);erw[List.take_succ_cons,S.bM];lia
noncomputable def S.own:S->List ax
 | .num x _=>[x]
 | .copy x a=>[x,a]
 | .op x _ a b=>[x,a,b]
 | .out a=>[a]
 | .ifs a _ _=>[a]
 | .rX a _=>[a]
def WN(s:S):s.own.length<=3:=by cases s<;>simp[S.own]
def cQ(ss:List S):List Str:=ss.flatMap S.own
theorem Ar(ss:List S):(cQ ss).length<=3*ss.length:=by
 induction ss with
 | nil=>simp[cQ]
 | cons s ss ih =>
  have:=WN s;erw[cQ,oH,aP,bW] at ih ⊢;lia
noncomputable def jD(Xt:List ax)(x:ax):List Str:=if x∈Xt then Xt else Xt++[x]
def gr(xs:List ax):List Str:=xs.foldl jD []
def DK(xs ys:List ax):gr (xs++ys)=ys.foldl jD^gr xs:=List.foldl_append ..
theorem NR(Xt:List ax)(x:ax):(jD Xt x).length<=Xt.length+1:=by unfold jD;split;lia;simp
theorem qB(xs:List ax):(gr xs).length<=xs.length:=by
 have:∀(xs Xt:List ax),(xs.foldl jD Xt).length<=Xt.length+xs.length:=by
  intro xs;induction xs with
  | nil=>intro Xt;simp
  | cons x xs ih =>
   intro Xt;let h1:=ih^jD Xt x;let h2:=NR Xt x;erw[List.foldl_cons,bW];lia
 have:=this xs [];simpa[gr] using this
noncomputable def gS(xs:List ax):List (Key×V):=xs.map λx=>(Sum.inr x,V.bl am)
def vX(Xt:List ax)(x:ax):putK (gS Xt) (.inr x)^.bl am=gS^jD Xt x:=by
 let ea:((gS Xt).any λkv=>decide (kv.1=Sum.inr x))=decide (x∈Xt):=by
  unfold gS;rw[List.any_map];induction Xt with
  | nil=>simp
  | cons y Xt ih =>
   rw[lA,ih];by_cases e:y=x;simp[e];let e':Not (x=y):=λh=>e h.symm;simp[e,e']
 unfold putK jD;rw[ea];by_cases h:x∈Xt;rw[if_pos^decide_eq_true h,if_pos h];unfold gS;rw[gC];show yH λy z=>?_;change(if(Sum.inr y:Key)=Sum.inr x then((Sum.inr y:Key),V.bl am) else(Sum.inr y,V.bl am))=_;split<;>rfl;rw[if_neg^by simpa using h,if_neg h];unfold gS;rw[bf];rfl
def vY(xs:List ax):(gS xs).length=xs.length:=au _
def Js(xs:List ax):(gS xs).map (λz=>kV z.1)=xs.map V.str:=by unfold gS;rw[gC];rfl
def bg.cons_inv(h:bg H (s::ss) vs):∃v vr,vs=v::vr/\dU H s v/\bg H ss vr:=by simpa only[bg] using h
theorem iD(ts:List S):ts.length<=S.bM ts:=by
 induction ts with
 | nil=>simp
 | cons t ts ih =>
  have:1<=t.rows:=by cases t<;>erw[S.rows]<;>lia
  erw[S.bM,bW];lia
inductive NS(vs:List V)(H:Hp)(Q:VK)(z:XK):Prop|mk(p:Addr)(vb:List V)(ss:List S)(z:vs=[¬p])(z:H p=!.tup vb)(z:bg H ss vb)(z:S.bM ss<=100000)(z:∀(l:Addr)(vf:List V)(H':Hp),az H H'->H l=none->H' l=!.lst vf->bg H' (S.bA ss) vf->Q (¬l) H')
def acU(H:Hp)(ss:List S)(p co fo:ae)(k:B)(U':L2.St)(H':Hp):=∃(done rest:List S)(vd vr:List V)(st kk:Option V),U'=[!.ref p,!.ref co,!.ref fo,st,kk]/\az H H'/\H' co=!.lst vr.reverse/\H' fo=!.lst vd/\bg H' done vd/\bg H' rest vr/\S.bA ss=done++S.bA rest/\S.bM rest<=100000/\k=(S.bA rest).length
section
variable (T:Txt w8 K_ m_)
theorem jE:T.jz∩(1,NS):=by
 exists T.jz,jx,#[p,vb,ss,rfl,hp,TD,fU,q],"-=1â0-=2J-e£1-=3¤1-BL2*3+Kãòh'T.j8.wX :3wC4+Bl1*âVÌ34+<2",5,(λj=>rfl),#[rfl,rfl,rfl,rfl];let hfl:=gM ss;let cI:=T.j8.tU;let cW:=T.j8.tV;lk;ext co H1 n1 fo H2 n2;let WO:H co=none:=n1.1;let YL:H fo=none:=n1.same.free n2.1;let nco:co≠fo:=n2.ne n1.self;let Sj:=n2.keep n1.self;let Ab:=n2.self;let s2:az H H2:=n1.same.trans n2.same;clear n1 n2;show jV (acU H ss p co fo) ?_ ?_;show#[_,[],ss,[],vb,none,none,Y,s2,Sj,Ab,Y,bg.mono (sT s2) _ _ TD,Y,fU,Y]
 .rintro k U' H3 ⟨done,rest,vd,vr,st,kk,rfl,s3,DL,uC,hd,hre,acV,hrr,rfl⟩;clear Sj Ab s2;let Hm:vd.length=done.length:=hd.length;let arU:done.length+(S.bA rest).length<=100000:=by have:=congrArg List.length acV;rw[aP] at this;lia
  cases rest with
  | nil =>
   erw[bg] at hre;subst hre;rw[List.reverse_nil] at DL;lk;show q fo vd H3 s3 YL uC ?_;rw[acV];erw[S.bA,ck];show hd
  | cons x rs =>
   let#[v,vr',Y,hx,T0]:=hre.cons_inv;rw[qX] at DL;lk;show C2 (by simp) ?_;lk;show s_pop DL (y:=v) (by simp) ?_;intro H4 p4;rw[List.dropLast_concat] at p4;let Sk:=p4.keep (aM nco) uC;let tt4:bT H3 H4:=λb xs e=>p4.keep (cB e DL (by intro z;cases z)) e;let s4:=p4.same s3 WO;let ag3:=p4.self;let hx4:=dU.mono tt4 _ _ hx;let RA:=bg.mono tt4 _ _ T0;let Oh:=bg.mono tt4 _ _ hd;clear p4 DL uC tt4 hx T0 hre hd s3;let hvd:vd.length<=100000:=∅;lk;ext H5 p5;let Gz:=p5.keep nco ag3;let tt5:bT H4 H5:=λb xs e=>p5.keep (cB e Sk (by intro z;cases z)) e;let s5:=p5.same s4 YL;let Sl:=p5.self;let hx5:=dU.mono tt5 _ _ hx4;let ag4:=bg.mono tt5 _ _ RA;let VM:=bg.mono tt5 _ _ Oh;clear p5 ag3 Sk tt5 hx4 RA Oh s4;let hvr:=ag4.length;let fin:∀(H6:Hp)(kk':Option V)(ys:List S)(vy:List V),az H H6->bT H5 H6->H6 co=!.lst ((vy++vr').reverse)->H6 fo=!.lst (vd++[v])->bg H6 ys vy->x.c9=x::S.bA ys->S.bM ys<=x.rows ->
     ∃m',m'<(S.bA (x::rs)).length/\acU H ss p co fo m' [!V.ref p,!.ref co,!.ref fo,!v,kk'] H6:=by
    intro H6 kk' ys vy a1 a2 a3 a4 a5 a6 a7;let e:S.bA (x::rs)=x::S.bA (ys++rs):=by rw[nM];erw[S.bA];rw[a6];rfl
    show#[_,?_,done++[x],ys++rs,vd++[v],vy++vr',!v,kk',Y,a1,a3,a4,bg.append (bg.one^dU.mono a2 _ _ hx5)^bg.mono a2 _ _ VM,bg.append (bg.mono a2 _ _ ag4) a5,?_,?_,Y];rw[e,bW];lia;rw[acV,e];simp;rw[gK];erw[S.bM] at hrr;lia
   let Os:vr'.length<=100000:=by have:=iD rs;erw[S.bM] at hrr;lia
   let GM:∀(t:ae)(H6:Hp),gU H5 t (.tup []) H6->x.c9=[x]->∃m',m'<(S.bA (x::rs)).length/\acU H ss p co fo m' [!V.ref p,!.ref co,!.ref fo,!v,kk] H6:=λt H6 n6 e =>
    fin H6 kk [] [] (s5.trans n6.same) (sT n6.same) (n6.keep Gz) (n6.keep Sl) Y (by rw[e];rfl)^aQ _
   cases x with
   | num|copy|op|out =>
    erw[dU] at hx5;let#[pv,Y,uG]:=hx5;lk;ext t H6 n6;change EL K_ _ (¬t) H6;show Dc (eB.of n6.self)^Vr (eB.of n6.self) ?_;walk_at "nxd";show GM t H6 n6 Y
   | ifs a y n =>
    erw[dU] at hx5;let#[pv,py,pn,vy,vn,Y,uG,hpy,hpn,hy,hn]:=hx5;clear GM;lk;ext t H6 n6;let Ju:=n6.keep Gz;let NT:=n6.keep Sl;let amH:=n6.keep uG;let arV:=n6.keep hpy;let arW:=n6.keep hpn;let s6:=s5.trans n6.same;let tt6:=sT n6.same;clear n6 Gz Sl uG hpy hpn;change EL K_ _ (¬T.j8.jY) H6;show Dc (cI H6) ?_;show Kg (xs:=[.int 2,.int 3]) (λH=>cI H) ?_;erw[qX,List.reverse_nil,List.nil_append,ki,Og];let hry:S.bM y<=100000/\S.bM n<=100000/\S.bM rs<=100000:=by erw[S.bM,S.rows] at hrr;lia
    let l1:vr'.reverse.length<=100000:=by simpa using Os
    let l2:vn.reverse.length<=100000:=by have:=iD n;rw[lE,hn.length];lia
    let l3:vy.reverse.length<=100000:=by have:=iD y;rw[lE,hy.length];lia
    let l4:(vr'.reverse++vn.reverse).length<=2000000:=by rw[aP];lia
    lk;ext la H7 n7 H8 p8 lb H9 n9 Ca Lz;let Bg:=n7.keep Ju;let c8:=p8.self;let NU:=n9.keep c8;let tt8:bT H7 H8:=λb xs e=>p8.keep (cB e Bg (by intro z;cases z)) e;let Sm:bT H9 Ca:=λb xs e=>Lz.keep (cB e NU (by intro z;cases z)) e;let tt:=(((tt6.trans^sT n7.same).trans tt8).trans^sT n9.same).trans Sm;let oE:az H Ca:=Lz.same ((p8.same (s6.trans n7.same) WO).trans n9.same) WO;show fin Ca _ (y++n) (vy++vn) oE tt ?_ (Lz.keep (aM nco)^n9.keep^p8.keep (aM nco)^n7.keep NT) (bg.append (bg.mono tt _ _ hn)^bg.mono tt _ _ hy) ?_ ?_;rw[Lz.self];simp;erw[S.c9,nM];rw[gK];erw[S.rows];lia
   | rX a b =>
    erw[dU] at hx5;let#[pv,pb',vb',Y,uG,GA,hb]:=hx5;clear GM;lk;ext t H6 n6;let Ju:=n6.keep Gz;let NT:=n6.keep Sl;let amH:=n6.keep uG;let arY:=n6.keep GA;let s6:=s5.trans n6.same;let tt6:=sT n6.same;clear n6 Gz Sl uG GA;change EL K_ _ (¬T.j8.jZ) H6;show Dc (cW H6) ?_;show Kg (xs:=[.int 2]) (λH=>cW H) ?_;erw[qX,List.reverse_nil,List.nil_append,ki,Og];let hry:S.bM b<=100000:=by erw[S.bM,S.rows] at hrr;lia
    let l1:vr'.reverse.length<=100000:=by simpa using Os
    let l3:vb'.reverse.length<=100000:=by have:=iD b;rw[lE,hb.length];lia
    lk;ext la H7 n7 H8 p8;let Bg:=n7.keep Ju;let tt8:bT H7 H8:=λb xs e=>p8.keep (cB e Bg (by intro z;cases z)) e;let tt:=(tt6.trans^sT n7.same).trans tt8;show fin H8 _ b vb' (p8.same (s6.trans n7.same) WO) tt ?_ (p8.keep (aM nco)^n7.keep NT) (bg.mono tt _ _ hb) ?_ ?_;rw[p8.self];simp;erw[S.c9];erw[S.rows];lia
def GB(H:Hp)(ps:List ax)(ss:List S)(gX:ax)(v:V):=∃p pp pb vb,v=¬p/\H p=!.tup [¬pp,¬pb,.str gX]/\H pp=!.tup^ps.map V.str/\H pb=!.tup vb/\bg H ss vb
theorem GB.mono{H H':Hp}{ps:List ax}{ss:List S}{gX:ax}{v:V}(e:az H H')(h:GB H ps ss gX v):GB H' ps ss gX v:=by let#[p,pp,pb,vb,h1,h2,h3,h4,h5]:=h;show#[p,pp,pb,vb,h1,e _ _ h2,e _ _ h3,e _ _ h4,bg.mono (sT e) _ _ h5]
def NV(h:ss[i]?=!s):cQ^ss.take (i+1)=cQ^ss.take i++s.own:=by unfold cQ;rw[b8,h,yD];simp
def vZ(xs:List ax)(x:ax):gr (xs++[x])=jD (gr xs) x:=by rw[DK];rfl
inductive DN(vs:List V)(H:Hp)(Q:VK)(z:XK):Prop|mk(v:V)(ps:List Str)(ss:List S)(gX:Str)(z:vs=[v])(z:GB H ps ss gX v)(z:S.bM ss<=100000)(z:∀H',az H H'->Q (.int (S.bA ss).length) H')
def Bh:T.nC∩(2,DN):=by exists T.nC,AY,#[v,ps,ss,gX,rfl,hp,fU,q],"+<F*/jE *:0",1;let#[pa,pp,pb,vb,Y,hpa,Fu,GA,TD]:=hp;lk;show#[pb,vb,ss,Y,GA,TD,fU,λl vf H' s1 z hl hf=>?_];lk;rw[hf.length];show q H' s1
inductive NW(vs:List V)(H:Hp)(Q:VK)(z:XK):Prop|mk(v:V)(ps:List Str)(ss:List S)(gX:Str)(z:vs=[v])(z:GB H ps ss gX v)(z:ps.length<=10000)(z:S.bM ss<=100000)(z:∀l H',az H H'->H l=none->H' l=!.lst^(gr (ps++cQ^S.bA ss++[gX])).map V.str->Q (¬l) H')
def NmI(H:Hp)(ss:List S)(ps:List ax)(pa d l:ae)(nm:Option V)(vf:List V)(i:B)(U':L2.St)(H':Hp):=∃st kk,U'=[!.ref pa,!.ref d,nm,st,kk]/\az H H'/\H' l=!.lst vf/\bg H' (S.bA ss) vf/\H' d=!.dK^gS^gr (ps++cQ^(S.bA ss).take i)
theorem GC:T.um∩(2,NW):=by
  show T.um.F.ok jy (λvs H Q E h=>?_) (λcdv A outer s H vs Q E hr h=>?_)
  · let#[v,ps,ss,gX,Y,_]:=h
    rfl
  let#[v,ps,ss,gX,Y,hp,Ty,fU,q]:=h;show#[_,(ak (bu 1 jy.nd sI)^ak (dZ bH Y (yP^aI aA (pv 0) ai) (fH 2 jy.nd)^ao^jU (d9 hr) (pv 1) (pv 2) ku Y)^ak (dZ bH Y (cC^aK T.jz (jE T) hr^aa (aI aA (pv 0) ai) af) (fH 3 jy.nd)^ao^dZ bH Y (yP^zm T.jB.zV (jw T.jB.zU) (aI aA (pv 3) ai) (λj j=>rfl)) (fH 4 jy.nd)^ao^jU (d9 hr) (pv 1) (aI aA (pv 3)^pv 4) ku Y)^ak (jU (d9 hr) (pv 1) (aI aA (pv 0) ai) ku Y)^ao^aD^bN (zx Y) Y T.lM BT.m8^aa (pv 1) af),?_];change(_:TS) (Ends.mk _ _ _ _) [_,_,_,_,_] H;let#[pa,pp,pb,vb,Y,hpa,Fu,GA,TD]:=hp;let hfl:=gM ss;k_in;lk;ext d H1 n1;let fd:H d=none:=n1.1;let Qb:H1 d=!.dK^gS^gr^ps.take 0:=n1.self;let s1:=n1.same;clear n1;show f_tup (xs:=ps.map V.str) (λi U' H'=>∃nm,U'=[!.ref pa,!.ref d,nm,none,none]/\az H H'/\H' d=!.dK^gS^gr^ps.take i) #[none,Y,s1,Qb] ?_ ?_ ?_
  · rintro i U' H' _ ⟨nm,rfl,s',_⟩
    show eB.of^s' _ _ Fu
  · rintro i x U' H2 hx ⟨nm,rfl,s2,PH⟩
    rw[bB] at hx;let#[z,hz,Y]:=cL.mp hx;let hi:=(fK hz).1;let xM:(gS^gr^ps.take i).length<=10000:=by have:=qB^ps.take i;rw[vY];rw[bU] at this;lia
    clear Qb s1;lk;ext H3 p3;show#[_,Y,p3.same s2 fd,?_];rw[p3.self,vX,b8,hz];change _=!HO.dK^gS^gr (ps.take i++[z]);rw[vZ]
  rintro U' H2 ⟨nm,rfl,s2,PH⟩;rw[au,cA] at PH;clear Qb s1;let amI:=s2 _ _ hpa;let ag7:=s2 _ _ GA;let Zh:=bg.mono (sT s2) _ _ TD;lk;show#[pb,vb,ss,Y,ag7,Zh,fU,λl vf H3 s3 fl hl hf=>?_];let xr:=s3 _ _ PH;let uW:=s2.trans s3;let Os:=hf.length;let ndl:d≠l:=aE PH fl;clear PH amI ag7 Zh;lk;show f_list (xs:=vf) (NmI H ss ps pa d l nm vf) ?_ ?_ ?_ ?_
  · show#[none,none,Y,uW,hl,hf,by simpa[cQ] using xr]
  · rintro i U' H' _ ⟨st,kk,rfl,s',FS,_⟩
    show bJ.of FS
  · rintro i x U' H4 hx ⟨st,kk,rfl,s4,YV,Nq,Oh⟩
    let#[t,ht,hrt]:=Nq.get hx;let hi:=(fK hx).1;clear xr hl hf uW s2 s3;let xM:∀ys:List ax,cf<=3->(gS^gr (ps++cQ^(S.bA ss).take i++ys)).length<=900000:=λys hy=>by let h1:=qB (ps++cQ^(S.bA ss).take i++ys);let h2:=Ar^(S.bA ss).take i;rw[bU] at h2;rw[aP,aP] at h1;rw[vY];lia
    let k0:=xM [] (by simp);rw[ck] at k0;let step:∀(Ha Hb:Hp)(ys:List ax)(y:ax),Ha d=!.dK^gS^gr (ps++cQ^(S.bA ss).take i++ys)->nU Ha d (.dK^putK (gS^gr (ps++cQ^(S.bA ss).take i++ys)) (.inr y)^.bl am) Hb->cf<=2->Hb d=!.dK^gS^gr (ps++cQ^(S.bA ss).take i++(ys++[y]))/\(gS^gr (ps++cQ^(S.bA ss).take i++(ys++[y]))).length<=900000:=λHa Hb ys y h p hy=>#[by
      rw[p.self,vX,<- kh,vZ],xM _ (by simp;lia)]
    let tup:∀{Ha Hb:Hp}{o:HO}{kvs:List (Key×V)},nU Ha d o Hb->Ha d=!.dK kvs->bT Ha Hb:=λp h b xs e=>p.keep (cB e h (by intro z;cases z)) e;let fin:∀(Hb:Hp)(Ts kk':Option V)(ys:List ax),az H Hb->bT H4 Hb->Hb l=!.lst vf->Hb d=!.dK^gS^gr (ps++cQ^(S.bA ss).take i++ys)->t.own=ys->NmI H ss ps pa d l nm vf (i+1) [!V.ref pa,!.ref d,nm,Ts,kk'] Hb:=λHb Ts kk' ys a1 a2 a3 a4 a5=>#[Ts,kk',Y,a1,a3,bg.mono a2 _ _ Nq,by rw[NV ht,a5,<- kh];show a4];let ag8:H4 d=!.dK^gS^gr (ps++cQ^(S.bA ss).take i++[]):=by rw[ck];show Oh
    let nld:l≠d:=aM ndl;clear Oh;let c0:=T.jB.wZ;let c1:=T.jB.w5;let c2:=T.jB.w6;let c3:=T.jB.xg;let c4:=T.jB.xh;let c5:=T.jB.xj;let k0:=xM [] (by simp);let tt:bT H4 H4:=λj j e=>e;let hd:=ag8;cases t
    all_goals
      clear ag8;erw[dU] at hrt
      first
        | let#[pv,_,_,_,_,Y,uG,_]:=hrt
        | let#[pv,_,_,Y,uG,_]:=hrt
        | let#[pv,Y,uG]:=hrt
      lk;show abH (λH=>by first|show c0 H|show c1 H|show c2 H|show c3 H|show c4 H|show c5 H) ?_;erw[Og]
      iterate 4 all_goals
        first
          | show fin _ _ _ _ s4 tt YV hd Y
          | (lk
             ext Hb pb;let t1:=tup pb hd;replace uG:=t1 _ _ uG;replace tt:=tt.trans t1;replace s4:=pb.same s4 fd;replace YV:=pb.keep nld YV;let hk:=step _ _ _ _ hd pb (by simp);clear hd k0 pb t1;let#[hd,k0]:=hk)
  · rintro U' H4 ⟨st,kk,rfl,s4,YV,Nq,Oh⟩
    rw[Os,cA] at Oh;let ar0:=s4 _ _ hpa;let xM:(gS^gr (ps++cQ^S.bA ss)).length<=900000:=by let h1:=qB (ps++cQ^S.bA ss);let h2:=Ar^S.bA ss;rw[aP] at h1;rw[vY];lia
    clear xr hl hf uW s2 s3;lk;ext H5 p5 lo H6 n6;show q lo H6 ((p5.same s4 fd).trans n6.same) ((p5.same s4 fd).free n6.1) ?_;rw[n6.self,vX,<- vZ,Js]
def S.cnt(s:S):Nat:=s.c9.length
def b6(ss:List S):Nat:=(S.bA ss).length
def gO(s:S)(ss:List S):b6 (s::ss)=s.cnt+b6 ss:=by unfold b6 S.cnt;erw[S.bA,aP]
def xy(ss ts:List S):b6 (ss++ts)=b6 ss+b6 ts:=by unfold b6;rw[nM,aP]
def WQ(s:S):1<=s.cnt:=by unfold S.cnt;cases s<;>simp[S.c9]
theorem yq(a:ax)(y n:List S):(S.ifs a y n).cnt=1+(b6 y+b6 n):=by unfold S.cnt b6;erw[S.c9,bW,aP];lia
theorem yr(a:ax)(b:List S):(S.rX a b).cnt=1+b6 b:=by unfold S.cnt b6;erw[S.c9,bW];lia
end
mutual
noncomputable def dH(bx:ax->Z)(p e:Z):S->List bp
 | .num x n=>[.num 2 (bx x) n e]
 | .copy x a=>[.copy 2 (bx x) (bx a) e]
 | .op x o a b=>[.op 2 o (bx x) (bx a) (bx b) e]
 | .out a=>[.out (bx a) e]
 | .ifs a y n=>.fork (bx a) (if y.isEmpty then e else p+1) (if n.isEmpty then e else p+1+b6 y)::(gu bx (p+1) e y++gu bx (p+1+b6 y) e n)
 | .rX a b=>.fork (bx a) (if b.isEmpty then p else p+1) e::gu bx (p+1) p b
noncomputable def gu(bx:ax->Z)(p e:Z):List S->List bp
 | []=>[]
 | s::ss=>dH bx p (if ss.isEmpty then e else p+s.cnt) s++gu bx (p+s.cnt) e ss
end
noncomputable def gw:List S->Z->Z->List (S×Z)
 | [],_,_=>[]
 | s::ss,p,e=>(s,if ss.isEmpty then e else p+s.cnt)::gw ss (p+s.cnt) e
noncomputable def kL(bx:ax->Z):Z->List (S×Z)->List bp
 | _,[]=>[]
 | p,z::L=>dH bx p z.2 z.1++kL bx (p+z.1.cnt) L
theorem kM(bx:ax->Z)(e:Z):∀(ss:List S)(p:Z),kL bx p^gw ss p e=gu bx p e ss
 | [],_=>by erw[gw,kL,gu]
 | s::ss,p=>by erw[gw,kL,gu];rw[kM bx e ss]
mutual
theorem Cp(bx:ax->Z):∀(s:S)(p e:Z),(dH bx p e s).length=s.cnt
 | .num ..,_,_|.copy ..,_,_|.op ..,_,_|.out ..,_,_=>by erw[dH];rfl
 | .ifs a y n,p,e=>by
  erw[dH,bW,aP];rw[j9 bx y,j9 bx n,yq];lia
 | .rX a b,p,e=>by erw[dH,bW];rw[j9 bx b,yr];lia
theorem j9(bx:ax->Z):∀(ss:List S)(p e:Z),(gu bx p e ss).length=b6 ss
 | [],_,_=>by erw[gu];rfl
 | s::ss,p,e=>by erw[gu,aP];rw[Cp bx s,j9 bx ss,gO]
end
def cntK(L:List (S×Z)):Nat:=b6^L.map (·.1)
theorem nN(bx:ax->Z)(Y1:List (S×Z)):∀(L:List (S×Z))(p:Z),kL bx p (L++Y1)=kL bx p L++kL bx (p+cntK L) Y1
 | [],p=>by
  change kL bx p Y1=kL bx (p+((b6 []:B):Z)) Y1;rw[show((b6 []:B):Z)=0 from Y,Int.add_zero]
 | z::L,p=>by
  erw[ki,kL];rw[nN bx Y1 L,kh];let e:cntK (z::L)=z.1.cnt+cntK L:=by unfold cntK;rw[cu,gO]
  rw[e,show p+((z.1.cnt+cntK L:B):Z)=p+(z.1.cnt:Z)+(cntK L:Z) by lia]
theorem gP(e:Z):∀(ss:List S)(p:Z),(gw ss p e).map (·.1)=ss
 | [],_=>rfl
 | s::ss,p=>by erw[gw,cu];rw[gP e ss]
def mL(ss:List S)(p e:Z):(gw ss p e).length=ss.length:=by have:=congrArg List.length^gP e ss p;rwa [au] at this
theorem Cq(e:Z):∀(ss:List S)(p:Z)(k:B)(s:S),ss[k]?=!s->(gw ss p e)[k]?=!(s,if k+1=ss.length then e else p+b6^ss.take (k+1))
 | [],_,_,_,h=>by simp at h
 | t::ss,p,0,s,h=>by
  simp at h;subst h;erw[gw,yE,List.take_succ_cons,List.take_zero,bW];cases ss with
  | nil=>rfl
  | cons u us =>
   rw[if_neg^by simp,if_neg^by simp];have:b6 [t]=t.cnt:=by rw[gO];rfl
   rw[this]
 | t::ss,p,k+1,s,h=>by erw[gw,qU];rw[Cq e ss (p+t.cnt) k s^by simpa using h];erw[bW,List.take_succ_cons];rw[gO];by_cases hk:k+1=ss.length;rw[if_pos hk,if_pos ∅];rw[if_neg hk,if_neg ∅,show p+(t.cnt:Z)+(b6^ss.take (k+1):Z)=p+((t.cnt+b6^ss.take (k+1):B):Z) by lia]
noncomputable def jP(Uf:List ax)(x:ax):Int:=(Uf.idxOf x:B)
def gW(ps:List ax)(ss:List S)(gX:ax):List Str:=gr (ps++cQ^S.bA ss++[gX])
def iU(ps:List ax)(ss:List S)(gX:ax):List Row:=gu (jP^gW ps ss gX) 0 (b6 ss) ss++[.back^jP (gW ps ss gX) gX]
def As(xs:List ax):(gr xs).Nodup:=by
 have:∀(xs Xt:List ax),Xt.Nodup->(xs.foldl jD Xt).Nodup:=by
  intro xs;induction xs with
  | nil=>intro Xt h;show h
  | cons x xs ih =>
   intro Xt h;show ih _ ?_;unfold jD;split;show h;ext hx;rw[fN];show#[h,by simp,λa ha b hb e=>?_];rw[aC.mp hb] at e;show hx (e▸ha)
 show this xs [] mT
def GD{x:ax}(h:x∈xs):x∈gr xs:=by
 let grow:∀(xs Xt:List ax)(y:ax),y∈Xt->y∈xs.foldl jD Xt:=by
  intro xs;induction xs with
  | nil=>intro Xt y h;show h
  | cons z xs ih =>
   intro Xt y h;show ih _ y ?_;unfold jD;split;show h;show jK _ h
 have:∀(xs Xt:List ax),x∈xs->x∈xs.foldl jD Xt:=by
  intro xs;induction xs with
  | nil=>intro Xt h;cases h
  | cons z xs ih =>
   intro Xt h;rcases aJ.mp h with e|h
   .rw[e];show grow xs _ z ?_;unfold jD;split;assumption;simp
   .show ih _ h
 show this xs [] h
mutual
theorem ac0{N Y1:ax->O}:∀s:S,S.ok N s->(∀x∈cQ s.c9,Y1 x)->S.ok Y1 s
 | .num x n,h,q=>#[q x^by simp[S.c9,cQ,S.own],h.2]
 | .copy x a,h,q=>#[q x^by simp[S.c9,cQ,S.own],q a^by simp[S.c9,cQ,S.own]]
 | .op x o a b,h,q=>#[q x^by simp[S.c9,cQ,S.own],h.2.1,q a^by simp[S.c9,cQ,S.own],q b^by simp[S.c9,cQ,S.own]]
 | .out a,h,q=>q a (by simp[S.c9,cQ,S.own])
 | .ifs a y n,h,q=>by
  let e:cQ (S.ifs a y n).c9=a::(cQ^S.bA y++cQ^S.bA n):=by simp[S.c9,cQ,S.own]
  rw[e] at q;show#[q a^by simp,Au y h.2.1 (λx hx=>q x^by simp[hx]),Au n h.2.2 (λx hx=>q x^by simp[hx])]
 | .rX a b,h,q=>by
  let e:cQ (S.rX a b).c9=a::cQ^S.bA b:=by simp[S.c9,cQ,S.own]
  rw[e] at q;show#[q a^by simp,Au b h.2 (λx hx=>q x^by simp[hx])]
theorem Au{N Y1:ax->O}:∀ss:List S,S.rK N ss->(∀x∈cQ^S.bA ss,Y1 x)->S.rK Y1 ss
 | [],_,_=>trivial
 | s::ss,h,q=>by
  let e:cQ^S.bA (s::ss)=cQ s.c9++cQ^S.bA ss:=by simp[S.bA,cQ]
  rw[e] at q;show#[ac0 s h.1 (λx hx=>q x^by simp[hx]),Au ss h.2 (λx hx=>q x^by simp[hx])]
end
def Cr{ps:List ax}(h:S.rK N ss):S.rK (· ∈ gW ps ss gX) ss :=
 Au ss h λx hx=>GD (by simp[hx])
def Av(ps:List ax)(ss:List S)(gX:ax):gX∈gW ps ss gX:=GD (by simp)
def DO(H:Hp)(v:V)(z:S×Z):=∃t u,v=¬t/\H t=!.tup [u,.int z.2]/\dU H z.1 u
abbrev Links(H:Hp):List V->List (S×Z)->Prop:=Paired^DO H
theorem DO.mono{H H':Hp}{v:V}{z:S×Z}(e:bT H H')(h:DO H v z):DO H' v z:=let⟨t,u,h1,h2,h3⟩:=h;#[t,u,h1,e _ _ h2,dU.mono e _ _ h3]
theorem Links.mono{H H':Hp}{vs:List V}{L:List (S×Z)}(e:bT H H')(h:Links H vs L):Links H' vs L:=dX (λz z q=>q.mono e) h
def v5{F:α->β->O}{xs:List α}{ys:List β}{xs':List α}{RF:List β}(h:Paired F xs ys)(h':Paired F xs' RF):Paired F (xs++xs') (ys++RF):=by
 induction h with
 | nil=>show h'
 | cons a _ ih=>show .cons a ih
def kg{F:α->β->O}{xs:List α}{ys:List β}(h:Paired F xs ys):ab=ys.length:=by
 induction h with
 | nil=>rfl
 | cons _ _ ih=>simp[ih]
def NX(ss:List S):b6 ss<=S.bM ss:=gM ss
structure jt (H:Hp) (v:V) (ss:List S) (p e:Int):Prop where
 at_:∃t b vb,v=¬t/\H t=!.tup [¬b,.int p,.int e]/\H b=!.tup vb/\bg H ss vb
inductive Sn(vs:List V)(H:Hp)(Q:VK)(z:XK):Prop|mk(v:V)(ss:List S)(p e:Int)(z:vs=[v])(z:jt H v ss p e)(z:S.bM ss<=10000)(z:∀(l:Addr)(us:List V)(H':Hp),az H H'->H l=none->H' l=!.lst us.reverse->Links H' us^gw ss p e->Q (¬l) H')
section
variable (T:Txt w8 K_ m_)
theorem v7:T.vP∩(2,Sn):=by
 exists T.vP,jg,#[v,ss,p,e,rfl,#[t,b,vb,rfl,ht,hb,TD],fU,q],"-=1`:0F*/jE *:0-=2:0-=3J-Kã:0C4-BL3*>.4*2-®1F*/jE *>*4'aaJ +=21+<3",5;let Os:=TD.length;let HI:=iD ss;lk;show#[b,vb,ss,Y,hb,TD,∅,λl1 vf H1 s1 j Op hf1=>?_];let hfl:=hf1.length;let Fn:=s1 _ _ ht;lk;ext fo H2 n2;let YL:H fo=none:=s1.free n2.1;let s2:=s1.trans n2.same;let Ab:=n2.self;let Np:=n2.keep Fn;let hb2:=s2 _ _ hb;clear n2 Op hf1 Fn;lk;rw[hfl];change Pp (EK K_ b vb.length) _ _ _ _ [!V.ref t,!V.int (p+(b6 ss:B)),!V.int e,!V.ref fo,none] H2;show Qd (xs:=vb) (λi U' H'=>E2 λst us=>A4 (U'=[!.ref t,!.int (p+b6^ss.take (ss.length-i)),!.int (if i=0 then e else p+b6^ss.take (ss.length-i)),!.ref fo,st]) (az H H') (H' fo=!.lst us.reverse)^Links H' us^(gw ss p e).drop (ss.length-i)) ?_ ?_ ?_ ?_;show#[none,[],?_,s2,Ab,?_];rw[Nat.sub_zero,cA,if_pos Y];rw[Nat.sub_zero,List.drop_eq_nil_of_le (by rw[mL];show aq _)];show .nil;rintro i U' H' _ ⟨st,us,rfl,s',_⟩;show eB.of^s' _ _ hb
 .rintro i x U' H3 hx ⟨st,us,rfl,s3,uC,hli⟩;let hi:i<vb.length:=by have:=(fK hx).1;simpa using this
  rw[List.getElem?_reverse hi] at hx;let#[z,hz,hrz]:=TD.get hx;rw[Os] at hz;let WJ:=Cq e ss p _ z hz;let e1:ss.length-1-i+1=ss.length-i:=∅;rw[e1] at WJ;let xM:ss.length-1-i<(gw ss p e).length:=by rw[mL];lia
  let Zi:(gw ss p e).drop (ss.length-(i+1))=(z,if i=0 then e else p+b6^ss.take (ss.length-i))::(gw ss p e).drop (ss.length-i):=by rw[show ss.length-(i+1)=ss.length-1-i by lia,CF xM,e1];congr 1;have:=g7 xM;rw[WJ] at this;rw[<- Option.some.inj this];by_cases h0:i=0;rw[if_pos h0,if_pos ∅];rw[if_neg h0,if_neg ∅]
  let KF:b6^ss.take (ss.length-i)=b6^ss.take (ss.length-(i+1))+z.cnt:=by rw[show ss.length-i=(ss.length-(i+1))+1 by lia,b8,show ss.length-(i+1)=ss.length-1-i by lia,hz,xy];change _+b6 [z]=_;rw[gO];rfl
  let Ba:us.reverse.length<=100000:=by have:=kg hli;rw[uZ,mL] at this;rw[lE];lia
  let rz3:=dU.mono (sT s3) _ _ hrz;let hzr:z.rows<=10000:=by have:=uM hz;lia
  clear Ab Np hb2 s2;generalize XJ:(if i=0 then e else p+(b6^ss.take (ss.length-i):Z))=be at Zi ⊢;lk;ext t4 H4 n4 H5 p5 t6 H6 n6;let Sk:=n4.keep uC;let tt5:bT H4 H5:=λb xs e=>p5.keep (cB e Sk (by intro z;cases z)) e;let tt6:bT H3 H6:=((sT n4.same).trans tt5).trans^sT n6.same;let s6:az H H6:=(p5.same (s3.trans n4.same) YL).trans n6.same;let NT:=n6.keep p5.self;let ag9:=n6.keep^tt5 _ _ n4.self;show#[t6,[x],[z],Y,n6.self,bg.one^dU.mono tt6 _ _ rz3,by erw[S.bM];lia,λl7 vf7 H7 s7 j hl7 T9=>?_];let aha:=T9.length;let KM:(S.bA [z]).length=z.cnt:=by change b6 [z]=_;rw[gO];rfl
  let ace:=s7 _ _ NT;let NY:=(Links.mono tt6 hli).mono^sT s7;let amK:=s7 _ _ ag9;let rz7:=dU.mono (tt6.trans^sT s7) _ _ rz3;clear n4 p5 n6 uC Sk NT hli ag9;lk;rw[aha,KM,KF];show#[!x,.ref t4::us,?_,s6.trans s7,?_,?_];rw[if_neg ∅];let ee:p+((b6^ss.take (ss.length-(i+1))+z.cnt:B):Z)-(z.cnt:Z)=p+(b6^ss.take (ss.length-(i+1)):Z):=∅;rw[ee];rw[qX];show ace;rw[Zi];show .cons #[t4,x,Y,amK,rz7] NY
 .rintro U' H3 ⟨st,us,rfl,s3,uC,hli⟩;rw[Os,Nat.sub_self,List.drop_zero] at hli;lk;show q fo us H3 s3 YL uC hli
theorem jt.mono{H H':Hp}{v:V}{ss:List S}{p e:Z}(sm:az H H')(h:jt H v ss p e):jt H' v ss p e:=by let#[t,b,vb,h1,h2,h3,h4]:=h.at_;show#[t,b,vb,h1,sm _ _ h2,sm _ _ h3,bg.mono (sT sm) _ _ h4]
def jt.Zj{p e:Z}(sm:bT H H')(h:jt H v ss p e):jt H' v ss p e:=by let#[t,b,vb,h1,h2,h3,h4]:=h.at_;show#[t,b,vb,h1,sm _ _ h2,sm _ _ h3,bg.mono sm _ _ h4]
inductive WR(vs:List V)(H:Hp)(Q:VK)(z:XK):Prop|mk(v:V)(ss:List S)(p e:Int)(z:vs=[v])(z:jt H v ss p e)(z:Q (.int (if ss.isEmpty then e else p)) H)
def GF:T.entry∩(1,WR):=by
 exists T.entry,Rk,#[v,ss,p,e,rfl,#[t,b,vb,rfl,ht,hb,TD],q],"+<S£:0:0:0",1,(λz=>rfl);cases ss with
 | nil =>
  erw[bg] at TD;subst TD;lk;show q
 | cons x ss =>
  let#[v,vr,Y,_,_]:=TD.cons_inv;lk;show q
noncomputable def oA:S->List S
 | .ifs _ y _=>y
 | .rX _ b=>b
 | _=>[]
noncomputable def Eg:S->List S
 | .ifs _ _ n=>n
 | _=>[]
noncomputable def xA:S->ci
 | .ifs ..=>true
 | .rX ..=>true
 | _=>false
noncomputable def GG(s:S)(p:Z):Int:=match s with
 | .ifs _ y _=>p+1+b6 y
 | _=>p+1
noncomputable def GH(s:S)(p e:Z):Int:=match s with
 | .ifs ..=>e
 | _=>p
inductive So(vs:List V)(H:Hp)(Q:VK)(z:XK):Prop|mk(v:V)(s:S)(p e:Int)(z:vs=[v,.int p,.int e])(z:dU H s v)(z:xA s=true)(z:s.rows<=10000)(z:∀(l:Addr)(v1 v2:V)(H':Hp),az H H'->H l=none->H' l=!.lst [v1,v2]->jt H' v1 (oA s) (p+1)^GH s p e->jt H' v2 (Eg s) (GG s p) e->Q (¬l) H')
theorem DP:T.qv∩(2,So):=by
 exists T.qv,nu,#[v,x,p,e,rfl,hx,hf,fU,q],"-=3^1-?H:0-=4`3F*/jE *:0+<R.>.:0.3*2*>.:0.4*2+<R.>.:0.3*1*>.w.3*2",5;cases x with
 | num=>cases hf
 | copy=>cases hf
 | op=>cases hf
 | out=>cases hf
 | ifs a y n =>
  erw[dU] at hx;let#[pv,py,pn,vy,vn,Y,uG,hpy,hpn,hy,hn]:=hx;erw[S.rows] at fU;k_in;lk;show#[py,vy,y,Y,hpy,hy,∅,λl1 vf H1 s1 z Op hf1=>?_];let ar2:=s1 _ _ uG;let hfl:=hf1.length;lk;ext t2 H2 n2 t3 H3 n3 l4 H4 n4;let AO:=(n2.same.trans n3.same).trans n4.same;let Gb:=s1.trans AO;show q l4 _ _ H4 Gb ((s1.trans^n2.same.trans n3.same).free n4.1) n4.self #[t2,py,vy,Y,n4.keep^n3.keep n2.self,Gb _ _ hpy,bg.mono (sT Gb) _ _ hy] #[t3,pn,vn,Y,?_,Gb _ _ hpn,bg.mono (sT Gb) _ _ hn];rw[n4.keep n3.self,hfl];rfl
 | rX a b =>
  erw[dU] at hx;let#[pv,pb,vb,Y,uG,GA,hb]:=hx;k_in;lk;ext t1 H1 n1 t2 H2 n2 t3 H3 n3 l4 H4 n4;let Gb:=((n1.same.trans n2.same).trans n3.same).trans n4.same;show q l4 _ _ H4 Gb (((n1.same.trans n2.same).trans n3.same).free n4.1) n4.self #[t1,pb,vb,Y,n4.keep^n3.keep^n2.keep n1.self,Gb _ _ GA,bg.mono (sT Gb) _ _ hb] #[t3,t2,[],Y,n4.keep n3.self,n4.keep^n3.keep n2.self,Y]
def ahb(kvs:List (Key×V))(Uf:List ax):=∀x∈Uf,dI kvs^.inr x=!.int^jP Uf x
inductive WT(vs:List V)(H:Hp)(Q:VK)(z:XK):Prop|mk(v:V)(s:S)(e:Int)(d:Addr)(kvs:List (Key×V))(Uf:List Str)(z:vs=[v,.int e,¬d])(z:dU H s v)(z:xA s=false)(z:S.ok (· ∈ Uf) s)(z:H d=!.dK kvs)(z:ahb kvs Uf)(z:∀(t:Addr)(r:Row)(H':Hp),az H H'->H' t=!.tup r.vals->(∀p,dH (jP Uf) p e s=[r])->Q (¬t) H')
def NZ:T.Du∩(1,WT):=by
 exists T.Du,M3,#[v,x,e,d,kvs,Uf,rfl,hx,hf,hok,hd,Ol,q],"-?H:0+<>A.·._D2:0.:0*1-?H:0+<>A.·._D2:0._D2:0*1-?H:0+<>A.·.:0._D2:0._D2:0._D2:0*1+<>A._D2:0*1",3,(λz z=>rfl),(λz z=>rfl),(λz z=>rfl),(λz z=>rfl),(λz z=>rfl),(λz z=>rfl),(λz z=>rfl);cases x with
 | ifs=>cases hf
 | rX=>cases hf
 | num x n =>
  erw[dU] at hx;let#[pv,Y,uG]:=hx;let b1:=Ol x hok.1;k_in;lk;show sQ hd b1 ?_;lk;ext t H1 n1;show q t (.num 2 (jP Uf x) n e) H1 n1.same n1.self (λp=>by erw[dH])
 | copy x a =>
  erw[dU] at hx;let#[pv,Y,uG]:=hx;let b1:=Ol x hok.1;let b2:=Ol a hok.2;k_in;lk;show sQ hd b1 ?_;lk;show sQ hd b2 ?_;lk;ext t H1 n1;show q t (.copy 2 (jP Uf x) (jP Uf a) e) H1 n1.same n1.self (λp=>by erw[dH])
 | op x o a b =>
  erw[dU] at hx;let#[pv,Y,uG]:=hx;let b1:=Ol x hok.1;let b2:=Ol a hok.2.2.1;let b3:=Ol b hok.2.2.2;k_in;lk;show sQ hd b1 ?_;lk;show sQ hd b2 ?_;lk;show sQ hd b3 ?_;lk;ext t H1 n1;show q t (.op 2 o (jP Uf x) (jP Uf a) (jP Uf b) e) H1 n1.same n1.self (λp=>by erw[dH])
 | out a =>
  erw[dU] at hx;let#[pv,Y,uG]:=hx;let b1:=Ol a hok;k_in;lk;show sQ hd b1 ?_;lk;ext t H1 n1;show q t (.out (jP Uf a) e) H1 n1.same n1.self (λp=>by erw[dH])
def ac1{Uf:List ax}(hn:Uf.Nodup){z:ax}(h:Uf[i]?=!z):Uf.idxOf z=i:=by
 let hm:z∈Uf:=ie h;let hl:=List.idxOf_lt_length_iff.mpr hm;let e:Uf[Uf.idxOf z]?=!z:=by rw[g7 hl,List.getElem_idxOf]
 show mD hn e h
noncomputable def Cs:S->ax
 | .ifs a _ _=>a
 | .rX a _=>a
 | .num x _=>x
 | .copy x _=>x
 | .op x _ _ _=>x
 | .out a=>a
def iE(ss:List S)(p e:Z):cntK^gw ss p e=b6 ss:=by unfold cntK;rw[gP]
def pU(A Yf:List (S×Z)):cntK (A++Yf)=cntK A+cntK Yf:=by unfold cntK;rw[bf,xy]
def Jv(bx:ax->Z)(h:xA s=am)(p e:Z):dH bx p e s=.fork (bx^Cs s) (if(oA s).isEmpty then GH s p e else p+1) (if(Eg s).isEmpty then e else GG s p)::kL bx (p+1) (gw (oA s) (p+1)^GH s p e++gw (Eg s) (GG s p) e):=by
 cases s with
 | num|copy|op|out=>cases h
 | ifs a y n =>
  erw[dH,oA,Eg,GG,GH,Cs];rw[nN,kM,iE,kM];rfl
 | rX a b =>
  erw[dH,oA,Eg,GG,GH,Cs,gw,ck,List.isEmpty_nil,if_true];rw[kM];rfl
theorem Sq(h:xA s=am):s.cnt=1+(b6^oA s+b6^Eg s)/\3+S.bM^oA s+S.bM^Eg s<=s.rows:=by
 cases s with
 | num|copy|op|out=>cases h
 | ifs a y n=>show#[yq a y n,by erw[S.rows,oA,Eg];lia]
 | rX a b=>show#[by rw[yr];rfl,by erw[S.rows,oA,Eg,S.bM];lia]
def WU(h:xA s=am)(hok:S.ok N s):N^Cs s/\S.rK N^oA s/\S.rK N^Eg s:=by
 cases s with
 | num|copy|op|out=>cases h
 | ifs a y n=>show hok
 | rX a b=>show#[hok.1,hok.2,trivial]
def Ss(h:xA s=am)(hr:dU H s v):∃pv ky rest,v=¬pv/\H pv=!.tup (.str ky::.str^Cs s::rest)/\(ky = "if" \/ ky = "while"):=by
 cases s with
 | num|copy|op|out=>cases h
 | ifs a y n =>
  erw[dU] at hr;let#[pv,py,pn,vy,vn,Y,uG,_]:=hr;show#[pv,_,_,Y,uG,.inl Y]
 | rX a b =>
  erw[dU] at hr;let#[pv,pb,vb,Y,uG,_]:=hr;show#[pv,_,_,Y,uG,.inr Y]
def N1(h:xA s=bo)(hr:dU H s v):∃pv ky rest,v=¬pv/\H pv=!.tup (.str ky::rest)/\xF (.str ky) [.str "if", .str "while"]=bo/\s.cnt=1:=by
 cases s with
 | ifs|rX=>cases h
 | num|copy|op|out =>
  erw[dU] at hr;let#[pv,Y,uG]:=hr;show#[pv,_,_,Y,uG,(),Y]
def rL{qs:List bp}(h1:Rows H us rs)(h2:Rows H vs qs):Rows H (us++vs) (rs++qs):=v5 h1 h2
inductive N2(vs:List V)(H:Hp)(Q:VK)(z:XK):Prop|mk(v:V)(ps:List Str)(ss:List S)(gX:Str)(z:vs=[v])(z:GB H ps ss gX v)(z:ps.length<=10000)(z:S.bM ss<=10000)(z:∀(d:Addr)(kvs:List (Key×V))(H':Hp),az H H'->H d=none->H' d=!.dK kvs->ahb kvs^gW ps ss gX->Q (¬d) H')
theorem GI:T.uu∩(3,N2):=by
 exists T.uu,o9,#[v,ps,ss,gX,rfl,hp,Ty,fU,q],"-=1Ù-KE/GC *0C2+uD12m'Mh ¥¦*1+<1",3;let hnd:=As (ps++cQ^S.bA ss++[gX]);let hnl:(gW ps ss gX).length<=60000:=by let h1:=qB (ps++cQ^S.bA ss++[gX]);let h2:=Ar^S.bA ss;let h3:=gM ss;rw[aP,aP,jJ] at h1;unfold gW;lia
 k_in;lk;ext d H1 n1;let fd:=n1.1;let Qb:=n1.self;let s1:=n1.same;clear n1;show#[v,ps,ss,gX,Y,hp.mono s1,∅,∅,λl H2 s2 fl hl=>?_];let PH:=s2 _ _ Qb;let ndl:l≠d:=aM^aE Qb fl;let Jp:=s1.trans s2;change H2 l=!.lst^(gW ps ss gX).map V.str at hl;change (gW ps ss gX).Nodup at hnd;generalize gW ps ss gX=Uf at hl hnd hnl q;clear Qb s1 s2;lk;show f_list (xs:=Uf.map V.str) (λi U' H'=>E2 λnm kvs=>A6 (U'=[!v,!.ref d,nm]) (az H H') (H' l=!.lst^Uf.map V.str) (H' d=!.dK kvs) (ce=i) (∀x,dI kvs^.inr x=if x∈Uf.take i then !.int^jP Uf x else none)) ?_ ?_ ?_ ?_;show#[none,[],Y,Jp,hl,PH,Y,λx=>by simp[dI]];rintro i U' H' _ ⟨nm,kvs,rfl,s',FS,_⟩;show bJ.of FS
 .rintro i x U' H3 hx ⟨nm,kvs,rfl,s3,Iy,xr,xM,hkv⟩;rw[bB] at hx;let#[z,hz,Y]:=cL.mp hx;let hi:=(fK hz).1;let hzi:jP Uf z=(i:Z):=by unfold jP;rw[ac1 hnd hz]
  let hnew:dI kvs^.inr z=none:=by
   rw[hkv z,if_neg];intro hm;let#[j,hj]:=ir.mp hm;let hj2:j<i:=by have:=(fK hj).1;rw[bU] at this;lia
   rw[qV hj2] at hj;have:=mD hnd hj hz;lia
  clear PH hl;lk;show#[d,kvs,Y,xr,?_];lk;ext H4 p4;show#[_,putK kvs (.inr z)^.int ce,Y,p4.same s3 fd,p4.keep ndl Iy,p4.self,?_,λx=>?_];rw[O5 _ hnew,aP,jJ,xM]
  .rw[lU,hkv x,b8,hz];change _=if x∈Uf.take i++[z] then _ else _
   by_cases e:x=z;rw[if_pos^by rw[e],if_pos^by simp[e],e,hzi,xM]
   .rw[if_neg (λh=>e^Sum.inr.inj h)];by_cases hm:x∈Uf.take i;rw[if_pos hm,if_pos^jK _ hm]
    .rw[if_neg hm,if_neg (λh=>by
      rcases aR.mp h with h|h;show hm h
      .show e^aC.mp h)]
 .rintro U' H3 ⟨nm,kvs,rfl,s3,Iy,xr,xM,hkv⟩;rw[au,cA] at hkv;lk;show q d kvs H3 s3 fd xr λx hx=>by rw[hkv x,if_pos hx]
inductive ac2(vs:List V)(H:Hp)(Q:VK)(z:XK):Prop|mk(v:V)(ps:List Str)(ss:List S)(gX:Str)(N:Str->Prop)(z:vs=[v])(z:GB H ps ss gX v)(z:ps.length<=10000)(z:S.bM ss<=10000)(z:S.rK N ss)(z:∀(l:Addr)(us:List V)(H':Hp),az H H'->H l=none->H' l=!.lst us->Rows H' us^iU ps ss gX->Q (¬l) H')
theorem WV:T.flat∩(4,ac2):=by
 exists T.flat,nq,#[v,ps,ss,gX,N,rfl,hp,Ty,fU,hok,q],"-=1/GI *0-=2J-=3/v7 *>.:0.@*/Bh *0-e£3-=4¤3-=5:4+xa:5>Ab-=6/DP .5.F*2*:4-BL2*>A._D1:5./GF *G6*/GF *G6+Bl3*~/v7 *G6/v7 *G6+BL2*/NZ .5.:4*1-BL2*>A*_D1:0+<2",7,(λt=>rfl),(by with_unfolding_all rfl),(λt t=>rfl),(λt t=>rfl);let ahc:=Cr (ps:=ps) (gX:=gX) hok;let ahd:=Av ps ss gX;let hcr:=NX ss;let#[pa,pp,pb,vb,Y,hpa,Fu,GA,TD]:=hp;let rp:∀{H':Hp},az H H'->GB H' ps ss gX^¬pa:=λs=>#[pa,pp,pb,vb,Y,s _ _ hpa,s _ _ Fu,s _ _ GA,bg.mono (sT s) _ _ TD];unfold iU at q;obtain⟨Uf,ahe⟩:∃n,n=gW ps ss gX:=#[_,rfl];rw[<- ahe] at ahc ahd q;lk;show#[¬pa,ps,ss,gX,Y,rp^az.refl _,Ty,fU,λd kvs H1 s1 fd Qb Ol=>?_];rw[<- ahe] at Ol;let amL:=s1 _ _ hpa;lk;ext co H2 n2;let s2:=s1.trans n2.same;let WO:H co=none:=s1.free n2.1;let PH:=n2.keep Qb;let Sj:=n2.self;let ndc:d≠co:=n2.ne Qb;clear n2 Qb amL;show#[¬pa,ps,ss,gX,Y,rp s2,∅,λH3 s3=>?_];let Jb:=s2.trans s3;let xr:=s3 _ _ PH;let DL:=s3 _ _ Sj;clear PH Sj s2 s3;lk;ext t4 H4 n4;let Gb:=Jb.trans n4.same;show#[¬t4,ss,0,b6 ss,Y,#[t4,pb,vb,Y,n4.self,Gb _ _ GA,bg.mono (sT Gb) _ _ TD],fU,λcm us5 H5 s5 f5 ahf ahg=>?_];let VM:=s5 _ _^n4.keep xr;let Gz:=s5 _ _^n4.keep DL;let fcm:H cm=none:=Gb.free f5;let ncc:co≠cm:=aE (n4.keep DL) f5;let ndm:d≠cm:=aE (n4.keep xr) f5;let Uj:=Gb.trans s5;clear n4 xr DL Jb Gb s5 f5;lk;show jV (λk U' H'=>E7 λ(done:List bp)(uc:List V)(L:List (S×Z))(cs:List V)(lk st bl:Option V)=>A12 (U'=[!.ref pa,!.ref d,!.ref co,!.ref cm,lk,st,bl]) (az H H') (H' d=!.dK kvs) (H' co=!.lst uc) (Rows H' uc done) (H' cm=!.lst cs.reverse) (Links H' cs L) (S.rK (· ∈ Uf)^L.map (·.1)) (S.bM^L.map (·.1)<=10000) (done++kL (jP Uf) done.length L=gu (jP Uf) 0 (b6 ss) ss) (done.length+cntK L=b6 ss) (k=cntK L)) ?_ ?_;show#[_,[],[],gw ss 0^b6 ss,us5,none,none,none,Y,Uj,VM,Gz,.nil,ahf,ahg,by rw[gP];show ahc,by rw[gP];show fU,?_,?_,Y];show kM _ _ _ _;rw[iE];simp
 .rintro k U' H6 ⟨done,uc,L,cs,lk,st,bl,rfl,s6,Wl,Ju,WW,Su,ac3,WX,ahh,LA,amM,rfl⟩;clear VM Gz ahf ahg Uj;let ahi:=kg WW;let ar5:=kg ac3;let hLl:L.length<=10000:=by have:=iD^L.map (·.1);rw[au] at this;lia
  cases L with
  | nil =>
   cases ac3;rw[List.reverse_nil] at Su;let ar6:=s6 _ _ hpa;let hb:=Ol gX ahd;erw[kL,ck] at LA;lk;show sQ Wl hb ?_;lk;ext t7 H7 n7 H8 p8;let Bg:=n7.keep Ju;let tt8:bT H7 H8:=λb xs e=>p8.keep (cB e Bg (by intro z;cases z)) e;show q co _ H8 (p8.same (s6.trans n7.same) WO) WO p8.self^rL ?_^.cons #[t7,Y,tt8 _ _ n7.self] .nil;rw[<- LA];show(WW.gp^sT n7.same).gp tt8
  | cons z L =>
   let#[x,e]:=z;cases ac3 with
   | @cons c z Sc L' hc hli =>
    let#[tl,u,Y,htl,hu]:=hc;rw[qX] at Su;erw[cu] at WX ahh;let okx:=WX.1;let ahj:=WX.2;erw[S.bM] at ahh;let hcx:cntK ((x,e)::L)=x.cnt+cntK L:=by unfold cntK;rw[cu,gO]
    let apm:=WQ x;let apn:Sc.reverse.length<=10000:=by rw[lE,kg hli];erw[bW] at hLl;lia
    lk;show C2 (by simp) ?_;lk;show s_pop Su (y:=¬tl) (by simp) ?_;intro H7 p7;rw[List.dropLast_concat] at p7;let tt7:bT H6 H7:=λb xs e=>p7.keep (cB e Su (by intro z;cases z)) e;let s7:=p7.same s6 fcm;let Ue:=p7.keep ndm Wl;let Bg:=p7.keep ncc Ju;let WY:=p7.self;let WZ:=WW.gp tt7;let NY:=Links.mono tt7 hli;let W2:=tt7 _ _ htl;let hu7:=dU.mono tt7 _ _ hu;let apo:done.length+(x.cnt+cntK L)=b6 ss:=by rw[<- hcx];show amM
    clear p7 tt7 Su Wl Ju WW hli htl hu s6 WX;cases Oi:xA x
    .let#[pv,ky,rest,Y,W3,Rs,KM]:=N1 Oi hu7;let Hm:uc.length<=10000:=∅;lk;ext t8 H8 n8;show Po Rs ?_;let Ug:=n8.keep Ue;let N3:=n8.keep Bg;let N4:=n8.keep WY;let Sv:=WZ.same n8.same;let Sw:=Links.mono (sT n8.same) NY;let ac4:=n8.keep W2;let hu8:=dU.mono (sT n8.same) _ _ hu7;let s8:=s7.trans n8.same;clear n8 Ue Bg WY WZ NY W2 hu7 W3 s7;lk;show#[¬pv,x,e,d,kvs,Uf,Y,hu8,Oi,okx,Ug,Ol,λt9 r H9 s9 ht9 hr9=>?_];let NU:=s9 _ _ N3;let hd9:=s9 _ _ Ug;let W4:=s9 _ _ N4;let W5:=Sv.same s9;let W6:=Links.mono (sT s9) Sw;clear Ug N3 N4 Sv Sw ac4 hu8;lk;ext Ca Lz;let Sm:bT H9 Ca:=λb xs e=>Lz.keep (cB e NU (by intro z;cases z)) e;show#[cntK L,∅,done++[r],uc++[¬t9],L,Sc,_,_,_,Y,Lz.same (s8.trans s9) WO,Lz.keep ndc hd9,Lz.self,rL (W5.gp Sm)^.cons #[t9,Y,Sm _ _ ht9] .nil,Lz.keep (aM ncc) W4,Links.mono Sm W6,ahj,∅,?_,?_,Y];rw[<- LA];erw[kL];rw[hr9,KM,aP,jJ,kh];rfl;rw[aP,jJ];lia
    .let#[pv,ky,rest,Y,W3,YR]:=Ss Oi hu7;let Rs:xF (.str ky) [.str "if", .str "while"]=true:=by rcases YR with rfl|rfl<;>decide +kernel
     let Hm:uc.length<=10000:=∅;let#[hcf,hrf]:=Sq Oi;let#[okn,oky,amN]:=WU Oi okx;lk;ext t8 H8 n8;show C2 Rs ?_;let Ug:=n8.keep Ue;let N3:=n8.keep Bg;let N4:=n8.keep WY;let Sv:=WZ.same n8.same;let Sw:=Links.mono (sT n8.same) NY;let ac4:=n8.keep W2;let ahn:=n8.keep W3;let hu8:=dU.mono (sT n8.same) _ _ hu7;let s8:=s7.trans n8.same;clear n8 Ue Bg WY WZ NY W2 hu7 W3 s7;lk;show#[¬pv,x,(uc.length:Z),e,Y,hu8,Oi,∅,λlb v1 v2 H9 s9 flb hlb b1 b2=>?_];let NU:=s9 _ _ N3;let hd9:=s9 _ _ Ug;let W4:=s9 _ _ N4;let W5:=Sv.same s9;let W6:=Links.mono (sT s9) Sw;let aho:=s9 _ _ ahn;let s09:=s8.trans s9;let nbc:lb≠co:=aM^aE N3 flb;let nbm:lb≠cm:=aM^aE N4 flb;clear Ug N3 N4 Sv Sw ac4 hu8 ahn s8 s9;lk;show sM (eB.of aho) (dN (j:=1) Y) ?_;lk;show sQ hd9 (Ol _ okn) ?_;lk;show#[v1,oA x,_,_,Y,b1,?_];lk;show#[v2,Eg x,_,_,Y,b2,?_];lk;ext t10 Ca Bb IY xw;let Zk:=Bb.keep NU;let ahp:bT Ca IY:=λb xs e=>xw.keep (cB e Zk (by intro z;cases z)) e;let tt9:bT H9 IY:=(sT Bb.same).trans ahp;let Cb:az H IY:=xw.same (s09.trans Bb.same) WO;let Zl:=xw.self;let Zm:=xw.keep (aM ncc)^Bb.keep W4;let ahq:=xw.keep ndc^Bb.keep hd9;let Zn:=xw.keep nbc^Bb.keep hlb;let amP:=ahp _ _ Bb.self;let ahr:=W5.gp tt9;let ahs:=Links.mono tt9 W6;let b1':=b1.Zj tt9;let b2':=b2.Zj tt9;clear Bb xw NU Zk W4 hd9 hlb W5 W6 b1 b2 aho;show#[v2,Eg x,_,_,Y,b2',∅,λl12 Oj Nj Tk f12 aht ac5=>?_];let ahu:=Tk _ _ Zn;let Zo:=Tk _ _ Zl;let Zp:=Tk _ _ Zm;let ahv:=Tk _ _ ahq;let ahw:=b1'.mono Tk;clear Zn Zl Zm ahq;lk;show#[v1,oA x,_,_,Y,ahw,∅,λl13 us1 YQ uW f13 asb ahy=>?_];let ahz:=uW _ _ Zo;let ahA:=uW _ _ Zp;let amQ:=uW _ _ ahv;let amR:=uW _ _ aht;let ahB:=Links.mono (sT uW) ac5;let lu2:Oj.reverse.length<=10000:=by let h1:=iD^Eg x;rw[lE,kg ac5,mL];lia
     let lu1:us1.reverse.length<=10000:=by let h1:=iD^oA x;rw[lE,kg ahy,mL];lia
     let asd:(Oj.reverse++us1.reverse).length<=200000:=by rw[aP];lia
     clear ahu Zo Zp ahv aht ac5 b1' ahw b2';lk;ext l14 H14 n14 Uc IZ;let ahC:=n14.keep ahA;let ahD:bT H14 Uc:=λb xs e=>IZ.keep (cB e ahC (by intro z;cases z)) e;let Sx:bT IY Uc:=(((sT Tk).trans^sT uW).trans^sT n14.same).trans ahD;let ahE:bT YQ Uc:=(sT n14.same).trans ahD;let s15:az H Uc:=IZ.same (((Cb.trans Tk).trans uW).trans n14.same) fcm;obtain⟨fr,hfr⟩:∃r,r=Row.fork (jP Uf (Cs x)) (if(oA x).isEmpty then GH x (uc.length:Int) e else(uc.length:Int)+1) (if(Eg x).isEmpty then e else GG x (uc.length:Int)):=#[_,rfl];let ahF:Uc t10=!.tup fr.vals:=by rw[hfr];show Sx _ _ amP
     let T0:=Jv (jP Uf) Oi (uc.length:Z) e;rw[<- hfr] at T0;show#[cntK (gw (oA x) ((uc.length:Z)+1)^GH x uc.length e++gw (Eg x) (GG x uc.length) e++L),?_,done++[fr],uc++[¬t10],gw (oA x) ((uc.length:Z)+1)^GH x uc.length e++gw (Eg x) (GG x uc.length) e++L,us1++Oj++Sc,_,_,_,Y,s15,IZ.keep ndm^n14.keep amQ,IZ.keep ncc^n14.keep ahz,rL (ahr.gp Sx)^.cons #[t10,Y,ahF] .nil,?_,v5 (v5 (Links.mono ahE ahy)^Links.mono ahE ahB)^Links.mono Sx ahs,?_,?_,?_,?_,Y];rw[hcx,hcf,pU,pU,iE,iE];lia;rw[IZ.self];simp;rw[bf,bf,gP,gP];show nL (nL oky amN) ahj;rw[bf,bf,gP,gP,gK,gK];lia;rw[<- LA];erw[kL];rw[<- ahi,T0,nN _ L,aP,jJ,pU,iE,iE,hcf];erw[kh,ki,List.nil_append];rw[<- ahi,show((uc.length+1:B):Z)=(uc.length:Z)+1 by lia,show(uc.length:Z)+((1+(b6^oA x+b6^Eg x):B):Z)=(uc.length:Z)+1+((b6^oA x+b6^Eg x:B):Z) by lia];rw[aP,jJ,pU,pU,iE,iE];lia
theorem qQ{Uf:List ax}(h8:Uf.length<=8){x:ax}(hx:x∈Uf):lq^jP Uf x:=by have:=List.idxOf_lt_length_iff.mpr hx;unfold jP;constructor<;>lia
end
mutual
theorem Sy{Uf:List ax}{n:Z}(h8:Uf.length<=8):∀(s:S)(p e:Z),S.ok (· ∈ Uf) s->0<=p->p+s.cnt<=n->0<=e->e<=n->∀r∈dH (jP Uf) p e s,r.ok (n+1)
 | .num x v,p,e,h,hp,hc,he,hn,r,hr=>by
  erw[dH,aC] at hr;rw[hr];show#[by constructor<;>decide,qQ h8 h.1,h.2,he,∅]
 | .copy x a,p,e,h,hp,hc,he,hn,r,hr=>by
  erw[dH,aC] at hr;rw[hr];show#[by constructor<;>decide,qQ h8 h.1,qQ h8 h.2,he,∅]
 | .op x o a b,p,e,h,hp,hc,he,hn,r,hr=>by
  erw[dH,aC] at hr;rw[hr];show#[by constructor<;>decide,h.2.1,qQ h8 h.1,qQ h8 h.2.2.1,qQ h8 h.2.2.2,he,∅]
 | .out a,p,e,h,hp,hc,he,hn,r,hr=>by
  erw[dH,aC] at hr;rw[hr];show#[qQ h8 h,he,∅]
 | .ifs a y m,p,e,h,hp,hc,he,hn,r,hr=>by
  rw[yq] at hc;erw[dH,aJ,aR] at hr;rcases hr with hr|hr|hr
  .rw[hr];show#[qQ h8 h.1,?_,?_];split;show#[he,∅];show#[∅,∅];split;show#[he,∅];show#[∅,∅]
  .show pV h8 y (p+1) e h.2.1 ∅ ∅ he hn r hr
  .show pV h8 m (p+1+b6 y) e h.2.2 ∅ ∅ he hn r hr
 | .rX a b,p,e,h,hp,hc,he,hn,r,hr=>by
  rw[yr] at hc;erw[dH,aJ] at hr;rcases hr with hr|hr
  .rw[hr];show#[qQ h8 h.1,?_,he,∅];split;show#[hp,∅];show#[∅,∅]
  .show pV h8 b (p+1) p h.2 ∅ ∅ hp ∅ r hr
theorem pV{Uf:List ax}{n:Z}(h8:Uf.length<=8):∀(ss:List S)(p e:Z),S.rK (· ∈ Uf) ss->0<=p->p+b6 ss<=n->0<=e->e<=n->∀r∈gu (jP Uf) p e ss,r.ok (n+1)
 | [],_,_,_,_,_,_,_,r,hr=>by erw[gu] at hr;cases hr
 | s::ss,p,e,h,hp,hc,he,hn,r,hr=>by
  rw[gO] at hc;erw[gu,aR] at hr;rcases hr with hr|hr
  .show Sy h8 s p _ h.1 hp ∅ ?_ ?_ r hr;split;show he;lia;split;show hn;lia
  .show pV h8 ss (p+s.cnt) e h.2 ∅ ∅ he hn r hr
end
def Sz{x:ax}(h:x∈gr xs):x∈xs:=by
 have:∀(xs Xt:List ax),x∈xs.foldl jD Xt->x∈Xt\/x∈xs:=by
  intro xs;induction xs with
  | nil=>intro Xt h;show .inl h
  | cons z xs ih =>
   intro Xt h;rcases ih _ h with h|h
   .unfold jD at h;split at h;show .inl h;rcases aR.mp h with h|h;show .inl h;rw[aC.mp h];show .inr (by simp)
   .show .inr^dz _ h
 rcases this xs [] h with h|h;cases h;show h
theorem Ct:∀{xs ys:List ax},xs.Nodup->(∀x∈xs,x∈ys)->ab<=cf
 | [],_,_,_=>aQ _
 | x::xs,ys,h,q=>by rw[iG] at h;let hx:=q x (by simp);have:=Ct (ys:=ys.erase x) h.2 λy hy=>(List.mem_erase_of_ne (λ(e:y=x)=>h.1 (by rw[<- e];show hy))).mpr (q y^by simp[hy]);rw[List.length_erase_of_mem hx] at this;let hp:=List.length_pos_of_mem hx;rw[bW];lia
mutual
theorem ac6{N:ax->O}:∀s:S,S.ok N s->∀x∈cQ s.c9,N x
 | .num y n,h,x,hx=>by simp[S.c9,cQ,S.own] at hx;rw[hx];show h.1
 | .copy y a,h,x,hx=>by
  simp[S.c9,cQ,S.own] at hx;rcases hx with e|e<;>rw[e];show h.1;show h.2
 | .op y o a b,h,x,hx=>by
  simp[S.c9,cQ,S.own] at hx;rcases hx with e|e|e<;>rw[e];show h.1;show h.2.2.1;show h.2.2.2
 | .out a,h,x,hx=>by simp[S.c9,cQ,S.own] at hx;rw[hx];show h
 | .ifs a y n,h,x,hx=>by
  let e:cQ (S.ifs a y n).c9=a::(cQ^S.bA y++cQ^S.bA n):=by simp[S.c9,cQ,S.own]
  rw[e] at hx;rcases aJ.mp hx with e|hx;rw[e];show h.1
  .rcases aR.mp hx with hx|hx;show uN y h.2.1 x hx;show uN n h.2.2 x hx
 | .rX a b,h,x,hx=>by
  let e:cQ (S.rX a b).c9=a::cQ^S.bA b:=by simp[S.c9,cQ,S.own]
  rw[e] at hx;rcases aJ.mp hx with e|hx;rw[e];show h.1;show uN b h.2 x hx
theorem uN{N:ax->O}:∀ss:List S,S.rK N ss->∀x∈cQ^S.bA ss,N x
 | [],_,x,hx=>by simp[S.bA,cQ] at hx
 | s::ss,h,x,hx=>by
  let e:cQ^S.bA (s::ss)=cQ s.c9++cQ^S.bA ss:=by simp[S.bA,cQ]
  rw[e] at hx;rcases aR.mp hx with hx|hx;show ac6 s h.1 x hx;show uN ss h.2 x hx
end
def Jw{pool ps:List ax}(h8:pool.length<=8)(hp:∀x∈ps,x∈pool)(hs:S.rK (· ∈ pool) ss)(ha:gX∈pool):(gW ps ss gX).length<=8:=by
 show aZ (Ct (As _) λx hx=>?_) h8;have:=Sz hx;rcases aR.mp this with h|h
 .rcases aR.mp h with h|h;show hp x h;show uN ss hs x h
 .rw[aC.mp h];show ha
def v9(ps:List ax)(ss:List S)(gX:ax):(iU ps ss gX).length=b6 ss+1:=by unfold iU;rw[aP,j9];rfl
theorem SA{ps:List ax}(h8:(gW ps ss gX).length<=8)(hs:S.rK N ss):∀r∈iU ps ss gX,r.ok (iU ps ss gX).length:=by
 intro r hr;rw[v9,show((b6 ss+1:B):Z)=(b6 ss:Z)+1 by lia];unfold iU at hr;rcases aR.mp hr with hr|hr;show pV h8 ss 0 (b6 ss) (Cr hs) ∅ ∅ ∅ ∅ r hr
 .rw[aC.mp hr];show qQ h8^Av ps ss gX
mutual
theorem SD(bx:ax->Z):∀(s:S)(p e:Z),∀r∈dH bx p e s,r.pl
 | .num ..,_,_,r,hr=>by erw[dH,aC] at hr;rw[hr];rfl
 | .copy ..,_,_,r,hr=>by erw[dH,aC] at hr;rw[hr];rfl
 | .op ..,_,_,r,hr=>by erw[dH,aC] at hr;rw[hr];rfl
 | .out ..,_,_,r,hr=>by erw[dH,aC] at hr;rw[hr];trivial
 | .ifs a y n,p,e,r,hr=>by
  erw[dH,aJ,aR] at hr;rcases hr with hr|hr|hr;rw[hr];trivial;show pW bx y _ _ r hr;show pW bx n _ _ r hr
 | .rX a b,p,e,r,hr=>by erw[dH,aJ] at hr;rcases hr with hr|hr;rw[hr];trivial;show pW bx b _ _ r hr
theorem pW(bx:ax->Z):∀(ss:List S)(p e:Z),∀r∈gu bx p e ss,r.pl
 | [],_,_,r,hr=>by erw[gu] at hr;cases hr
 | s::ss,p,e,r,hr=>by erw[gu,aR] at hr;rcases hr with hr|hr;show SD bx s _ _ r hr;show pW bx ss _ _ r hr
end
def SE(C:List bp)(p:B)(rows:List bp):=∀i r,rows[i]?=!r->C[p+i]?=!r
theorem SE.app{C A Yf:List bp}(h:SE C p (A++Yf)):SE C p A/\SE C (p+A.length) Yf :=
 #[λi r hr=>h i r (by rw[lC (fK hr).1];show hr),λi r hr=>by rw[oO];show h _ r (by rw[ko ∅,CH];show hr)]
def SE.tail{C Yf:List bp}{a:bp}(h:SE C p (a::Yf)):SE C (p+1) Yf:=(SE.app (A:=[a]) h).2
mutual
theorem Cu{bx:ax->Z}{C:List bp}:∀(s:S)(p e:B),SE C p^dH bx p e s->Gq C p->(∀i,i<s.cnt->Gq C (p+i))/\Gq C e
 | .num x n,p,e,h,hp=>by
  erw[dH] at h;show#[λi hi=>by rw[show i=0 from Nat.lt_one_iff.mp hi];show hp,.step hp (h 0 _ rfl)^aC.mpr Y]
 | .copy x a,p,e,h,hp=>by
  erw[dH] at h;show#[λi hi=>by rw[show i=0 from Nat.lt_one_iff.mp hi];show hp,.step hp (h 0 _ rfl)^aC.mpr Y]
 | .op x o a b,p,e,h,hp=>by
  erw[dH] at h;show#[λi hi=>by rw[show i=0 from Nat.lt_one_iff.mp hi];show hp,.step hp (h 0 _ rfl)^aC.mpr Y]
 | .out a,p,e,h,hp=>by
  erw[dH] at h;show#[λi hi=>by rw[show i=0 from Nat.lt_one_iff.mp hi];show hp,.step hp (h 0 _ rfl)^aC.mpr Y]
 | .ifs a y n,p,e,h,hp=>by
  rw[yq];erw[dH] at h;let hr:=h 0 _ rfl;let#[hy,hn]:=h.tail.app;rw[j9] at hn;let ky:(∀i,i<b6 y->Gq C (p+1+i))/\Gq C e:=by
   cases y with
   | nil=>show#[λi hi=>absurd hi^fz _,.step hp hr^aJ.mpr^.inl Y]
   | cons s ss=>show mO (s::ss) (p+1) e (by simp) hy^.step hp hr^aJ.mpr^.inl Y
  let kn:∀i,i<b6 n->Gq C (p+1+b6 y+i):=by
   cases n with
   | nil=>show λi hi=>absurd hi^fz _
   | cons s ss=>show(mO (s::ss) (p+1+b6 y) e (by simp) hn^.step hp hr^dz _^aC.mpr Y).1
  show#[λi hi=>?_,ky.2];rcases vg i with e0|h0;rw[e0];show hp;rcases bR i (1+b6 y) with h1|h1;rw[show p+i=p+1+(i-1) by lia];show ky.1 _ ∅;rw[show p+i=p+1+b6 y+(i-1-b6 y) by lia];show kn _ ∅
 | .rX a b,p,e,h,hp=>by
  rw[yr];erw[dH] at h;let hr:=h 0 _ rfl;let kb:∀i,i<b6 b->Gq C (p+1+i):=by
   cases b with
   | nil=>show λi hi=>absurd hi^fz _
   | cons s ss=>show(mO (s::ss) (p+1) p (by simp) h.tail^.step hp hr^aJ.mpr^.inl Y).1
  show#[λi hi=>?_,.step hp hr^dz _^aC.mpr Y];rcases vg i with e0|h0;rw[e0];show hp;rw[show p+i=p+1+(i-1) by lia];show kb _ ∅
theorem mO{bx:ax->Z}{C:List bp}:∀(ss:List S)(p e:B),ss≠[]->SE C p^gu bx p e ss->Gq C p->(∀i,i<b6 ss->Gq C (p+i))/\Gq C e
 | [],_,_,h,_,_=>absurd Y h
 | s::ss,p,e,_,h,hp=>by
  rw[gO];erw[gu] at h;let#[h1,h2]:=h.app;rw[Cp] at h2;cases ss with
  | nil =>
   let#[k1,k2]:=Cu s p e h1 hp;show#[λi hi=>k1 i (by have:b6 ([]:List S)=0:=rfl;lia),k2]
  | cons t ts =>
   let#[k1,k2]:=Cu s p (p+s.cnt) h1 hp;let#[k3,k4]:=mO (t::ts) (p+s.cnt) e (by simp) h2 k2;show#[λi hi=>?_,k4];rcases bR i s.cnt with hl|hg;show k1 i hl;rw[show p+i=p+s.cnt+(i-s.cnt) by lia];show k3 _ ∅
end
theorem N5{ps:List ax}(UV:ss≠[]):(∀r∈iU ps ss gX,r.pl)/\∀p,p<(iU ps ss gX).length->Gq (iU ps ss gX) p:=by
 show#[λr hr=>?_,λp hp=>?_]
 .unfold iU at hr;rcases aR.mp hr with hr|hr;show pW _ _ _ _ r hr;rw[aC.mp hr];trivial
 .have hE:SE (iU ps ss gX) 0^gu (jP^gW ps ss gX) ((0:B):Z) (b6 ss:B) ss:=λi r hr=>by let hr:(gu (jP^gW ps ss gX) 0 (b6 ss) ss)[i]?=!r:=hr;unfold iU;rw[Nat.zero_add,lC (fK hr).1];show hr
  let#[k1,k2]:=mO ss 0 (b6 ss) UV hE .zero;rw[v9] at hp;rcases bR p^b6 ss with hl|hg;rw[<- Nat.zero_add p];show k1 p hl;rw[show p=b6 ss by lia];show k2
def W7(s:ax):Nat:=if s = "+" then 0 else if s = "-" then 1 else if s = "*" then 2 else if s = "/" then 3 else if s = "<" then 4 else if s = "=" then 5 else if s = "&" then 6 else if s = "|" then 7 else 8
def LB{s:ax}(h:s∈signs):s=z8^W7 s/\W7 s<9:=by erw[signs,aJ,eE,or_false] at h;rcases h with rfl|rfl|rfl|rfl|rfl|rfl|rfl|rfl|rfl<;>show#[(),()]
def amT(s:ax)(a b:Z):Int:=z9 (W7 s) a b
abbrev Bx:=Z->Z
def setB(b:Bx)(k v:Z):Bx:=λj=>if j=k then v else b j
def Row.iF(b:Bx):bp->Bx
 | .num _ k v _=>setB b k v
 | .copy _ k i _=>setB b k^b i
 | .op _ s k i j _=>setB b k^amT s (b i)^b j
 | _=>b
def Row.jF(b:Bx):bp->Z
 | .num _ _ _ q=>q|.copy _ _ _ q=>q|.op _ _ _ _ _ q=>q|.out _ q=>q|.fork i q p=>if b i≠0 then q else p|.look _ q=>q|.mark q=>q|.back i=>i
def Row.sends(b:Bx):bp->List Z
 | .out i _=>[b i]
 | _=>[]
structure Out where
 tag:Str
 aL:List Int
 val:Option Int
 n:Nat
def GJ:Option Z->V
 | some v=>.int v
 | none=>.cH
def Out.vals(o:Out)(l:ae):List V:=[.str o.tag,¬l,GJ o.val,.int o.n]
def ahG:Option Z->PyData
 | some v=>.int v
 | none=>.none
def Out.data(o:Out):PyData:=.tuple [.str o.tag,.list^o.aL.map PyData.int,ahG o.val,.int o.n]
def runM(rs:List bp):B->Z->Bx->List Z->B->Out
 | 0,_,_,aL,n=>#["tired", aL,none,n]
 | f+1,pl,b,aL,n=>match rs[pl.toNat]? with
  | none=>#["tired", aL,none,n]
  | some (.back i)=>#["back", aL,!b i,n+1]
  | some r=>runM rs f (r.jF b) (r.iF b) (aL++r.sends b) (n+1)
def Rep(kvs:List (Key×V))(b:Bx):=∀k,lq k->(dI kvs^.inl k).getD^.int 0=.int^b k
def Rep.put{kvs:List (Key×V)}(h:Rep kvs b)(k v:Z):Rep (putK kvs (.inl k)^.int v)^setB b k v:=λj hj=>by rw[lU];unfold setB;by_cases e:j=k;rw[if_pos^by rw[e],if_pos e];rfl;rw[if_neg (λr=>e^Sum.inl.inj r),if_neg e];show h j hj
def mP(b:Bx):=∀k,lq k->Val^b k
def mP.set(h:mP b){k v:Z}(hv:Val v):mP^setB b k v:=λj hj=>by unfold setB;split;show hv;show h j hj
def Row.Aw{n:Z}(hr:r.ok n)(h:mP b):mP^r.iF b:=by
 cases r
 case num=>show h.set hr.2.2.1
 case copy=>show h.set^h _ hr.2.2.1
 case op=>show h.set^ab8 (LB hr.2.1).2 (h _ hr.2.2.2.1)^h _ hr.2.2.2.2.1
 all_goals show h
def Row.LC{n:Z}(hr:r.ok n)(hb:∀i,r≠.back i):nF n^r.jF b:=by
 cases r
 case back i=>show absurd Y^hb i
 case fork=>erw[Row.jF];split<;>first|show hr.2.1|show hr.2.2
 case num=>show hr.2.2.2
 case copy=>show hr.2.2.2
 case op=>show hr.2.2.2.2.2
 case out=>show hr.2
 case look=>show hr.2
 case mark=>show hr
inductive uO(vs:List V)(H:Hp)(Q:VK)(z:XK):Prop|mk(a d:Addr)(r:Row)(kvs:List (Key×V))(b:Bx)(n:Int)(z:vs=[¬a,¬d])(z:H a=!.tup r.vals)(z:H d=!.dK kvs)(z:Rep kvs b)(z:r.ok n)(z:Q (.int^r.jF b) H)
section
variable (T:Txt w8 K_ m_)
def Cv:T.zW∩(1,uO):=by
 exists T.zW,M1,#[a,d,r,kvs,b,n,rfl,ha,hd,P3,hok,q],"-?H:0+<STÂyD1:0@:0:0+<VÌ0X",2,#[rfl,rfl,rfl,rfl];cases r
 all_goals erw[Row.vals,Row.key,Row.rest] at ha
 all_goals erw[Row.jF] at q
 all_goals lk
 all_goals first|show q|skip
 rw[P3 _ hok.1];lk;ext h0;rw[if_pos h0] at q;show q;ext h0;rw[if_neg^by simpa using h0] at q;show q
def Row.isD:bp->O
 | .num ..=>True|.copy ..=>True|.op ..=>True|_=>False
inductive Jx(K_:aB)(vs:List V)(H:Hp)(Q:VK)(z:XK):Prop|mk(a d:Addr)(r:Row)(kvs:List (Key×V))(b:Bx)(n:Int)(z:vs=[¬a,¬d])(z:H a=!.tup r.vals)(z:H d=!.dK kvs)(z:Rep kvs b)(z:mP b)(z:r.ok n)(z:r.isD)(z:kvs.length<=100000)(z:∀H1 H' W1,az H H1->nU H1 d (.dK W1) H'->Rep W1^r.iF b->W1.length<=kvs.length+1->Q .cH H')
def Ax:T.uq∩(3,Jx K_):=by
 exists T.uq,IG,#[a,d,r,kvs,b,n,rfl,ha,hd,P3,v8,hok,EH,hl,q],"+xH:0+uD1:0:0+xH:0+uD1:0yD1:0+uD1:0/Ru .:0.yD1:0*yD1:0",2,#[rfl,rfl,rfl,rfl],#[rfl,rfl,rfl,rfl],#[rfl,rfl,rfl,rfl];cases r
 case out=>show EH.elim
 case fork=>show EH.elim
 case look=>show EH.elim
 case mark=>show EH.elim
 case back=>show EH.elim
 all_goals erw[Row.vals,Row.key,Row.rest] at ha
 all_goals erw[Row.iF] at q
 all_goals lk
 .rename_i H1 p1;show q H H1 _ (az.refl _) p1 (P3.put _ _)^iz _ _ _
 .rename_i H1 p1;rw[P3 _ hok.2.2.1] at p1;show q H H1 _ (az.refl _) p1 (P3.put _ _)^iz _ _ _
 .rename_i s k i j _;rw[P3 _ hok.2.2.2.1,P3 _ hok.2.2.2.2.1];let#[e1,e2]:=LB hok.2.1;show#[W7 s,b i,b j,e2,by rw[<- e1],v8 _ hok.2.2.2.1,v8 _ hok.2.2.2.2.1,λH1 s1=>?_];let FB:=s1 _ _ ha;let Qb:=s1 _ _ hd;lk;ext H2 p2;show q H1 H2 _ s1 p2 (P3.put _ _)^iz _ _ _
def oF(xs:List Z):Bx:=λk=>if 0<=k then xs.getD k.toNat 0 else 0
theorem rep0(xs:List Z):Rep (nW^xs.map V.int)^oF xs:=λk hk=>by unfold oF;rw[if_pos hk.1];by_cases h:k.toNat<ab;let e:dI (nW^xs.map V.int)^.inl ((k.toNat:B):Z)=!.int xs[k.toNat]:=PY (by simp[h]);rw[show((k.toNat:B):Z)=k by have:=hk.1;lia] at e;rw[e];simp[List.getD,h];rw[HU^.inr (by have:=hk.1;rw[au];lia)];simp[List.getD,h]
def SH{xs:List Z}(h:∀x∈xs,Val x):mP^oF xs:=λk hk=>by unfold oF;rw[if_pos hk.1];by_cases hl:k.toNat<ab;rw[show xs.getD k.toNat 0=xs[k.toNat] by simp[List.getD,hl]];show h _^lD hl;rw[show xs.getD k.toNat 0=0 by simp[List.getD,hl]];show#[(),()]
def Cw{f:B}{pl i:Z}(h:rs[pl.toNat]?=!.back i):runM rs (f+1) pl b aL n=#["back", aL,!b i,n+1]:=by erw[runM,h]
def Cy{f:B}{pl:Z}(h:rs[pl.toNat]?=!r)(hb:∀i,r≠.back i):runM rs (f+1) pl b aL n=runM rs f (r.jF b) (r.iF b) (aL++r.sends b) (n+1):=by
 cases r
 case back i=>show absurd Y^hb i
 all_goals erw[runM,h]
def N6(r:bp)(b:Bx):r.jF^r.iF b=r.jF b:=by cases r<;>rfl
inductive ahH(K_:aB)(vs:List V)(H:Hp)(Q:VK)(z:XK):Prop|mk(c a:Addr)(us:List V)(rs:List Row)(xs:List Int)(most:Nat)(z:vs=[¬c,¬a,.int most])(z:H c=!.lst us)(z:Rows H us rs)(z:0<rs.length)(z:rs.length<=2000)(z:(∀r∈rs,r.ok rs.length))(z:H a=!.lst^xs.map V.int)(z:xs.length<=1000)(z:(∀x∈xs,Val x))(z:most<=5000)(z:∀t l H',az H H'->H l=none->H' t=!.tup^(runM rs most 0 (oF xs) [] 0).vals l->H' l=!.lst^(runM rs most 0 (oF xs) [] 0).aL.map V.int->Q (¬t) H')
theorem ac7(T:Txt w8 K_ m_):bK P_ w8 K_ m_ b_ fX 5 T.run.f T.run.d ["code", "args", "most"]^ahH K_:=by
 exists T.run,o8,#[c,a,us,rs,xs,most,rfl,hc,T0,h0,hl,hok,ha,hx,Fs,hm,q],"-=3ó*1-=4J-¾5-¾6-e{62-®6@¿-=7M05-?H:7+<>A.4.yD3:7*6ÎxH:7+BL4*yD3:7+?a:7r+B/Ax .7*3+=5/Cv .7*3+<>A.4.©*6",8,#[rfl,rfl,rfl,rfl],#[rfl,rfl,rfl,rfl],(by with_unfolding_all rfl);let cD:=T.k9.q;let Ba:=T0.length;lk;ext d H1 n1 l H2 n2;let UV:d≠l:=λe=>by have:=n2.1;rw[<- e,n1.self] at this;cases this
 let Zq:H l=none:=by walk_at "free"
 let hdf:H d=none:=n1.1;generalize hres:runM rs most 0 (oF xs) [] 0=res at q;show jV (λm U' H'=>∃(n:B)(pl:Z)(b:Bx)(kvs:List (Key×V))(aL:List Z)(x:Option V),U'=[!.ref c,!.ref a,!.int most,!.ref d,!.ref l,!.int pl,!.int n,x]/\m=most-n/\n<=most/\az H H' /\
  H' d=!.dK kvs/\H' l=!.lst^aL.map V.int/\Rep kvs b/\mP b/\nF bn pl/\ce<=1000+n/\aL.length<=n/\runM rs (most-n) pl b aL n=res) ?_ ?_
 .show#[most,0,0,oF xs,_,[],_,Y,∅,∅,by walk_at "same", n2.keep n1.self,n2.self,rep0 xs,SH Fs,#[∅,∅],?_,aq _,hres];have:=iu (λi=>.inl (i:Z)) (λi=>(xs.map V.int).getD i .cH) (xs.map V.int).length;rw[au] at this;unfold nW;rw[au];lia
 .rintro m U' H' ⟨n,pl,b,kvs,aL,x,rfl,rfl,hn,sm,hd,HI,P3,v8,WF,xM,hsn,uP⟩;let NE:rs[pl.toNat]?=!(rs[pl.toNat]'(by have:=WF.1;have:=WF.2;lia)):=by simp
  generalize rs[pl.toNat]'(by have:=WF.1;have:=WF.2;lia)=r at NE;let nI:=hok r^ie NE;let#[ra,QR,lS]:=yj (T0.same sm) NE;rw[show((pl.toNat:B):Z)=pl by have:=WF.1;lia] at QR;let Gc:=sm _ _ hc;lk
  .rename_i hlt;let hlt:n<most:=∅;let ef:most-n=(most-(n+1))+1:=∅;show cZ (bJ.of Gc) QR ?_;let fin:∀W1(GK:List Z) H'',(∀i,r≠.back i)->GK=aL++r.sends b->az H H''->H'' d=!.dK W1->H'' l=!.lst^GK.map V.int->Rep W1^r.iF b->W1.length<=ce+1->GK.length<=aL.length+1 ->
     ∃m',m'<most-n/\∃(n2:B)(Iw:Z)(b2:Bx)(ac9:List (Key×V))(SI:List Z)(x2:Option V),[!.ref c,!.ref a,!.int most,!.ref d,!.ref l,!.int^r.jF^r.iF b,!.int ((n:Z)+1),!.ref ra]=[!.ref c,!.ref a,!.int most,!.ref d,!.ref l,!.int Iw,!.int n2,x2]/\m'=most-n2/\n2<=most/\az H H'' /\
      H'' d=!.dK ac9/\H'' l=!.lst^SI.map V.int/\Rep ac9 b2/\mP b2/\nF bn Iw/\ac9.length<=1000+n2/\SI.length<=n2/\runM rs (most-n2) Iw b2 SI n2=res:=by intro W1 GK H'' hb es s' IN FS uQ Qr Ix;rw[ef,Cy NE hb,<- es] at uP;show#[most-(n+1),∅,n+1,r.jF b,r.iF b,W1,GK,!.ref ra,by rw[N6];rfl,Y,∅,s',IN,FS,uQ,Row.Aw nI v8,Row.LC nI hb,∅,∅,uP]
   cases r with
   | num e1 e2 e3 e4 =>
    erw[Row.vals,Row.key,Row.rest] at lS;walk_at "goq";let lQ:H' ra=!.tup (Row.num e1 e2 e3 e4).vals:=lS;show#[ra,d,.num e1 e2 e3 e4,kvs,b,_,Y,lQ,hd,P3,v8,nI,trivial,∅,λH3 H4 W1 s3 p4 uQ GE=>?_];let NN:=p4.keep (cB (s3 _ _ lQ) (s3 _ _ hd) (by intro z;cases z))^s3 _ _ lQ;lk;show#[ra,d,.num e1 e2 e3 e4,W1,_,_,Y,NN,p4.self,uQ,nI,?_];lk;show fin W1 aL H4 (λi h=>nomatch h) (ck _).symm (p4.same (sm.trans s3) hdf) p4.self (p4.keep (aM UV)^s3 _ _ HI) uQ GE^b9 _
   | copy e1 e2 e3 e4 =>
    erw[Row.vals,Row.key,Row.rest] at lS;walk_at "goq";let lQ:H' ra=!.tup (Row.copy e1 e2 e3 e4).vals:=lS;show#[ra,d,.copy e1 e2 e3 e4,kvs,b,_,Y,lQ,hd,P3,v8,nI,trivial,∅,λH3 H4 W1 s3 p4 uQ GE=>?_];let NN:=p4.keep (cB (s3 _ _ lQ) (s3 _ _ hd) (by intro z;cases z))^s3 _ _ lQ;lk;show#[ra,d,.copy e1 e2 e3 e4,W1,_,_,Y,NN,p4.self,uQ,nI,?_];lk;show fin W1 aL H4 (λi h=>nomatch h) (ck _).symm (p4.same (sm.trans s3) hdf) p4.self (p4.keep (aM UV)^s3 _ _ HI) uQ GE^b9 _
   | op e1 e2 e3 e4 e5 e6 =>
    erw[Row.vals,Row.key,Row.rest] at lS;walk_at "goq";let lQ:H' ra=!.tup (Row.op e1 e2 e3 e4 e5 e6).vals:=lS;show#[ra,d,.op e1 e2 e3 e4 e5 e6,kvs,b,_,Y,lQ,hd,P3,v8,nI,trivial,∅,λH3 H4 W1 s3 p4 uQ GE=>?_];let NN:=p4.keep (cB (s3 _ _ lQ) (s3 _ _ hd) (by intro z;cases z))^s3 _ _ lQ;lk;show#[ra,d,.op e1 e2 e3 e4 e5 e6,W1,_,_,Y,NN,p4.self,uQ,nI,?_];lk;show fin W1 aL H4 (λi h=>nomatch h) (ck _).symm (p4.same (sm.trans s3) hdf) p4.self (p4.keep (aM UV)^s3 _ _ HI) uQ GE^b9 _
   | out e1 e2 =>
    erw[Row.vals,Row.key,Row.rest] at lS;walk_at "goq";let lQ:H' ra=!.tup (Row.out e1 e2).vals:=lS;ext H3 p3;rw[P3 _ nI.1] at p3;let Ng:=p3.keep (cB lQ HI (by intro z;cases z)) lQ;let xr:=p3.keep UV hd;show#[ra,d,.out e1 e2,kvs,b,_,Y,Ng,xr,P3,nI,?_];lk;show fin kvs _ H3 (λi h=>nomatch h) Y (p3.same sm Zq) xr (by rw[p3.self,bf];rfl) P3 (b9 _) ?_;rw[aP];show aq _
   | fork e1 e2 e3 =>
    erw[Row.vals,Row.key,Row.rest] at lS;walk_at "goq";let lQ:H' ra=!.tup (Row.fork e1 e2 e3).vals:=lS;show#[ra,d,.fork e1 e2 e3,kvs,b,_,Y,lQ,hd,P3,nI,?_];lk;show fin kvs aL H' (λi h=>nomatch h) (ck _).symm sm hd HI P3 (b9 _)^b9 _
   | look e1 e2 =>
    erw[Row.vals,Row.key,Row.rest] at lS;walk_at "goq";let lQ:H' ra=!.tup (Row.look e1 e2).vals:=lS;show#[ra,d,.look e1 e2,kvs,b,_,Y,lQ,hd,P3,nI,?_];lk;show fin kvs aL H' (λi h=>nomatch h) (ck _).symm sm hd HI P3 (b9 _)^b9 _
   | mark e1 =>
    erw[Row.vals,Row.key,Row.rest] at lS;walk_at "goq";let lQ:H' ra=!.tup (Row.mark e1).vals:=lS;show#[ra,d,.mark e1,kvs,b,_,Y,lQ,hd,P3,nI,?_];lk;show fin kvs aL H' (λi h=>nomatch h) (ck _).symm sm hd HI P3 (b9 _)^b9 _
   | back e1 =>
    erw[Row.vals,Row.key,Row.rest] at lS;walk_at "goq";let lQ:H' ra=!.tup (Row.back e1).vals:=lS;ext t3 H3 n3;rw[P3 _ nI] at n3;rw[ef,Cw NE] at uP;subst uP;show q t3 l H3 (sm.trans n3.same) Zq n3.self^n3.keep HI
  .rename_i hge t1 H3 n3;let hn':n=most:=∅;rw[hn',Nat.sub_self] at uP;subst uP;show q t1 l H3 (sm.trans n3.same) Zq (by rw[n3.self,hn'];rfl)^n3.keep HI
structure eV where
 rs:List Row
 b0:Bx
 b1:Bx
 pl:Int
 mr:Int
 wd:Str
 aL:List Int
 an:Option Int
 n:Nat
structure Ta where
 dx:Addr
 lc:Addr
 ls:Addr
 d0:Addr
 d1:Addr
 l:Addr
def LD(A:Ta)(m:eV):List (ax×V):=vI (¬A.lc) (¬A.ls) (.int m.pl) (.int m.mr) (.str m.wd) (¬A.l) (GJ m.an)^.int m.n
structure fR (C:Addr) (H:Hp) (p:Addr) (A:Ta) (m:eV) (UF:Nat):Prop where
 ob:H p=!.ins C A.dx^LD A m
 co:∃us,H A.lc=!.lst us/\Rows H us m.rs
 si:H A.ls=!(.lst [¬A.d0,¬A.d1])
 e0:∃kvs,H A.d0=!.dK kvs/\Rep kvs m.b0/\kvs.length<=UF
 e1:∃kvs,H A.d1=!.dK kvs/\Rep kvs m.b1/\kvs.length<=UF
 se:H A.l=!(.lst^m.aL.map V.int)
 v0:mP m.b0
 v1:mP m.b1
 ne:A.d0≠A.d1/\A.lc≠A.l/\A.ls≠A.l
 ok:∀r∈m.rs,r.ok m.rs.length
def Fr(p:ae)(A:Ta)(H H':Hp):=∀b o,H b=!o->b≠p->b≠A.d0->b≠A.d1->b≠A.l->H' b=!o
def Fr.refl{p:ae}{A:Ta}{H:Hp}:Fr p A H H:=λz z h z z z z=>h
def Fr.trans{p:ae}{A:Ta}{H2:Hp}(a:Fr p A H H1)(b:Fr p A H1 H2):Fr p A H H2:=λc o h n1 n2 n3 n4=>b c o (a c o h n1 n2 n3 n4) n1 n2 n3 n4
def az.fr{p:ae}{A:Ta}(e:az H H1):Fr p A H H1:=λc o h z z z z=>e c o h
section
variable {p:ae}{A:Ta}{m:eV}{UF:B}
def fR.tups(t:fR C H p A m UF)(f:Fr p A H H'):bT H H':=λb xs h=>by let#[k0,h0,_]:=t.e0;let#[k1,h1,_]:=t.e1;show f b _ h (cB h t.ob (by intro z;cases z)) (cB h h0 (by intro z;cases z)) (cB h h1 (by intro z;cases z))^cB h t.se (by intro z;cases z)
theorem fR.same(t:fR C H p A m UF)(e:az H H'):fR C H' p A m UF:=by let#[us,h1,h2]:=t.co;let#[k0,h3,h4]:=t.e0;let#[k1,h5,h6]:=t.e1;show#[e _ _ t.ob,#[us,e _ _ h1,h2.same e],e _ _ t.si,#[k0,e _ _ h3,h4],#[k1,e _ _ h5,h6],e _ _ t.se,t.v0,t.v1,t.ne,t.ok]
theorem fR.le(t:fR C H p A m UF){ahI:B}(h:UF<=ahI):fR C H p A m ahI:=by let#[k0,h3,h4,h5]:=t.e0;let#[k1,h6,h7,h8]:=t.e1;show#[t.ob,t.co,t.si,#[k0,h3,h4,∅],#[k1,h6,h7,∅],t.se,t.v0,t.v1,t.ne,t.ok]
def fR.set(t:fR C H p A m UF){m':eV}(h:nU H p (.ins C A.dx^LD A m') H')(e1:m'.rs=m.rs)(e2:m'.b0=m.b0)(e3:m'.b1=m.b1)(e4:m'.aL=m.aL):fR C H' p A m' UF/\Fr p A H H':=by let#[us,h1,h2]:=t.co;let#[k0,h3,h4]:=t.e0;let#[k1,h5,h6]:=t.e1;let fr:Fr p A H H':=λb o hb n1 q q q=>h.keep n1 hb;let tt:=t.tups fr;let k:∀{b:ae}{o:HO},H b=!o->(∀dx fs,o≠.ins C dx fs)->H' b=!o:=λhb ho=>h.keep (cB hb t.ob^ho _ _) hb;show#[#[h.self,#[us,k h1 (by intro _ _ z;cases z),by rw[e1];show Rows.gp tt h2],k t.si (by intro _ _ z;cases z),#[k0,k h3 (by intro _ _ z;cases z),by rw[e2];show h4],#[k1,k h5 (by intro _ _ z;cases z),by rw[e3];show h6],?_,by rw[e2];show t.v0,by rw[e3];show t.v1,t.ne,by rw[e1];show t.ok],fr];rw[e4];show k t.se (by intro _ _ z;cases z)
def fR.send(t:fR C H p A m UF){ys:List Z}(h:nU H A.l (.lst^ys.map V.int) H'):fR C H' p A { m with aL:=ys } UF/\Fr p A H H':=by let#[us,h1,h2]:=t.co;let#[k0,h3,h4]:=t.e0;let#[k1,h5,h6]:=t.e1;let fr:Fr p A H H':=λb o hb q q q n4=>h.keep n4 hb;let tt:=t.tups fr;show#[#[h.keep (cB t.ob t.se (by intro z;cases z)) t.ob,#[us,h.keep t.ne.2.1 h1,Rows.gp tt h2],h.keep t.ne.2.2 t.si,#[k0,h.keep (cB h3 t.se (by intro z;cases z)) h3,h4],#[k1,h.keep (cB h5 t.se (by intro z;cases z)) h5,h6],h.self,t.v0,t.v1,t.ne,t.ok],fr]
theorem fR.amV(t:fR C H p A m UF){kvs:List (Key×V)}(h:nU H A.d0 (.dK kvs) H')(P3:Rep kvs b)(hv:mP b)(hl:ce<=UF+1):fR C H' p A { m with b0:=b } (UF+1)/\Fr p A H H':=by let#[us,h1,h2]:=t.co;let#[k0,h3,h4]:=t.e0;let#[k1,h5,h6,h7]:=t.e1;let fr:Fr p A H H':=λb o hb q n2 q q=>h.keep n2 hb;let tt:=t.tups fr;show#[#[h.keep (cB t.ob h3 (by intro z;cases z)) t.ob,#[us,h.keep (cB h1 h3 (by intro z;cases z)) h1,Rows.gp tt h2],h.keep (cB t.si h3 (by intro z;cases z)) t.si,#[kvs,h.self,P3,hl],#[k1,h.keep (aM t.ne.1) h5,h6,∅],h.keep (cB t.se h3 (by intro z;cases z)) t.se,hv,t.v1,t.ne,t.ok],fr]
theorem fR.amW(t:fR C H p A m UF){kvs:List (Key×V)}(h:nU H A.d1 (.dK kvs) H')(P3:Rep kvs b)(hv:mP b)(hl:ce<=UF+1):fR C H' p A { m with b1:=b } (UF+1)/\Fr p A H H':=by let#[us,h1,h2]:=t.co;let#[k0,h3,h4,h7]:=t.e0;let#[k1,h5,h6]:=t.e1;let fr:Fr p A H H':=λb o hb q q n3 q=>h.keep n3 hb;let tt:=t.tups fr;show#[#[h.keep (cB t.ob h5 (by intro z;cases z)) t.ob,#[us,h.keep (cB h1 h5 (by intro z;cases z)) h1,Rows.gp tt h2],h.keep (cB t.si h5 (by intro z;cases z)) t.si,#[k0,h.keep t.ne.1 h3,h4,∅],#[kvs,h.self,P3,hl],h.keep (cB t.se h5 (by intro z;cases z)) t.se,t.v0,hv,t.ne,t.ok],fr]
end
def eV.side(m:eV)(s:Z):Bx:=if s=0 then m.b0 else m.b1
def eV.go(m:eV)(q:Z):eV:={ m with mr:=Builtin.bitXor (Builtin.bitXor m.mr m.pl) q,pl:=q }
def Row.Zr(m:eV):bp->ci
 | .mark _=>decide (m.mr≠m.pl)
 | .out i _=>decide (m.mr≠m.pl)||decide (m.b0 i≠m.b1 i)
 | .back i=>decide (m.mr≠m.pl)||decide (m.b0 i≠m.b1 i)
 | .fork i _ _=>decide (m.b0 i=0) != decide (m.b1 i=0)
 | .look i _=>decide (m.b0 i≠m.b1 i)
 | _=>false
def eV.qR(m:eV):Bool:=match m.rs[m.pl.toNat]? with
 | none=>true
 | some r=>r.Zr m
def eV.pX(m:eV)(r:bp):eV:={ m with b0:=if r.sd=0\/r.sd=2 then r.iF m.b0 else m.b0,b1:=if r.sd=1\/r.sd=2 then r.iF m.b1 else m.b1 }
def Row.on(m:eV):bp->eV
 | .back i=>{ m with wd := "back", an:=!(m.b0 i) }
 | .out i q=>({ m with aL:=m.aL++[m.b0 i] }).go q
 | .fork i q p=>m.go (if m.b0 i≠0 then q else p)
 | .look _ q=>m.go q
 | .mark q=>m.go q
 | .num d k v q=>(m.pX^.num d k v q).go q
 | .copy d k i q=>(m.pX^.copy d k i q).go q
 | .op d s k i j q=>(m.pX^.op d s k i j q).go q
def eV.more(m:eV):eV:={ m with n:=m.n+1 }
def eV.step(m:eV):eV:=if m.wd ≠ "" then m else if m.more.qR=am then { m.more with wd := "cry" } else match m.rs[m.pl.toNat]? with
 | none=>m.more
 | some r=>r.on m.more
inductive ahJ(C:Addr)(vs:List V)(H:Hp)(Q:VK)(z:XK):Prop|mk(p:Addr)(A:Ta)(m:eV)(UF:Nat)(s k:Int)(z:vs=[¬p,.int s,.int k])(z:fR C H p A m UF)(z:(s=0\/s=1))(z:lq k)(z:Q (.int^m.side s k) H)
def SJ(T:Txt w8 K_ m_):bK P_ w8 K_ m_ b_ fX 1 T.eK.f T.eK.d ["self", "side", "k"]^ahJ T.bq:=by
 show T.eK.F.ok FN (λvs H Q E h=>?_) (λcdv A0 outer s H vs Q E hr h=>?_);let#[p,A,m,UF,s,k,Y,_]:=h;rfl;let#[p,A,m,UF,s,k,Y,tw,hs,hk,q]:=h;let cl:=T.kP.cl;let na1:=T.lK;show#[_,(ao^aD^jv (d9 hr) (aI aV (eF (pv 0) Y)^pv 1) (pv 2) ai #[Y,Y,Y,Y]),?_];change(_:TS) (Ends.mk _ _ _ _) [_,_,_] H;let IO:=tw.ob;unfold LD at IO;let#[k0,h0,r0,_]:=tw.e0;let#[k1,h1,r1,_]:=tw.e1;k_in;lk;rcases hs with rfl|rfl
 .show cZ (bJ.of tw.si) (v:=¬A.d0) Y ?_;lk;rw[r0 k hk];show q
 .show cZ (bJ.of tw.si) (v:=¬A.d1) Y ?_;lk;rw[r1 k hk];show q
inductive Jy(C:Addr)(vs:List V)(H:Hp)(Q:VK)(z:XK):Prop|mk(p:Addr)(A:Ta)(m:eV)(UF:Nat)(z:vs=[¬p])(z:fR C H p A m UF)(z:∀t l H',az H H'->H l=none->H' t=!.tup [.str m.wd,¬l,GJ m.an,.int m.n]->H' l=!.lst^m.aL.map V.int->Q (¬t) H')
def W8(T:Txt w8 K_ m_):bK P_ w8 K_ m_ b_ fX 1 T.mh.f T.mh.d ["self"]^Jy T.bq:=by show T.mh.F.ok Dl (λvs H Q E h=>?_) (λcdv A0 outer s H vs Q E hr h=>?_);let#[p,A,m,UF,Y,_]:=h;rfl;let#[p,A,m,UF,Y,tw,q]:=h;let cl:=T.kP.cl;let na1:=T.iO;let na2:=T.nB;let na3:=T.kG;let na4:=T.jo;show#[_,(ao^aD^aY^aa (eF (pv 0) Y)^aa (bN jd Y T.lM BT.m8^aa (eF (pv 0) Y) af)^aa (eF (pv 0) Y)^aa (eF (pv 0) Y) af),?_];change(_:TS) (Ends.mk _ _ _ _) [_] H;let IO:=tw.ob;let hse:=tw.se;unfold LD at IO;k_in;lk;ext l H1 n1 t H2 n2;show q t l H2 (n1.same.trans n2.same) n1.1 n2.self^n2.keep n1.self
inductive SK(C:Addr)(vs:List V)(H:Hp)(Q:VK)(q:XK):Prop|mk(p:Addr)(A:Ta)(m:eV)(UF:Nat)(z:Int)(q:vs=[¬p,.int z])(q:fR C H p A m UF)(q:∀H',fR C H' p A (m.go z) UF->Fr p A H H'->Q .cH H')
def SM(T:Txt w8 K_ m_):bK P_ w8 K_ m_ b_ fX 1 T.kH.f T.kH.d ["self", "to"]^SK T.bq:=by show T.kH.F.ok A2 (λvs H Q E h=>?_) (λcdv A0 outer s H vs Q E hr h=>?_);let#[p,A,m,UF,z,Y,_]:=h;rfl;let#[p,A,m,UF,z,Y,tw,q]:=h;let cl:=T.kP.cl;let na1:=T.kF;let na2:=T.nA;show#[_,(ak (ja (pv 0) (aO Hs (aO Hs (eF (pv 0) Y)^eF (pv 0) Y)^pv 1) Y)^ao^ja (pv 0) (pv 1) Y),?_];change(_:TS) (Ends.mk _ _ _ _) [_,_] H;let IO:=tw.ob;unfold LD at IO;k_in;lk;ext H1 p1 H2 p2;let#[t1,f1]:=tw.set (m':={ m with mr:=Builtin.bitXor (Builtin.bitXor m.mr m.pl) z }) p1 Y rfl rfl rfl;let#[t2,f2]:=t1.set (m':=m.go z) p2 Y rfl rfl rfl;show q H2 t2^f1.trans f2
def xB{x y:ci}(h:Q (.bl x) H)(e:x=y):Q (.bl y) H:=e▸h
def lR{Q':VK}{E:XK}(h:uO vs H Q E)(k:∀v H',Q v H'->Q' v H'):uO vs H Q' E:=by let#[a,d,r,kvs,b,n,h1,h2,h3,h4,h5,h6]:=h;show#[a,d,r,kvs,b,n,h1,h2,h3,h4,h5,k _ _ h6]
inductive adb(C:Addr)(vs:List V)(H:Hp)(Q:VK)(z:XK):Prop|mk(p:Addr)(A:Ta)(m:eV)(UF:Nat)(z:vs=[¬p])(z:fR C H p A m UF)(z:0<=m.pl)(z:∀H',az H H'->Q (.bl m.qR) H')
theorem GL(T:Txt w8 K_ m_):bK P_ w8 K_ m_ b_ fX 2 T.gZ.f T.gZ.d ["self"]^adb T.bq:=by
 show T.gZ.F.ok l8 (λvs H Q E h=>?_) (λcdv A0 outer s H vs Q E hr h=>?_);let#[p,A,m,UF,Y,_]:=h;rfl;let#[p,A,m,UF,Y,tw,WF,q]:=h;let iw:=SJ T;let cl:=T.kP.cl;let na1:=T.kF;let na2:=T.nA;let na3:=T.ny;show#[_,(ak (bF (bZ XW (eF (pv 0) Y)^aT bh Y T.eL BT.eG^aa (eF (pv 0) Y) af) (ao^aD ku) aS)^ak (bu 1 l8.nd^aI aV (eF (pv 0) Y)^eF (pv 0) Y)^iL (bF (PW.pt^lI (dJ dO (aI aA (pv 1) ai) (aY^aa aH^aa aH^aa aH af)^by with_unfolding_all rfl)^jm^bZ wu (eF (pv 0) Y)^eF (pv 0) Y) (ao^aD ku) aS)^ak (bF (bZ bY (aI aA (pv 1) ai) aH) (ao^aD^gf wu (gf bY (jT (pv 0) T.kP.cl T.eK.me iw (hr.mono^by first|decide|lia) T.eK.b .nil iV^aa ai^aa (aI aA (pv 1) ai) af) ai^i9 _) (gf bY (jT (pv 0) T.kP.cl T.eK.me iw (hr.mono^by first|decide|lia) T.eK.b .nil iV^aa ai^aa (aI aA (pv 1) ai) af) ai^i9 _)^i9 _) aS)^ao^aD^vo (gf dO (aI aA (pv 1) ai) (aY^aa aH^aa aH^aa aH af)^by with_unfolding_all rfl)^vm^gf wu (jT (pv 0) T.kP.cl T.eK.me iw (hr.mono^by first|decide|lia) T.eK.b .nil iV^aa ai^aa (aI aA (pv 1) ai) af) (jT (pv 0) T.kP.cl T.eK.me iw (hr.mono^by first|decide|lia) T.eK.b .nil iV^aa ai^aa (aI aA (pv 1) ai) af)^i9 _),?_];change(_:TS) (Ends.mk _ _ _ _) [_,_] H;let IO:=tw.ob;unfold LD at IO;let#[us,hco,fU]:=tw.co;let Ba:=fU.length;k_in;lk
 .rename_i hge;let e:m.qR=true:=by unfold eV.qR;rw[iY ∅]
  rw[e] at q;show q _^az.refl _
 ext hlt;let hlt:m.pl.toNat<m.rs.length:=∅;let NE:m.rs[m.pl.toNat]?=some m.rs[m.pl.toNat]:=by simp
 generalize m.rs[m.pl.toNat]=r at NE;let#[ra,QR,lS]:=yj fU NE;rw[show((m.pl.toNat:B):Z)=m.pl by lia] at QR;let hok:=tw.ok r^ie NE;let ec:m.qR=r.Zr m:=by unfold eV.qR;rw[NE]
 rw[ec] at q;show cZ (bJ.of hco) QR ?_;cases r
 all_goals erw[Row.vals,Row.key,Row.rest] at lS
 all_goals erw[Row.Zr] at q
 all_goals walk_at "goq"
 .show q _ (by walk_at "same")
 .show q _ (by walk_at "same")
 .show q _ (by walk_at "same")
 .show xB (q _^by walk_at "same") (by simp[*])
 .show#[p,A,m,UF,0,_,Y,tw.same^by walk_at "same",.inl Y,hok.1,?_];lk;show#[p,A,m,UF,1,_,Y,tw.same^by walk_at "same",.inr Y,hok.1,?_];lk;show xB (q _^by walk_at "same") (by simp[*,eV.side])
 .show#[p,A,m,UF,0,_,Y,tw.same^by walk_at "same",.inl Y,hok.1,?_];lk;show#[p,A,m,UF,1,_,Y,tw.same^by walk_at "same",.inr Y,hok.1,?_];lk;show xB (q _^by walk_at "same") Y
 .show#[p,A,m,UF,0,_,Y,tw.same^by walk_at "same",.inl Y,hok.1,?_];lk;show#[p,A,m,UF,1,_,Y,tw.same^by walk_at "same",.inr Y,hok.1,?_];lk;show xB (q _^by walk_at "same") (by simp[eV.side])
 .show xB (q _^by walk_at "same") (by simp[*])
 .show xB (q _^by walk_at "same") (by simp[*])
 .show xB (q _^by walk_at "same") (by simp[*])
 .show#[p,A,m,UF,0,_,Y,tw.same^by walk_at "same",.inl Y,hok,?_];lk;show#[p,A,m,UF,1,_,Y,tw.same^by walk_at "same",.inr Y,hok,?_];lk;show xB (q _^by walk_at "same") (by simp[*,eV.side])
def eV.LF(m:eV)(r:bp):eV:={ m with b0:=if r.sd=0\/r.sd=2 then r.iF m.b0 else m.b0 }
inductive W9(C:Addr)(vs:List V)(H:Hp)(Q:VK)(z:XK):Prop|mk(p ra:Addr)(A:Ta)(m:eV)(r:Row)(UF:Nat)(z:vs=[¬p,¬ra])(z:fR C H p A m UF)(z:H ra=!.tup r.vals)(z:r∈m.rs)(z:m.aL.length<=100000)(z:UF<=90000)(z:∀H',fR C H' p A (r.on m) (UF+2)->Fr p A H H'->Q .cH H')
theorem N7(T:Txt w8 K_ m_):bK P_ w8 K_ m_ b_ fX 4 T.jA.f T.jA.d ["self", "row"]^W9 T.bq:=by
 show T.jA.F.ok pq (λvs H Q E h=>?_) (λcdv A0 outer s H vs Q E hr h=>?_);let#[p,ra,A,m,r,UF,Y,_]:=h;rfl;let#[p,ra,A,m,r,UF,Y,tw,lS,hmem,HI,hcap,q]:=h;let iw:=SJ T;let DQ:=SM T;let cl:=T.kP.cl;let na1:=T.iO;let na2:=T.kG;let na3:=T.nB;let na4:=T.lK;let cD:=T.k9.q;let cS:=T.xm.q;show#[_,(ak (bF (bZ bY (aI aA (pv 1) ai) aH) (ak (ja (pv 0) aH Y)^ak (ja (pv 0) (jT (pv 0) T.kP.cl T.eK.me iw (hr.mono^by first|decide|lia) T.eK.b .nil iV^aa ai^aa (aI aA (pv 1) ai) af) Y)^ao JL) aS)^iL (bF (bZ bY (aI aA (pv 1) ai) aH) (ao^bD^fm bI dg di bS (eF (pv 0) Y)^aa (jT (pv 0) T.kP.cl T.eK.me iw (hr.mono^by first|decide|lia) T.eK.b .nil iV^aa ai^aa (aI aA (pv 1) ai) af) af)^ao^bF (dJ dO (aI aA (pv 1) ai) (jw T.k9.c)^by with_unfolding_all rfl) (ao^dZ bH Y (yP^jw T.xm.c) (fH 2 pq.nd)^ao^bF (dJ dO (aI aA (pv 1) ai) (aY^aa (pv 2)^aa (BR T.Rp.c) af)^by with_unfolding_all rfl) (ao^bD^aK T.uq (Ax T) hr^aa (pv 1)^aa (aI aV (eF (pv 0) Y)^pv 2) af) aS) aS)^ao^bD^jT (pv 0) T.kP.cl T.kH.me DQ (hr.mono^by first|decide|lia) T.kH.b .nil iV^aa (aK T.zW (Cv T) hr^aa (pv 1)^aa (aI aV (eF (pv 0) Y) ai) af) af),?_];change(_:TS) (Ends.mk _ _ _ _) [_,_,_] H;let hok:=tw.ok r hmem;let hse:=tw.se;let WF:p≠A.l:=cB tw.ob tw.se (by intro z;cases z);let ase:(m.aL.map V.int).length=m.aL.length:=au _;obtain⟨d,Hd⟩:∃d,r.sd=d:=#[_,rfl];obtain⟨rr,hrr⟩:∃x,x=r:=#[_,rfl];obtain⟨md0,N8⟩:∃x,x=m.LF r:=#[_,rfl];obtain⟨md,hmd⟩:∃x,x=m.pX r:=#[_,rfl];let N9:rr.ok m.rs.length:=by rw[hrr];show hok
 let QQ:∀(H1:Hp)(m1:eV)(Xa:B)(R:V->Hp->O)(q:∀H',fR T.bq H' p A (m1.go^rr.jF m1.b0) Xa->Fr p A H1 H'->R .cH H'),fR T.bq H1 p A m1 Xa->H1 ra=!.tup rr.vals->uO [¬ra,¬A.d0] H1 (λx H2=>SK T.bq [¬p,x] H2 R E0) E0:=by intro H1 m1 Xa R q1 t1 h1;let#[k0,h0,r0,_]:=t1.e0;show#[ra,A.d0,rr,k0,m1.b0,_,Y,h1,h0,r0,N9,p,A,m1,Xa,_,Y,t1,q1]
 by_cases EH:r.isD
 .obtain⟨rest,wK⟩:∃rest,r.vals=.str r.key::.int d::rest:=by rw[<- Hd];cases r<;>first|show#[_,Y]|show EH.elim
  let k1:Not (r.key = "back" ):= by cases r<;>first|show EH.elim|(erw[Row.key];decide)
  let k2:Not (r.key = "out" ):= by cases r<;>first|show EH.elim|(erw[Row.key];decide)
  let k3:xF (.str r.key) [.str "num", .str "copy", .str "op"]=true:=by cases r<;>first|show EH.elim|(erw[Row.key];decide)
  let hon:r.on m=md.go^r.jF md.b0:=by rw[hmd];cases r<;>first|show EH.elim|rfl
  let hd:d=0\/d=1\/d=2:=by
   have:zZ r.sd:=by cases r<;>first|show hok.1|show EH.elim
   rw[Hd] at this;unfold zZ at this;lia
  let Zt:rr.isD:=by rw[hrr];show EH
  rw[wK] at lS;rw[hon] at q;rw[<- hrr] at N8 hmd Hd;let IO:=tw.ob;unfold LD at IO;k_in;walk_at "goq";rw[if_pos k3];walk_at "goq";show f_tup (xs:=[.int 0,.int 1]) (λi U' H'=>Fr p A H H'/\∃x:Option V,U'=[!.ref p,!.ref ra,x]/\fR T.bq H' p A (if i=0 then m else if i=1 then md0 else md) (UF+i)) ?_ ?_ ?_ ?_;show#[Fr.refl,_,Y,tw];rintro i U' H' _ _;show cS.sq
  .rintro i v U' H1 hv ⟨f1,x,rfl,t1⟩;let xP:=tw.tups f1 _ _ lS;rcases i with _|_|i
   .erw[yE,Option.some.injEq] at hv;subst hv;rw[if_pos Y] at t1;rw[if_neg ∅,if_pos Y];let SO:=t1.ob;unfold LD at SO;let skip:(d≠0/\d≠2)->∀H2,az H1 H2->fR T.bq H2 p A md0 (UF+(0+1)):=λh H2 s2=>by rw[N8];unfold eV.LF;rw[Hd,if_neg ∅];show(t1.same s2).le ∅
    let act:(d=0\/d=2)->∀H2,az H1 H2->H2 ra=!.tup rr.vals->∀R:VK,(∀H3,Fr p A H1 H3->fR T.bq H3 p A md0 (UF+(0+1))->R .cH H3)->Jx K_ [¬ra,¬A.d0] H2 R E0:=λh H2 s2 adf R k=>by let#[k0,h0,r0,l0]:=(t1.same s2).e0;show#[ra,A.d0,rr,k0,m.b0,_,Y,adf,h0,r0,t1.v0,N9,Zt,∅,λH3 H4 W1 s3 put uQ GE=>?_];let#[t4,f4]:=((t1.same s2).same s3).amV put uQ (Row.Aw N9 t1.v0) ∅;show k H4 ((az.fr^s2.trans s3).trans f4) ?_;rw[N8];unfold eV.LF;rw[Hd,if_pos h];show t4
    rcases hd with rfl|rfl|rfl
    .walk_at "goq";show sM (eB.of xP) (dN (j:=1) Y) ?_;walk_at "goq";ext t2 H2 n2;show cZ (bJ.of^n2.keep t1.si) (v:=¬A.d0) Y ?_;walk_at "goq";show act (.inl Y) H2 n2.same (by rw[hrr,wK];show n2.keep xP) _ λH3 f3 t3=>#[f1.trans f3,_,Y,t3]
    .walk_at "goq";show sM (eB.of xP) (dN (j:=1) Y) ?_;walk_at "goq";ext t2 H2 n2;show#[f1.trans^az.fr n2.same,_,Y,skip ∅ H2 n2.same]
    .walk_at "goq";show sM (eB.of xP) (dN (j:=1) Y) ?_;walk_at "goq";ext t2 H2 n2;show cZ (bJ.of^n2.keep t1.si) (v:=¬A.d0) Y ?_;walk_at "goq";show act (.inr Y) H2 n2.same (by rw[hrr,wK];show n2.keep xP) _ λH3 f3 t3=>#[f1.trans f3,_,Y,t3]
   .erw[Nat.zero_add,qU,yE,Option.some.injEq] at hv;subst hv;rw[if_neg ∅,if_pos Y] at t1;rw[if_neg ∅,if_neg ∅];let SO:=t1.ob;unfold LD at SO;let ev1:md0.b1=m.b1:=by rw[N8];rfl
    let em:md={ md0 with b1:=if d=1\/d=2 then rr.iF m.b1 else m.b1 }:=by rw[hmd,N8];unfold eV.pX eV.LF;rw[Hd]
    let skip:(d≠1/\d≠2)->∀H2,az H1 H2->fR T.bq H2 p A md (UF+(0+1+1)):=λh H2 s2=>by rw[em,if_neg ∅,<- ev1];show(t1.same s2).le ∅
    let asf:rr.ok md0.rs.length:=by rw[N8];show N9
    let act:(d=1\/d=2)->∀H2,az H1 H2->H2 ra=!.tup rr.vals->∀R:VK,(∀H3,Fr p A H1 H3->fR T.bq H3 p A md (UF+(0+1+1))->R .cH H3)->Jx K_ [¬ra,¬A.d1] H2 R E0:=λh H2 s2 adf R k=>by let#[k0,h0,r0,l0]:=(t1.same s2).e1;show#[ra,A.d1,rr,k0,md0.b1,_,Y,adf,h0,r0,t1.v1,N9,Zt,∅,λH3 H4 W1 s3 put uQ GE=>?_];let#[t4,f4]:=((t1.same s2).same s3).amW put uQ (Row.Aw N9 t1.v1) ∅;show k H4 ((az.fr^s2.trans s3).trans f4) ?_;rw[em,if_pos h,<- ev1];show t4
    rcases hd with rfl|rfl|rfl
    .walk_at "goq";show sM (eB.of xP) (dN (j:=1) Y) ?_;walk_at "goq";ext t2 H2 n2;show#[f1.trans^az.fr n2.same,_,Y,skip ∅ H2 n2.same]
    .walk_at "goq";show sM (eB.of xP) (dN (j:=1) Y) ?_;walk_at "goq";ext t2 H2 n2;show cZ (bJ.of^n2.keep t1.si) (v:=¬A.d1) Y ?_;walk_at "goq";show act (.inl Y) H2 n2.same (by rw[hrr,wK];show n2.keep xP) _ λH3 f3 t3=>#[f1.trans f3,_,Y,t3]
    .walk_at "goq";show sM (eB.of xP) (dN (j:=1) Y) ?_;walk_at "goq";ext t2 H2 n2;show cZ (bJ.of^n2.keep t1.si) (v:=¬A.d1) Y ?_;walk_at "goq";show act (.inr Y) H2 n2.same (by rw[hrr,wK];show n2.keep xP) _ λH3 f3 t3=>#[f1.trans f3,_,Y,t3]
   .simp at hv
  .rintro U' H1 ⟨f1,x,rfl,t1⟩;erw[bW,u0] at t1;rw[if_neg ∅,if_neg ∅] at t1;let xP:=tw.tups f1 _ _ lS;let SO:=t1.ob;unfold LD at SO;walk_at "goq";show cZ (bJ.of t1.si) (v:=¬A.d0) Y ?_;walk_at "goq";show lR (QQ H1 md _ (λy H1=>Q .cH H1) (λH' t' f'=>?_) t1 (by rw[hrr,wK];show xP)) (λx H2 h=>?_);rw[hrr] at t';show q H' t'^f1.trans f'
   .walk_at "goq";show h
 cases r
 case num|copy|op=>show absurd trivial EH
 all_goals erw[Row.vals,Row.key,Row.rest] at lS
 all_goals erw[Row.on] at q
 all_goals let IO:=tw.ob
 all_goals unfold LD at IO
 all_goals k_in
 all_goals walk_at "goq"
 .rename_i i q0;let hsi:=tw.si;let hls:=tw.ne.2.2;show#[p,A,m,UF,0,_,Y,tw,.inl Y,hok.1,?_];walk_at "goq";ext H1 p1;let p1':nU H A.l (.lst^(m.aL++[m.b0 i]).map V.int) H1:=by rw[bf];show p1
  let#[t1,f1]:=tw.send p1';show lR (QQ H1 _ UF (λy H1=>Q .cH H1) (λH' t' f'=>?_) t1 (by rw[hrr];show tw.tups f1 _ _ lS)) (λx H2 h=>?_);rw[hrr] at t';show q H' (t'.le ∅)^f1.trans f'
  .walk_at "goq";show h
 iterate 3
  focus
   show cZ (bJ.of tw.si) (v:=¬A.d0) Y ?_;walk_at "goq";show lR (QQ H m UF (λy H1=>Q .cH H1) (λH' t' f'=>?_) tw (by rw[hrr];show lS)) (λx H2 h=>?_);rw[hrr] at t';show q H' (t'.le ∅) f'
   .walk_at "goq";show h
 .rename_i i H1 p1;let#[t1,f1]:=tw.set (m':={ m with wd := "back" }) p1 Y rfl rfl rfl;show#[p,A,_,UF,0,_,Y,t1,.inl Y,hok,?_];walk_at "goq";ext H2 p2;let#[t2,f2]:=t1.set (m':={ m with wd := "back", an:=!(m.b0 i) }) p2 Y rfl rfl rfl;show q H2 (t2.le ∅)^f1.trans f2
def jG{p b:ae}(n:nU H p o H')(h:H' b=bc):H b=none:=by
 cases e:H b with
 | none=>rfl
 | some v =>
  by_cases z:b=p;rw[z,n.self] at h;cases h;rw[n.keep z e] at h;cases h
inductive SQ(C:Addr)(vs:List V)(H:Hp)(Q:VK)(z:XK):Prop|mk(p:Addr)(A:Ta)(m:eV)(UF:Nat)(z:vs=[¬p])(z:fR C H p A m UF)(z:0<=m.pl)(z:m.aL.length<=100000)(z:UF<=90000)(z:∀H',fR C H' p A m.step (UF+2)->Fr p A H H'->Q .cH H')
theorem Xb(T:Txt w8 K_ m_):bK P_ w8 K_ m_ b_ fX 5 T.mw.f T.mw.d ["self"]^SQ T.bq:=by
 show T.mw.F.ok Dp (λvs H Q E h=>?_) (λcdv A0 outer s H vs Q E hr h=>?_);let#[p,A,m,UF,Y,_]:=h;rfl;let#[p,A,m,UF,Y,tw,WF,HI,hcap,q]:=h;let xQ:=GL T;let Bj:=N7 T;let cl:=T.kP.cl;let na1:=T.iO;let na2:=T.jo;let na3:=T.ny;let na4:=T.nA;show#[_,(ak (bF (bZ wu (eF (pv 0) Y) aH) (ao JL) aS)^ak (L4 (pv 0) ai aaP)^ao^bF (i6^yU (pv 0) T.kP.cl T.gZ.me xQ (hr.mono^by first|decide|lia) T.gZ.b .nil iV) (ao^ja (pv 0) aH Y)^ao^bD^jT (pv 0) T.kP.cl T.jA.me Bj (hr.mono^by first|decide|lia) T.jA.b .nil iV^aa (aI aV (eF (pv 0) Y)^eF (pv 0) Y) af),?_];change(_:TS) (Ends.mk _ _ _ _) [_] H;let IO:=tw.ob;unfold LD at IO;k_in;lk
 .rename_i hw;let e:m.step=m:=by unfold eV.step;rw[if_pos^by simpa using hw]
  rw[e] at q;show q H (tw.le ∅) Fr.refl
 ext hw H1 p1;let#[t1,f1]:=tw.set (m':=m.more) p1 Y rfl rfl rfl;clear IO p1;let hw':Not (m.wd ≠ ""):=by simpa using hw
 show#[p,A,m.more,UF,Y,t1,WF,λH2 s2=>?_];let t2:=t1.same s2;let amY:=t2.ob;unfold LD at amY;cases hc:m.more.qR
 .have hr:∃r,m.rs[m.pl.toNat]?=!r:=by
   cases h:m.rs[m.pl.toNat]? with
   | none =>
    have:m.more.qR=true:=by change(match m.rs[m.pl.toNat]? with|none=>true|some r=>r.Zr m.more)=true;rw[h]
    rw[this] at hc;cases hc
   | some r=>show#[r,Y]
  let#[r,hr]:=hr;let#[us,hco,fU]:=t2.co;let#[ra,QR,lS]:=yj fU (show m.more.rs[m.pl.toNat]?=!r from hr);rw[show((m.pl.toNat:B):Z)=m.pl by lia] at QR;let e:m.step=r.on m.more:=by unfold eV.step;rw[if_neg hw',if_neg (by rw[hc];decide),hr]
  rw[e] at q;lk;show cZ (bJ.of hco) QR ?_;lk;show#[p,ra,A,m.more,r,UF,Y,t2,lS,ie hr,HI,hcap,λH3 t3 f3=>?_];lk;show q H3 t3^(f1.trans^az.fr s2).trans f3
 .have e:m.step={ m.more with wd := "cry" }:=by unfold eV.step;rw[if_neg hw',if_pos hc]
  rw[e] at q;lk;ext H3 p3;let#[t3,f3]:=t2.set (m':={ m.more with wd := "cry" }) p3 Y rfl rfl rfl;show q H3 (t3.le ∅)^(f1.trans^az.fr s2).trans f3
def xS(rs:List bp)(xs:List Z):eV:=#[rs,oF xs,oF xs,0,0, "", [],none,0]
inductive SR(C:Addr)(vs:List V)(H:Hp)(Q:VK)(z:XK):Prop|mk(p dx c a:Addr)(us:List V)(rs:List Row)(xs:List Int)(z:vs=[¬p,¬c,¬a])(z:H p=!.ins C dx [])(z:H c=!.lst us)(z:Rows H us rs)(z:(∀r∈rs,r.ok rs.length))(z:H a=!.lst^xs.map V.int)(z:xs.length<=1000)(z:(∀x∈xs,Val x))(z:∀H' A,fR C H' p A (xS rs xs) 1000->H A.lc=none->H A.ls=none->H A.d0=none->H A.d1=none->H A.l=none->(∀b o,H b=!o->b≠p->H' b=!o)->Q .cH H')
theorem Xc(T:Txt w8 K_ m_):bK P_ w8 K_ m_ b_ fX 2 T.gY.f T.gY.d ["self", "code", "args"]^SR T.bq:=by
 show T.gY.F.ok vO (λvs H Q E h=>?_) (λcdv A0 outer s H vs Q E hr h=>?_);let#[p,dx,c,a,us,rs,xs,Y,_]:=h;rfl;let#[p,dx,c,a,us,rs,xs,Y,hp,hc,fU,hok,ha,Q5,Fs,q]:=h;let cl:=T.kP.cl;let na1:=T.iO;let na2:=T.jo;let na3:=T.ny;let na4:=T.nA;let na5:=T.lK;let na6:=T.kF;let na7:=T.nB;let na8:=T.kG;let cS:=T.xm.q;show#[_,(ak (ja (pv 0) (bN jd Y T.lM BT.m8^aa (pv 1) af) Y)^ak (ja (pv 0) (fP (bG.cz "side" ["args"] [2] ["args"] Y) (yP^jw T.xm.c) (λj j j j=>fG) (λj j j j=>(C6 (K:=K_) Y rfl T.vQ Y T.fL^aa (pv 1) af))) Y)^ak (ja (pv 0) ai Y)^ak (ja (pv 0) ai Y)^ak (ja (pv 0) aH Y)^ak (ja (pv 0) (bQ af) Y)^ak (ja (pv 0) lH Y)^ao^ja (pv 0) ai Y),?_];change(_:TS) (Ends.mk _ _ _ _) [_,_,_] H;let hpa:a≠p:=cB ha hp (by intro z;cases z);let hpc:c≠p:=cB hc hp (by intro z;cases z);k_in;lk;ext l1 H1 n1 H2 p2;let hlp:l1≠p:=aM^n1.ne hp;let LE:=p2.keep hpa^n1.keep ha;show afq (xs:=[.int 0,.int 1]) (λi ys H'=>az H2 H'/\∃ds:List ae,A4 (ys=ds.map V.ref) (ds.length=i) ((∀d∈ds,H2 d=bc/\H' d=!.dK^nW^xs.map V.int)) ds.Nodup) ?_ ?_ ?_ ?_;show#[az.refl _,[],Y,Y,(λd h=>nomatch h),mT];rintro i ys H' _ _;show cS.sq
 .rintro i v ys H3 hv ⟨s3,ds,rfl,Hm,FV,hnd⟩;let hi:i<2:=(fK hv).1;show#[cV (by rw[au];lia),?_];let YW:=s3 _ _ LE;show Pz^UM ?_;dsimp only[cut];lk;ext d H4 n4;show#[s3.trans n4.same,ds++[d],by rw[bf];rfl,by simp[Hm],λd' h=>?_,?_];rcases aR.mp h with h|h;show#[(FV d' h).1,n4.keep (FV d' h).2];rw[aC.mp h];show#[s3.free n4.1,n4.self];rw[fN];show#[hnd,by simp,λx hx y hy e=>?_];rw[aC.mp hy] at e;have:=(FV x hx).2;rw[e,n4.1] at this;cases this
 rintro ys H3 ⟨s3,ds,rfl,Hm,FV,hnd⟩ ls H4 n4;obtain⟨d0,d1,rfl⟩:∃d0 d1,ds=[d0,d1]:=by
  match ds,Hm with
  | [a,b],_=>show#[a,b,Y]
 let hp4:H4 p=!.ins T.bq dx^tw1^V.ref l1:=n4.keep^s3 _ _ p2.self;lk;ext H5 p5 H6 p6 H7 p7 H8 p8 se H9 n9 Ca Lz IY xw Nj Nz;let kp8:∀b o,b≠p->H4 b=!o->H8 b=!o:=λb o ne h=>p8.keep ne^p7.keep ne^p6.keep ne^p5.keep ne h;let kp:∀b o,b≠p->H4 b=!o->Nj b=!o:=λb o ne h=>Nz.keep ne^xw.keep ne^Lz.keep ne^n9.keep^kp8 b o ne h;let k4:∀b o,b≠p->H b=!o->H4 b=!o:=λb o ne h=>n4.keep^s3 _ _^p2.keep ne^n1.keep h;let fr4:∀b,H4 b=bc->H b=none:=λb h=>n1.same.free^jG p2^s3.free^n4.same.free h;let hdp:∀d∈[d0,d1],d≠p:=λd h e=>by have:=(FV d h).1;rw[e,p2.self] at this;cases this
 let ahL:ls≠p:=λe=>by have:=n4.1;rw[e,s3 _ _ p2.self] at this;cases this
 let YV:H4 l1=!.lst us:=n4.keep^s3 _ _^p2.keep hlp n1.self;let hsep:se≠p:=λe=>by have:=n9.1;rw[e,p8.self] at this;cases this
 let el:(nW^xs.map V.int).length<=1000:=by have:=iu (λi=>.inl (i:Z)) (λi=>(xs.map V.int).getD i .cH) (xs.map V.int).length;unfold nW;rw[au] at this ⊢;lia
 let adg:H8 se=none:=n9.1;let tt:bT H Nj:=λb ys e=>kp b _ (cB e hp (by intro z;cases z))^k4 b _ (cB e hp (by intro z;cases z)) e;show q Nj #[dx,l1,ls,d0,d1,se] #[Nz.self,#[us,kp _ _ hlp YV,Rows.gp tt fU],kp _ _ ahL n4.self,#[_,kp _ _ (hdp d0^by simp)^n4.keep (FV d0^by simp).2,rep0 xs,el],#[_,kp _ _ (hdp d1^by simp)^n4.keep (FV d1^by simp).2,rep0 xs,el],?_,SH Fs,SH Fs,#[?_,?_,?_],hok] n1.1 (n1.same.free^jG p2^s3.free n4.1) (n1.same.free^jG p2 (FV d0^by simp).1) (n1.same.free^jG p2 (FV d1^by simp).1) (fr4 se^jG p5^jG p6^jG p7^jG p8 adg) (λb o hb ne=>kp b o ne^k4 b o ne hb);show Nz.keep hsep^xw.keep hsep^Lz.keep hsep n9.self;intro e;simp at hnd;show hnd e;show aE (kp8 _ _ hlp YV) adg;show aE (kp8 _ _ ahL n4.self) adg
def eV.run:B->eV->eV
 | 0,m=>m
 | k+1,m=>if m.wd = "" then eV.run k m.step else m
def eV.out(m:eV):Out:=#[if m.wd = "" then "tired" else m.wd,m.aL,m.an,m.n]
def pY(rs:List bp)(xs:List Z)(most:B):Out:=((xS rs xs).run most).out
def SS(r:bp)(m:eV):(r.on m).n=m.n/\(r.on m).rs=m.rs/\(r.on m).aL.length<=m.aL.length+1:=by
 cases r
 case out=>show#[Y,Y,by simp[Row.on,eV.go]]
 all_goals show#[Y,Y,b9 _]
def ahM{n:Z}(h:0<=m.pl)(hr:r.ok n):0<=(r.on m).pl:=by
 cases r
 case back=>show h
 case fork =>
  erw[Row.on,eV.go];split;show hr.2.1.1;show hr.2.2.1
 case num=>show hr.2.2.2.1
 case copy=>show hr.2.2.2.1
 case op=>show hr.2.2.2.2.2.1
 case out=>show hr.2.1
 case look=>show hr.2.1
 case mark=>show hr.1
def step_keeps(hw:m.wd = ""):m.step.n=m.n+1/\m.step.rs=m.rs/\m.step.aL.length<=m.aL.length+1:=by unfold eV.step;rw[if_neg^by simpa using hw];split;show#[Y,Y,b9 _];split;show#[Y,Y,b9 _];show SS _ _
def Xd{n:Z}(h:0<=m.pl)(hr:∀r∈m.rs,r.ok n):0<=m.step.pl:=by unfold eV.step;split;show h;split;show h;split;show h;ext r e;show ahM (m:=m.more) h^hr r^ie e
theorem wc(hw:m.wd ≠ ""):∀k,m.run k=m
 | 0=>rfl
 | k+1=>by change(if m.wd = "" then _ else m)=m;rw[if_neg hw]
def LG:Sp:=λz z z z=>False
def SV(T:Txt w8 K_ m_):bK P_ w8 K_ m_ b_ fX 2 T.mq.f T.mq.d ["self", "what"] LG :=
 T.mq.F.ok Dm (λz z z z h=>h.elim) (λz z z z z z z z z h=>h.elim)
inductive adh(vs:List V)(H:Hp)(Q:VK)(z:XK):Prop|mk(c a:Addr)(v:V)(us:List V)(rs:List Row)(xs:List Int)(most:Nat)(z:vs=[¬c,¬a,v,.int most])(z:H c=!.lst us)(z:Rows H us rs)(z:(∀r∈rs,r.ok rs.length))(z:H a=!.lst^xs.map V.int)(z:xs.length<=1000)(z:(∀x∈xs,Val x))(z:(v=.cH\/∃t,v=¬t/\H t=!.lst []))(z:most<=3000)(z:∀t l H',az H H'->H l=none->H' t=!.tup^(pY rs xs most).vals l->H' l=!.lst^(pY rs xs most).aL.map V.int->Q (¬t) H')
def TwI(C:ae)(H1:Hp)(c a d x:ae)(v:V)(A:Ta)(most:B)(fin:eV)(k:B)(U':L2.St)(H':Hp):=∃(m:eV),U'=[!.ref c,!.ref a,!v,!.int most,!.ref d,!.ref x,none]/\k=most-m.n/\m.n<=most/\az H1 H'/\fR C H' x A m (1000+3*m.n)/\0<=m.pl/\m.aL.length<=m.n/\m.run (most-m.n)=fin
theorem Xe(T:Txt w8 K_ m_):bK P_ w8 K_ m_ b_ fX 6 T.twin.f T.twin.d ["code", "args", "turns", "most"] adh:=by
 show T.twin.F.ok yd (λvs H Q E h=>?_) (λcdv A0 outer s H vs Q E hr h=>?_);let#[c,a,v,us,rs,xs,most,Y,_]:=h;rfl;let#[c,a,v,us,rs,xs,most,Y,hc,fU,hok,ha,Q5,Fs,htv,apw,q]:=h;let xT:=Xc T;let GN:=SV T;let GO:=Xb T;let GP:=W8 T;let cl:=T.kP.cl;let na1:=T.iO;let na2:=T.jo;show#[_,(ak (bu 4 yd.nd^dB (bZ J8 (pv 2) lH) sI^bN (wH Y) Y T.vQ BT.y9^aa (pv 2) af)^ak (bu 5 yd.nd^UG (T.kP.mk2 T.gY) xT (hr.mono^by first|decide|lia) rfl T.kP.m T.gY.b .nil iV^aa (pv 0)^aa (pv 1) af)^ak (iH bH (PW.pt^lI (bZ bY (eF (pv 5) rfl) aH)^jm^bZ oU (eF (pv 5) rfl)^pv 3)^iL (bF (CM^HG (d9 hr) (eF (pv 5) rfl)^pv 4) (ao^bD^jT (pv 5) T.kP.cl T.mq.me GN (hr.mono^by first|decide|lia) T.mq.b .nil iV^aa (iJ (d9 hr) (pv 4) (eF (pv 5) rfl) (λy y=>rfl)) af) aS)^ao^bD^yU (pv 5) T.kP.cl T.mw.me GO (hr.mono^by first|decide|lia) T.mw.b .nil iV)^ak (bu 6 yd.nd^yU (pv 5) T.kP.cl T.mh.me GP (hr.mono^by first|decide|lia) T.mh.b .nil iV)^ao^aD^dB (bZ wu (aI aA (pv 6) ai) aH) (pv 6)^aO qm (aY^aa aH af)^dF mZ (pv 6) (dM ai) gh),?_];change(_:TS) (Ends.mk _ _ _ _) [_,_,_,_,_,_,_] H;obtain⟨fin,ahN⟩:∃f,f=(xS rs xs).run most:=#[_,rfl];let am0:pY rs xs most=fin.out:=by rw[ahN];rfl
 rw[am0] at q;let tail:∀(v:V)(d:ae)(H1:Hp)(nn:L2.St->Hp->O),gU H d (.dK []) H1 ->
   (∀U H,(OB (Hj (aaB (wz^El rEq (L3 K_ (gT 5) "word")^tC^V.str "")^wz^El (LX λi j=>V.bl (decide (i<j))) (L3 K_ (gT 5) "steps")^gT 3)
      (Mi (aaD (tB^aaZ (L3 K_ (gT 5) "steps")^gT 4) (JK^Bp T.bq "turn" LG [] E0 (gT 5)^Eo (O7 (gT 4)^L3 K_ (gT 5) "steps") En) OA)
       (JK^Bp T.bq "step" (SQ T.bq) [] E0 (gT 5) En)))
     (OB (OF (Bp T.bq "told" (Jy T.bq) [] E0 (gT 5) En)^gc 6)
      (Uu (tIf (wz^El rNe (El (O0 K_) (gT 6)^tC^V.int 0)^tC^V.str "") (gT 6)
        (El (JV K_) (UE^Eo (tC^V.str "tired") En)^tSl (UI K_) (gT 6) (JU^tC^V.int 1) xY))))
     { nx:=λx H'=>Q V.cH H',rt:=Q }) U H->nn U H)->P0 T.bq (SR T.bq) E0 (λx H1=>gc 5 x [!V.ref c,!V.ref a,!v,!(V.int ↑most),!V.ref d,none,none] H1 nn) [V.ref c,V.ref a] H1:=by
  intro v d H1 nn n1 hnn;let KM:=n1.keep hc;let FB:=n1.keep ha;let Qb:=n1.self;let Gy:=fU.same n1.same;show abz ?_;intro x dx H2 hx hdx UV eH;let Tk:az H1 H2:=λb o h=>by rw[eH,bX^aE h hx,bX^aE h hdx];show h
  let FC:H2 x=!.ins T.bq dx []:=by rw[eH];show kr
  show#[x,dx,c,a,us,rs,xs,Y,FC,Tk _ _ KM,Gy.same Tk,hok,Tk _ _ FB,Q5,Fs,λH3 A tw f1 f2 f3 f4 f5 keep=>#[Y,?_]];let uW:az H1 H3:=λb o h=>keep b o (Tk _ _ h)^aE h hx;let own:∀z o,H1 z=!o->z≠x/\z≠A.d0/\z≠A.d1/\z≠A.l:=λz o h =>
   #[aE h hx,aE (Tk _ _ h) f3,aE (Tk _ _ h) f4,aE (Tk _ _ h) f5]
  let fs:∀{H4 H5:Hp},az H1 H4->Fr x A H4 H5->az H1 H5:=λs4 f b o h=>let⟨o1,o2,o3,o4⟩:=own b o h;f b o (s4 _ _ h) o1 o2 o3 o4;clear eH Tk FC keep UV hdx;lk;show hnn _ _ ?_;clear hnn;lk;show jV (TwI T.bq H1 c a d x v A most fin) ?_ ?_;show#[most,xS rs xs,Y,by change most=most-0;lia,aQ _,uW,tw,Int.le_refl _,aq _,ahN.symm]
  .rintro k U' H' ⟨m,rfl,rfl,hn,s1,tw,WF,HI,uP⟩;clear uW f1 f2 f3 f4 f5 hc ha fU Qb KM FB Gy;let IO:=tw.ob;unfold LD at IO;let hd:=s1 _ _ n1.self;let next:∀H4,Fr x A H' H4->fR T.bq H4 x A m.step (1000+3*(m.n+1))->m.wd = "" -> m.n<most->TwI T.bq H1 c a d x v A most fin (most-(m.n+1)) [!V.ref c,!.ref a,!v,!.int most,!.ref d,!.ref x,none] H4:=by intro H4 f4 t4 hw hlt;let#[k1,k2,k3]:=step_keeps hw;show#[m.step,Y,by rw[k1],∅,fs s1 f4,by rw[k1];show t4,Xd WF tw.ok,∅,?_];rw[show most-m.n=(most-(m.n+1))+1 by lia] at uP;erw[eV.run] at uP;rw[if_pos hw] at uP;rw[k1];show uP
   let stop:(m.wd ≠ "" \/ Not (m.n<most))->m=fin:=λh=>by rcases h with h|h;rw[<- uP];show(wc h _).symm;rw[show most-m.n=0 by lia] at uP;show uP
   let told:∀nm:L2.St->Hp->O,(∀U H,(Uu (tIf (wz^El rNe (El (O0 K_) (gT 6)^tC^V.int 0)^tC^V.str "") (gT 6)
      (El (JV K_) (UE^Eo (tC^V.str "tired") En)^tSl (UI K_) (gT 6) (JU^tC^V.int 1) xY))
      { nx:=λx H'=>Q V.cH H',rt:=Q }) U H->nm U H)->m=fin->Jy T.bq [V.ref x] H' (λx_1 H1=>gc 6 x_1 [!V.ref c,!V.ref a,!v,!(V.int ↑most),!V.ref d,!V.ref x,none] H1 nm) E0:=by
    intro nm hnm e;subst e;show#[x,A,m,_,Y,tw,λt l H2 s2 hl ht hls=>?_];let sH:az H H2:=(n1.same.trans s1).trans s2;let Zu:H l=none:=n1.same.free^s1.free hl;clear IO hd;lk;show hnm _ _ ?_;clear hnm;lk;ext hw;show q t l H2 sH Zu ?_ hls;rw[ht];unfold eV.out Out.vals;simp only;rw[if_neg hw]
    .rename_i hw t5 H5 n5 t6 H6 n6;show vG (eB.of^n6.keep n5.self) (eB.of n6.self) (by simp) (by simp[iI,HT.gz]) (by simp[iI,HT.gz]) ?_;intro t7 H7 n7;let hw:m.wd = "" := by simpa using hw
     show q t7 l H7 (((sH.trans n5.same).trans n6.same).trans n7.same) Zu ?_^n7.keep^n6.keep^n5.keep hls;rw[n7.self];unfold eV.out Out.vals;simp only;rw[if_pos hw];rfl
   walk_at "goq"
   rotate_left
   .rename_i hlt;show told _ (by assumption)^stop (.inr ∅)
   .rename_i hw;show told _ (by assumption)^stop^.inl hw
   ext hw hlt;let hlt:m.n<most:=∅;walk_at "goq";show#[x,A,m,_,Y,tw,WF,∅,∅,λH4 t4 f4=>?_];walk_at "goq";show#[_,∅,next H4 f4 (t4.le ∅) hw hlt]
 rcases htv with rfl|⟨t,rfl,ht⟩
 all_goals k_in
 all_goals lk
 rotate_left
 .show Yq (ps:=[]) (bJ.of ht) .nil ?_;intro d H1 n1;lk;show tail _ d H1 _ n1 (by assumption)
 .rename_i d H1 n1;show tail _ d H1 _ n1 (by assumption)
inductive SW(K_:aB)(vs:List V)(H:Hp)(Q:VK)(z:XK):Prop|mk(a:Addr)(ns:List Int)(k:Int)(z:vs=[¬a,.int k])(z:bJ K_ H a^ns.map V.int)(z:0<=k)(z:∀c:Int,Q (.int c) H)
theorem Ay:T.ux∩(1,SW K_):=by exists T.ux,IL,#[a,ns,k,rfl,hS,h0,q],"-?{1F*0+<M01+<@",2;let hl:(ns.map V.int).length=ns.length:=au _;lk;let#[v,hv]:=VX (ns:=ns) (i:=k) h0 ∅;show cZ hS hv ?_;show q _;show q _
theorem SX(x:Z):0<=Builtin.bitAnd x 2147483647/\Builtin.bitAnd x 2147483647<2147483648:=by by_cases h:0<=x;rw[PyProof.Rows.bitAnd_pp h ()];let q:=Nat.and_le_right (n:=x.toNat) (m:=(2147483647:Z).toNat);lia;rw[PyProof.Rows.bitAnd_np h ()];let q:=Nat.and_le_left (n:=(2147483647:Z).toNat) (m:=(Builtin.bitNot x).toNat);lia
inductive adi(vs:List V)(H:Hp)(Q:VK)(z:XK):Prop|mk(c k:Int)(z:vs=[.int c,.int k])(z:0<=k)(z:k<=2000)(z:∀r:Int,0<=r->r<2147483648->Q (.int r) H)
def dw:T.draw∩(1,adi):=by exists T.draw,VU,#[c,k,rfl,h0,h1,q],"-?T½0Iä@@+<IÐI'aaM 0°1@+<P``IzIzP0^°1@Iz°11°1",2;lk;show q _ (SX _).1 (SX _).2;show q _ (iR ()).1 (Int.lt_trans (iR ()).2 ())
inductive adj(vs:List V)(H:Hp)(Q:VK)(z:XK):Prop|mk(c k:Int)(z:vs=[.int c,.int k])(z:0<=k)(z:k<=150)(z:∀v H',az H H'->Val v->Q (.int v) H')
theorem LH:T.word∩(2,adj):=by
 exists T.word,Dk,#[c,k,rfl,h0,h1,q],"-=2`Iz/dw .0*1@/dw .0*^1-=3R.³2Iå@@.P2.I²I²Iå@@@P2*Iä@P2+<M3P/dw .0*^1",4;lk;show#[c,k,Y,h0,∅,λr1 r10 r11=>?_];lk;show#[c,_,Y,∅,∅,λr2 r20 r21=>?_];lk;ext l H1 n1;show#[c,_,Y,∅,∅,λr3 r30 r31=>?_];lk;obtain⟨v,hv,hval⟩:∃v,uU [V.int ((r1*2147483647+r2) % 2 ^ (48:Int).toNat),V.int ((r1*2147483647+r2) % 7),V.int (2 ^ (48:Int).toNat-1-(r1*2147483647+r2) % 5),V.int (1*2 ^ ((r1*2147483647+r2) % 48).toNat)] (r3 % 4)=some (.int v)/\Val v:=by
  let h4:r3 % 4=0\/r3 % 4=1\/r3 % 4=2\/r3 % 4=3:=∅;let V0:(2:Z) ^ (48:Z).toNat=281474976710656:=()
  rcases h4 with e|e|e|e<;>rw[e];show#[_,Y,by rw[V0];show iR ()];show#[_,Y,by constructor<;>lia];show#[_,Y,by rw[V0];constructor<;>lia];show#[_,Y,?_];rw[Int.one_mul];let b:=iR (a:=r1*2147483647+r2) (b:=48) ();show#[Int.le_trans ()^Rt _,Rr ∅]
 show cZ (bJ.of n1.self) hv ?_;show q _ _ n1.same hval
def Out.DR(o:Out):=(o.tag = "" \/ o.tag = "back" \/ o.tag = "cry" \/ o.tag = "tired")/\o.aL.length<=10000
def Out.shM{o:Out}(h:o.DR):Sh 2 o.data:=by
 let t0:PyData.strOk "" = true:=()
 let t1:PyData.strOk "back" = true:=()
 let t2:PyData.strOk "cry" = true:=()
 let t3:PyData.strOk "tired" = true:=()
 show Sh.tup λd hd=>?_;erw[aJ,eE,or_false] at hd;rcases hd with e|e|e|e<;>rw[e]
 .rcases h.1 with e|e|e|e<;>rw[e];show Sh.str t0;show Sh.str t1;show Sh.str t2;show Sh.str t3
 .show Sh.ints
 .cases o.val;show Sh.cH;show .int _
 .show .int _
def Out.rdM{o:Out}(ha:H a=!.tup^o.vals l)(hl:H l=!.lst^o.aL.map V.int):RD K_ H (¬a) o.data:=by show .tup (eB.of ha)^.cons (.str _)^.cons (.lst (bJ.of hl)^EG.ints _)^.cons ?_^.cons (.int _) .nil;cases o.val;show .cH;show .int _
inductive Xf(vs:List V)(H:Hp)(Q:VK)(z:XK):Prop|mk(i:Int)(z:vs=[.int i])(z:Q (.bl true) H)
def Az:T.whole∩(1,Xf):=by exists T.whole,Rl,#[n,rfl,q],"+<Ê±.0*!Ëæ±.0*!",1,su (v:=.ty "int") rfl T.YI BT.X5 rfl,su (v:=.ty "bool") rfl T.ab4 BT.aa4 rfl;lk;show q
inductive Xg(K_:aB)(vs:List V)(H:Hp)(Q:VK)(z:XK):Prop|mk(a b l m:Addr)(o:Out)(z:vs=[¬a,¬b])(z:H a=!.tup^o.vals l)(z:H l=!.lst^o.aL.map V.int)(z:H b=!.tup^o.vals m)(z:H m=!.lst^o.aL.map V.int)(z:o.DR)(z:∀H',az H H'->Q (.bl true) H')
theorem SY:T.right∩(2,Xg K_):=by
 exists T.right,Rm,#[a,b,l,m,o,rfl,ha,hl,hb,hm,hok,q],"ß?WqgY±.0*!qTÂF*0@¡gY±.:0*!+vÏ?WqgY±.:0*!¡gY/Az *:0+v-?Ym!'T.afU 'BT.afg *ºE:0Oæ/Az *0+vÏ?WnT'EC :0©ogY/Az *:0+v+<ª»01«",2,su (v:=.ty "tuple") rfl T.k7 BT.kX rfl,su (v:=.ty "list") rfl T.lM BT.m8 rfl,su (v:=.ty "str") rfl T.afV BT.aeQ rfl,Mw rfl;let sh:=Out.shM hok;let T5:=hok.2;let rda:∀H',az H H'->RD K_ H' (¬a) o.data:=λH' s=>Out.rdM (s _ _ ha)^s _ _ hl;let rdb:∀H',az H H'->RD K_ H' (¬b) o.data:=λH' s=>Out.rdM (s _ _ hb)^s _ _ hm;let#[tag,aL,val,n]:=o;erw[Out.vals] at ha hb;lk;show absurd Y (by assumption)
 .show#[n,Y,?_];lk
 ext H1 s1;let FB:=s1 _ _ ha;let Op:=s1 _ _ hl;show ab5 (λz=>.bl bo) (bJ.of Op) ∅ (λx z Q h=>?_) ?_
 .lk;show#[x,Y,?_];lk;show h
 intro p H2 n2;lk;show afi (bs:=aL.map λz=>false) (bJ.of (by rw[n2.self,gC];rfl)) ?_;rw[show(aL.map λz=>false).any id=bo by simp];let LE:=n2.keep FB;let s2:az H H2:=s1.trans n2.same;cases val
 .erw[GJ] at LE;lk;ext H3 s3;show zk _ 2 () (rda _^s2.trans s3) (rdb _^s2.trans s3) sh^q _^s2.trans s3
 .rename_i v;erw[GJ] at LE;lk
  .show#[v,Y,?_];lk
  ext H3 s3;show zk _ 2 () (rda _^s2.trans s3) (rdb _^s2.trans s3) sh^q _^s2.trans s3
def Oa(s:ax):=s = "" \/ s = "back" \/ s = "cry"
def ahQ(h:Oa m.wd):Oa (r.on m).wd:=by
 cases r
 case back=>show .inr^.inl Y
 all_goals show h
def Xh(h:Oa m.wd):Oa m.step.wd:=by unfold eV.step;split;show h;split;show .inr^.inr Y;split;show h;show ahQ (m:=m.more) h
theorem GQ:∀(k:B)(m:eV),Oa m.wd->m.aL.length<=m.n->Oa (m.run k).wd/\(m.run k).aL.length<=(m.run k).n/\m.n<=(m.run k).n/\(m.run k).n<=m.n+k
 | 0,m,h1,h2=>#[h1,h2,aq _,aq _]
 | k+1,m,h1,h2=>by erw[eV.run];split;ext hw;let#[k1,k2,k3]:=step_keeps hw;let#[r1,r2,r3,r4]:=GQ k m.step (Xh h1) ∅;show#[r1,r2,∅,∅];show#[h1,h2,aq _,∅]
theorem Cz(rs:List bp)(xs:List Z){most:B}(h:most<=3000):(pY rs xs most).DR:=by
 let#[h1,h2,h3,h4]:=GQ most (xS rs xs) (.inl Y)^aq _;let h5:(xS rs xs).n=0:=rfl;show#[?_,?_]
 .unfold pY eV.out;simp only;rcases h1 with e|e|e;rw[if_pos e];show .inr^.inr^.inr Y;rw[if_neg (by rw[e];decide)];show .inr^.inl e;rw[if_neg (by rw[e];decide)];show .inr^.inr^.inl e
 .change((xS rs xs).run most).aL.length<=10000;lia
theorem GR:∀(a b:B),(a ^^^ b)+2*(a &&& b)=a+b:=by
 intro a;induction a using Nat.strongRecOn with
 | _ a ih =>
  intro b;by_cases ha:a=0;subst ha;simp;let h:=ih (a / 2) ∅ (b / 2);let h1:(a ^^^ b) / 2=a / 2 ^^^ b / 2:=Nat.xor_div_two;let h2:(a &&& b) / 2=a / 2 &&& b / 2:=Nat.and_div_two;let h3:(a ^^^ b) % 2=1↔Not ((a % 2=1)↔(b % 2=1)):=Nat.xor_mod_two_eq_one;let h4:(a &&& b) % 2=1↔a % 2=1/\b % 2=1:=Nat.and_mod_two_eq_one;lia
theorem ahR{a b:Z}(ha:0<=a)(hb:0<=b):Builtin.bitXor a b=((a.toNat ^^^ b.toNat:B):Z):=by change Builtin.bitOr a b-Builtin.bitAnd a b=_;rw[PyProof.Rows.bitOr_and,PyProof.Rows.bitAnd_pp ha hb];have:=GR a.toNat b.toNat;lia
def DS{a:Z}(h:0<=a):Builtin.bitXor a a=0:=by rw[ahR h h,Nat.xor_self];rfl
theorem DT{a:Z}(h:0<=a):Builtin.bitXor 0 a=a:=by rw[ahR () h];change((0 ^^^ a.toNat:B):Z)=a;rw[Nat.zero_xor];lia
def S0(rs:List bp):∀f pl b aL n,(runM rs f pl b aL n).tag = "back" \/ (runM rs f pl b aL n).tag = "tired" := by
 intro f;induction f with
 | zero=>intro pl b aL n;show .inr Y
 | succ f ih =>
  intro pl b aL n;cases h:rs[pl.toNat]? with
  | none=>simp[runM,h]
  | some r=>cases r<;>erw[runM,h]<;>first|show ih _ _ _ _|simp
def Ob(r:bp)(b:Bx):(r.sends b).length<=1:=by cases r<;>simp[Row.sends]
theorem S1(rs:List bp):∀f pl b aL n,(runM rs f pl b aL n).aL.length<=aL.length+f/\(runM rs f pl b aL n).n<=n+f:=by
 intro f;induction f with
 | zero=>intro pl b aL n;show#[aq _,aq _]
 | succ f ih =>
  intro pl b aL n;let go:∀r:bp,(runM rs f (r.jF b) (r.iF b) (aL++r.sends b) (n+1)).aL.length<=aL.length+(f+1)/\(runM rs f (r.jF b) (r.iF b) (aL++r.sends b) (n+1)).n<=n+(f+1):=λr=>by let h1:=ih (r.jF b) (r.iF b) (aL++r.sends b) (n+1);let h2:=Ob r b;rw[aP] at h1;lia
  cases h:rs[pl.toNat]? with
  | none=>erw[runM,h];show#[∅,∅]
  | some r=>cases r<;>erw[runM,h]<;>first|show#[∅,∅]|show go _
def Out.ok(o:Out):=(o.tag = "back" \/ o.tag = "tired")/\o.aL.length<=10000/\o.n<=10000
theorem Xi{f:B}(h:f<=5000):(runM rs f 0 b [] 0).ok:=by let h1:=S1 rs f 0 b [] 0;erw[u0] at h1;show#[S0 _ _ _ _ _ _,∅,∅]
def qC(c:List bp)(b:Bx)(q:Z)(aL:List Z)(n:B):eV:=#[c,b,b,q,q, "", aL,none,n]
def nP(hw:m.wd = "")(hr:m.rs[m.pl.toNat]?=!R)(hc:R.Zr m.more=bo):m.step=R.on m.more:=by
 let e:m.more.qR=false:=by unfold eV.qR;change(match m.rs[m.pl.toNat]? with|none=>true|some r=>r.Zr m.more)=false;rw[hr];show hc
 unfold eV.step;rw[if_neg^by simp[hw],if_neg^by simp[e],hr]
def AA{q:Z}(hq:0<=q){z:Z}(hz:0<=z):(qC c b q aL n).go z=qC c b z aL n:=by unfold qC eV.go;rw[DS hq,DT hz]
theorem S2(h:c[q]?=!R)(hc:R.mK (q:Z)=am):(qC c b q aL n).step=qC c b ((q+1:B):Z) aL (n+1):=by
 let hq:(0:Z)<=q:=uX q;cases R with
 | look i z =>
  obtain rfl:z=(q:Int)+1:=of_decide_eq_true hc;rw[nP (R:=.look i ((q:Z)+1)) Y (by change c[((q:Z)).toNat]?=_;show h) (by change decide (b i≠b i)=bo;simp)];show AA hq ∅
 | mark z =>
  obtain rfl:z=(q:Int)+1:=of_decide_eq_true hc;rw[nP (R:=.mark ((q:Z)+1)) Y (by change c[((q:Z)).toNat]?=_;show h) (by change decide ((q:Z)≠q)=bo;simp)];show AA hq ∅
 | _=>cases hc
theorem kN(b:B):∀(a:B)(m:eV),m.run (a+b)=(m.run a).run b
 | 0,m=>by rw[Nat.zero_add];rfl
 | a+1,m=>by rw[Nat.add_right_comm];change(if m.wd = "" then m.step.run (a+b) else m)=eV.run b (if m.wd = "" then m.step.run a else m);by_cases h:m.wd = "";rw[if_pos h,if_pos h,kN b a];rw[if_neg h,if_neg h,wc h]
def qD(h:m.wd = "")(k:B):m.run (k+1)=m.step.run k:=by change(if m.wd = "" then _ else _)=_;rw[if_pos h]
def Blk(c:List bp)(g:Z->Z)(q:B)(r:bp)(k:B):O :=
 (∀i,i<k->∃R,c[q+i]?=!R/\R.mK ((q+i:B):Z)=am)/\∀i R,((r.dP g).dbl ((q+k:B):Z))[i]?=!R->c[q+k+i]?=!R
structure S4 (rs c:List Row) (g k:Nat->Nat):Prop where
 z:g 0=0
 few:∀p,k p<=9
 blk:∀p r,rs[p]?=!r->Blk c (λz=>(g z.toNat:Int)) (g p) r^k p
theorem passes{c:List bp}{b:Bx}{aL:List Z}:∀(k q n:B),(∀i,i<k->∃R,c[q+i]?=!R/\R.mK ((q+i:B):Z)=am)->(qC c b q aL n).run k=qC c b ((q+k:B):Z) aL (n+k)
 | 0,_,_,_=>rfl
 | k+1,q,n,h=>by
  let#[R,h1,h2]:=h 0^Nat.succ_pos k;rw[qD Y,S2 (q:=q) h1 h2,passes k (q+1) (n+1) λi hi=>by
   have:=h (i+1)^Nat.succ_lt_succ hi;rwa [<- oO,Nat.add_right_comm] at this]
  rw[Nat.add_right_comm q 1 k,Nat.add_right_comm n 1 k];rfl
theorem adk{g:Z->Z}(hg:∀z,0<=g z)(hp:r.pl)(hb:∀i,r≠.back i)(h:Blk c g q r k):
  (qC c b q aL n).run (k+r.own)=qC c (r.iF b) (g^r.jF b) (aL++r.sends b) (n+(k+r.own)):=by
 let hq:(0:Z)<=((q+k:B):Z):=uX _;rw[kN,passes k q n h.1,<- oO];generalize n+k=n';let h0:=h.2;generalize hx:q+k=x at h0 hq;let two:∀(R0 R1:bp),r.iF b=R0.iF b->r.iF b=R1.iF b->c[x]?=!R0->c[x+1]?=!R1->(∀m,R0.Zr m=bo)->(∀m,R1.Zr m=bo)->R0.sd=0->R1.sd=1->(∀m,R0.on m=(m.pX R0).go ((x:Z)+1))->(∀m,R1.on m=(m.pX R1).go^g^r.jF b)->(qC c b x aL n').run 2=qC c (r.iF b) (g^r.jF b) aL (n'+2):=by
  intro R0 R1 d0 d1 c0 c1 y0 y1 s0 s1 o0 o1;rw[qD Y,nP (R:=R0) Y (by change c[((x:Z)).toNat]?=_;show c0)^y0 _,o0];let e1:((qC c b x aL n').more.pX R0).go ((x:Z)+1)=#[c,r.iF b,b,((x+1:B):Z),((x+1:B):Z), "", aL,none,n'+1]:=by unfold eV.pX eV.go eV.more qC;erw[s0];rw[DS^uX x,DT ∅,d0];simp
  rw[e1,qD Y,nP (R:=R1) Y (by change c[(((x+1:B):Z)).toNat]?=_;show c1)^y1 _,o1];change _=_;unfold eV.pX eV.go eV.more qC eV.run;erw[s1];rw[DS^uX (x+1),DT^hg _,d1];simp
 cases r with
 | num d k v z =>
  change(qC c b x aL n').run 2=qC c _ _ (aL++[]) (n'+2);rw[ck];show two (.num 0 k v ((x:Z)+1)) (.num 1 k v^g z) Y rfl (h0 0 _ rfl) (h0 1 _ rfl) (λu=>rfl) (λu=>rfl) Y rfl (λu=>rfl) (λu=>rfl)
 | copy d k v z =>
  change(qC c b x aL n').run 2=qC c _ _ (aL++[]) (n'+2);rw[ck];show two (.copy 0 k v ((x:Z)+1)) (.copy 1 k v^g z) Y rfl (h0 0 _ rfl) (h0 1 _ rfl) (λu=>rfl) (λu=>rfl) Y rfl (λu=>rfl) (λu=>rfl)
 | op d s k i j z =>
  change(qC c b x aL n').run 2=qC c _ _ (aL++[]) (n'+2);rw[ck];show two (.op 0 s k i j ((x:Z)+1)) (.op 1 s k i j^g z) Y rfl (h0 0 _ rfl) (h0 1 _ rfl) (λu=>rfl) (λu=>rfl) Y rfl (λu=>rfl) (λu=>rfl)
 | out i z =>
  change(qC c b x aL n').run 1=_;rw[qD Y,nP (R:=.out i^g z) Y (by change c[((x:Z)).toNat]?=_;show h0 0 _ rfl) (by change(decide ((x:Z)≠x)||decide (b i≠b i))=bo;simp)];show AA hq^hg _
 | fork i z y =>
  change(qC c b x aL n').run 1=_;rw[qD Y,nP (R:=.fork i (g z)^g y) Y (by change c[((x:Z)).toNat]?=_;show h0 0 _ rfl) (by change(decide (b i=0) != decide (b i=0))=bo;simp)];change(qC c b x aL (n'+1)).go (if b i≠0 then g z else g y)=qC c b (g (if b i≠0 then z else y)) (aL++[]) (n'+1);rw[ck];split;show AA hq^hg _;show AA hq^hg _
 | look=>show hp.elim
 | mark=>show hp.elim
 | back i=>show absurd Y^hb i
def S5{g:Z->Z}{i:Z}(h:Blk c g q (.back i) k):
  (qC c b q aL n).run (k+1)={ qC c b ((q+k:B):Z) aL (n+(k+1)) with wd := "back", an:=!(b i) }:=by rw[kN,passes k q n h.1,qD Y,nP (R:=.back i) Y (by change c[(((q+k:B):Z)).toNat]?=_;show h.2 0 _ rfl) (by change(decide (((q+k:B):Z)≠((q+k:B):Z))||decide (b i≠b i))=bo;simp)];rfl
def fJ(rs:List bp)(k:B->B):B->Z->Bx->B
 | 0,_,_=>0
 | f+1,p,b=>match rs[p.toNat]? with
  | none=>0
  | some (.back _)=>k p.toNat+1
  | some r=>(k p.toNat+r.own)+fJ rs k f (r.jF b)^r.iF b
def we{k:B->B}{f:B}{p:Z}(h:rs[p.toNat]?=!r)(hb:∀i,r≠.back i):fJ rs k (f+1) p b=(k p.toNat+r.own)+fJ rs k f (r.jF b)^r.iF b:=by cases r<;>first|show absurd rfl (hb _)|(change(match rs[p.toNat]? with|none=>0|some (.back _)=>k p.toNat+1|some r=>(k p.toNat+r.own)+fJ rs k f (r.jF b)^r.iF b)=_;rw[h])
def wg{k:B->B}{f:B}{p:Z}{i:Z}(h:rs[p.toNat]?=!.back i):fJ rs k (f+1) p b=k p.toNat+1:=by change(match rs[p.toNat]? with|none=>0|some (.back _)=>k p.toNat+1|some r=>(k p.toNat+r.own)+fJ rs k f (r.jF b)^r.iF b)=_;rw[h]
theorem Jz(r:bp):1<=r.own/\r.own<=2:=by unfold Row.own;split<;>lia
theorem yt{rs c:List bp}{g k:B->B}(S:S4 rs c g k)(hok:∀r∈rs,r.ok bn)(WF:∀r∈rs,r.pl):∀(f p:B)(b:Bx)(aL:List Z)(n N:B),p<bn ->
  ((runM rs f p b aL n).tag = "back" /\ (∃q b',(qC c b (g p) aL N).run^fJ rs k f p b={ qC c b' q (runM rs f p b aL n).aL (N+fJ rs k f p b) with wd := "back", an:=(runM rs f p b aL n).val })/\(runM rs f p b aL n).n-n<=fJ rs k f p b/\fJ rs k f p b<=11*((runM rs f p b aL n).n-n)/\n<=(runM rs f p b aL n).n/\(runM rs f p b aL n).n<=n+f) \/
  ((runM rs f p b aL n).tag = "tired" /\ (runM rs f p b aL n).val=bc/\(∃q b',(qC c b (g p) aL N).run^fJ rs k f p b=qC c b' q (runM rs f p b aL n).aL (N+fJ rs k f p b))/\f<=fJ rs k f p b/\fJ rs k f p b<=11*f)
 | 0,p,b,aL,n,N,_=>.inr #[Y,Y,#[_,_,Y],aq _,aq _]
 | f+1,p,b,aL,n,N,hp=>by
  let hr:rs[p]?=some rs[p]:=g7 hp;let TK:rs[((p:B):Z).toNat]?=some rs[p]:=hr;let hm:rs[p]∈rs:=lD hp;let hB:=S.blk p _ hr;let hk:=S.few p;by_cases hb:∃i,rs[p]=.back i
  .let#[i,e]:=hb;rw[e] at TK hB;rw[Cw TK,wg TK,iX];show .inl #[Y,#[((g p+k p:B):Z),b,?_],?_,?_,?_,?_];rw[S5 hB]
   all_goals dsimp only;lia
  .have Tb:∀i,rs[p]≠.back i:=λi e=>hb #[i,e];rw[Cy TK Tb,we TK Tb,iX];let ho:=Jz rs[p];let hon:=Row.LC (b:=b) (hok _ hm) Tb;obtain⟨z,ez⟩:∃z:Nat,rs[p].jF b=(z:Int):=#[(rs[p].jF b).toNat,by have:=hon.1;lia];rw[ez] at hon;let hz:z<rs.length:=by have:=hon.2;lia
   let run:=adk (c:=c) (b:=b) (aL:=aL) (n:=N) (λz=>uX _) (WF _ hm) Tb hB;rw[ez] at run;rw[ez];rcases yt S hok WF f z (rs[p].iF b) (aL++rs[p].sends b) (n+1) (N+(k p+rs[p].own)) hz with⟨h1,⟨q,b',h2⟩,h3,h4,h5,h6⟩|⟨h1,h0,⟨q,b',h2⟩,h3,h4⟩
   .show .inl #[h1,#[q,b',?_],∅,∅,∅,∅];rw[kN,run];change(qC c _ (g z) _ _).run _=_;rw[h2,oO]
   .show .inr #[h1,h0,#[q,b',?_],∅,∅];rw[kN,run];change(qC c _ (g z) _ _).run _=_;rw[h2,oO]
theorem LI{rs:List bp}{k k':B->B}(h:∀p,k' p<=k p):∀(f:B)(p:Z)(b:Bx),fJ rs k' f p b<=fJ rs k f p b
 | 0,_,_=>aq _
 | f+1,p,b=>by
  let hp:=h p.toNat;cases hr:rs[p.toNat]? with
  | none =>
   change(match rs[p.toNat]? with|none=>0|some (.back _)=>k' p.toNat+1|some r=>(k' p.toNat+r.own)+fJ rs k' f (r.jF b)^r.iF b)<=_;rw[hr];show aQ _
  | some r =>
   by_cases hb:∃i,r=.back i;let#[i,Y]:=hb;rw[wg hr,wg hr];lia;let Tb:∀i,r≠.back i:=λi e=>hb #[i,e];rw[we hr Tb,we hr Tb];have:=LI (rs:=rs) h f (r.jF b)^r.iF b;lia
theorem S6:S4 rs (b4 rs bn) (firstM rs) (dj rs) where
 z:=rfl
 few:=yk rs
 blk:=λp r hr=>by
  let hp:p<rs.length:=(fK hr).1;let hs:gB rs p=dj rs p+r.own:=by unfold gB;rw[hr];rfl
  let ho:=Jz r;show#[λi hi=>?_,λi R hR=>?_]
  .have hl:i<(putAt rs p r).length:=by rw[NJ hr];lia
   let e:(putAt rs p r)[i]?=some (putAt rs p r)[i]:=g7 hl;let hw:=R9 e;show#[(putAt rs p r)[i],(Am hr ∅ bn hp (aq _)).trans e,?_];generalize (putAt rs p r)[i]=R at hw;cases hw with
   | look=>show decide_eq_true ∅
   | mark=>show decide_eq_true ∅
   | own _ e=>lia
   | one _ e=>lia
   | two _ e=>lia
  .have hi:i<r.own:=by have:=(fK hR).1;rwa [qA] at this
   rw[oO];show(Am hr ∅ bn hp (aq _)).trans ?_;unfold putAt;rw[ko (by rw[mJ];lia),mJ,CH,<- hR];rfl
def xU(x y:B):Nat:=if x<y then y-1 else y
theorem Xj(x y:B):yp (x:Z) (y:Z)=(xU x y:Z):=by unfold yp xU;split<;>split<;>lia
theorem S7{x y:B}(hx:x<c.length)(hy:y≠x):(xN c (x:Z))[xU x y]?=c[y]?.map^Row.dP^yp (x:Z):=by rw[Jo hx,bB];congr 1;unfold xU;split;rw[ko (by rw[bU];lia),bU,List.getElem?_drop];congr 1;lia;rw[lC (by rw[bU];lia),qV ∅]
theorem Xk(x a:B)(g:Z->Z)(r:bp)(hx:x≠a)(i:B):((r.dP λz=>yp (x:Z)^g z).dbl ((xU x a:B):Z))[i]?=(((r.dP g).dbl (a:Z))[i]?).map^Row.dP^yp (x:Z):=by
 let e:((xU x a:B):Z)+1=yp (x:Z) ((a:Z)+1):=by unfold xU yp;split<;>split<;>lia
 rw[<- bB];congr 1;cases r<;>erw[Row.dP,Row.dbl,cu,List.map_nil,e]
theorem S4.out{g k:B->B}(S:S4 rs c g k)(WF:∀r∈rs,r.pl){x:B}(hR:c[x]?=!R)(hc:R.mK (x:Z)=am):∃g' k',S4 rs (xN c (x:Z)) g' k'/\∀p,k' p<=k p:=by
 let hx:x<c.length:=(fK hR).1;show#[λp=>xU x^g p,λp=>if g p<=x/\x<g p+k p then k p-1 else k p,#[?_,λp=>?_,λp r hr=>?_],λp=>?_];change xU x^g 0=0;rw[S.z];unfold xU;rw[if_neg ∅];have:=S.few p;split<;>lia
 .let#[h1,h2]:=S.blk p r hr;let rpl:=WF r^ie hr;let own:∀i,i<r.own->x≠g p+k p+i:=λi hi e=>by obtain⟨Q,hQ⟩:∃Q,((r.dP λz=>(g z.toNat:Int)).dbl ((g p+k p:Nat):Int))[i]?=some Q:=#[_,g7 (by rw[qA];show hi)];let h:=h2 i Q hQ;rw[<- e,hR] at h;rw[<- Option.some.inj h] at hQ;have:R∈(r.dP λz=>(g z.toNat:Z)).dbl ((g p+k p:B):Z):=ie hQ;cases r<;>erw[Row.dP,Row.dbl,aJ,eE,or_false] at this<;>first|show rpl.elim|(rcases this with rfl|rfl<;>cases hc)|(subst this;cases hc)
  let ho:=Jz r;let h0:x≠g p+k p:=own 0 ∅;let ek:xU x^g p+(if g p<=x/\x<g p+k p then k p-1 else k p)=xU x (g p+k p):=by unfold xU;split<;>split<;>split<;>lia
  show#[λi hi=>?_,λi Q hQ=>?_]
  ·
   obtain⟨j,hj,hxj,ej⟩:∃j,j<k p/\x≠g p+j/\xU x (g p+j)=xU x (g p)+i:=by by_cases hb:g p<=x/\x<g p+k p/\x<=g p+i;show#[i+1,?_,∅,?_];rw[if_pos #[hb.1,hb.2.1]] at hi;lia;unfold xU;rw[if_pos ∅,if_neg ∅];lia;show#[i,?_,?_,?_];split at hi<;>lia;intro e;split at hi<;>lia;unfold xU;split<;>split<;>split at hi<;>lia
   let#[Q,q1,q2]:=h1 j hj;show#[Q.dP^yp (x:Z),?_,?_];change(xN c (x:Z))[xU x^g p+i]?=_;rw[<- ej,S7 hx^aM hxj,q1];rfl
   .change(Q.dP^yp (x:Z)).mK ((xU x^g p+i:B):Z)=am;rw[<- ej];let e:((xU x (g p+j):B):Z)+1=yp (x:Z) (((g p+j:B):Z)+1):=by unfold xU yp;split<;>split<;>lia
    cases Q with
    | look a z =>
     let e2:=of_decide_eq_true q2;show decide_eq_true (by rw[e,e2])
    | mark z =>
     let e2:=of_decide_eq_true q2;show decide_eq_true (by rw[e,e2])
    | _=>cases q2
  .rw[ek] at hQ ⊢;let hi:i<r.own:=by have:=(fK hQ).1;rwa [qA] at this
   let eg:(λz:Z=>((xU x^g z.toNat:B):Z))=λz=>yp (x:Z) (g z.toNat:Z):=funext λz=>(Xj x _).symm;rw[eg,Xk x _ _ r h0 i] at hQ;let#[Q0,hQ0,Y]:=cL.mp hQ;let e2:xU x (g p+k p)+i=xU x (g p+k p+i):=by have:=own i hi;have:i<=1:=∅;unfold xU;split<;>split<;>lia
   rw[e2,S7 hx^aM^own i hi,h2 i Q0 hQ0];rfl
 .dsimp only;split<;>lia
def adl(r:bp)(m:eV):m.aL <+: (r.on m).aL:=by cases r<;>simp[Row.on,eV.go,eV.pX]
theorem LJ:∀(k:B)(m:eV),m.aL <+: (m.run k).aL
 | 0,_=>yI _
 | k+1,m=>by change m.aL <+: eV.aL (if m.wd = "" then m.step.run k else m);split;show List.IsPrefix.trans ?_^LJ k _;change m.aL <+: m.step.aL;unfold eV.step;split;show yI _;split;show yI _;split;show yI _;show adl _ m.more;show yI _
theorem GS{g k:B->B}(S:S4 rs c g k)(hok:∀r∈rs,r.ok bn)(WF:∀r∈rs,r.pl)(h0:0<bn)(xs:List Z)(most:B):
  (pY c xs (11*most)).tag ≠ "cry" /\
  ((runM rs most 0 (oF xs) [] 0).tag = "back" -> pY c xs (11*most)=#["back", (runM rs most 0 (oF xs) [] 0).aL,(runM rs most 0 (oF xs) [] 0).val,fJ rs k most 0^oF xs]/\(runM rs most 0 (oF xs) [] 0).n<=fJ rs k most 0^oF xs/\fJ rs k most 0^oF xs<=11*(runM rs most 0 (oF xs) [] 0).n) /\
  ((runM rs most 0 (oF xs) [] 0).tag ≠ "back" -> (runM rs most 0 (oF xs) [] 0).aL <+: (pY c xs (11*most)).aL):=by
 let nb:("back" : ax) ≠ "" := by decide
 let nc:("back" : ax) ≠ "cry" := by decide
 let ne:("" : ax) ≠ "cry" := by decide
 let hm:xS c xs=qC c (oF xs) ((g 0:B):Z) [] 0:=by rw[S.z];rfl
 let st:∀(a b:B)(m:eV),a<=b->(m.run a).wd ≠ "" -> m.run b=m.run a:=λa b m h hw=>by rw[show b=a+(b-a) by lia,kN,wc hw]
 show#[?_,λhb=>?_,λht=>?_]
 .intro hc;let hw:((xS c xs).run (11*most)).wd = "cry" := by let Gc:(if((xS c xs).run (11*most)).wd = "" then("tired" : ax) else((xS c xs).run (11*most)).wd) = "cry" := hc;split at Gc;show absurd Gc ();show Gc
  rw[hm] at hw;rcases yt S hok WF (11*most) 0 (oF xs) [] 0 0 h0 with⟨_,⟨q,b',h2⟩,_⟩|⟨_,_,⟨q,b',h2⟩,h3,_⟩
  .rcases Nat.le_total (fJ rs k (11*most) ((0:Nat):Int)^oF xs) (11*most) with h|h;rw[st _ _ _ h (by rw[h2];show nb),h2] at hw;show nc hw;rw[st _ _ _ h (by rw[hw];decide)] at h2;rw[h2] at hw;show nc hw
  .rw[st _ _ _ h3 (by rw[hw];decide)] at h2;rw[h2] at hw;show ne hw
 .rcases yt S hok WF most 0 (oF xs) [] 0 0 h0 with⟨_,⟨q,b',h2⟩,h3,h4,h5,h6⟩|⟨h1,_⟩;show#[?_,h3,h4];unfold pY;rw[hm,st _ _ _ (show fJ rs k most ((0:B):Z)^oF xs<=11*most by lia) (by rw[h2];show nb),h2];change(#[_,_,_,0+_]:Out)=_;rw[Nat.zero_add];rfl;have:(runM rs most 0 (oF xs) [] 0).tag = "tired" := h1;rw[this] at hb;show absurd hb ()
 .rcases yt S hok WF most 0 (oF xs) [] 0 0 h0 with⟨h1,_⟩|⟨_,_,⟨q,b',h2⟩,_,h4⟩;show absurd h1 ht;change _ <+: ((xS c xs).run (11*most)).aL;rw[hm,show 11*most=fJ rs k most ((0:B):Z)^oF xs+(11*most-fJ rs k most ((0:B):Z) (oF xs)) by lia,kN,h2];show LJ _^qC c b' q (runM rs most 0 (oF xs) [] 0).aL _
def ahS(rs:List bp)(cs:List bp):=∃g k,S4 rs cs g k/\∀p,k p<=dj rs p
def S8(WF:∀r∈rs,r.pl):AL^ahS rs:=λ_ _ _ ⟨_,_,S,h⟩ hr hc=>let⟨g',k',S',h'⟩:=S.out WF hr hc;#[g',k',S',λp=>aZ (h' p)^h p]
def Xl{i:Z}(h0:0<=i)(h1:i<9):∃ch,uU ("+-*/<=&|^" : ax).cps.toList i=!ch/\(#[#v[ch]]:ax)∈signs:=by
 let#[ch,On,mch]:=zY (xs:=("+-*/<=&|^" : ax).cps.toList) (i:=i) h0 h1;let all:∀ch∈("+-*/<=&|^" : ax).cps.toList,(#[#v[ch]]:ax)∈signs:=()
 show#[ch,On,all ch mch]
inductive GU(vs:List V)(H:Hp)(Q:VK)(z:XK):Prop|mk(c:Int)(l:Addr)(nm:List Str)(z:vs=[.int c,¬l])(z:H l=!.lst^nm.map V.str)(z:nm.length=8)(z:∀v s H',az H H'->dU H' s v->S.ok (· ∈ nm) s->s.rows=1/\s.cnt=1->Q v H')
theorem DU:T.qw∩(3,GU):=by
 exists T.qw,nv,#[c,l,nm,rfl,hnm,h8,q],"-s2QÍNOV!2P/dw .1*0-=3P/dw .0N-?f3+<>A.G2*/LH .0N-?f3+<>A.G2*G2-?Á3+<>A*G2+<>A.G2.Vç§P/dw .0N.G2*G2",4,"_law_k",["_law_cell", "_law_names"],[0,1],["_law_names", "_law_cell"],oY (K:=K_) rfl;let hml:(nm.map V.str).length=nm.length:=au _;let am6:∀i:Z,0<=i->i<4->∃x∈nm,uU (nm.map V.str) i=!.str x:=λi h0 h1=>by obtain⟨k,rfl⟩:∃k:Nat,i=(k:Int):=#[i.toNat,∅];show#[nm[k]'∅,lD _,dN (by rw[bB,g7 ∅];rfl)]
 k_in;lk;show sP (λi ys H'=>az H H'/\∃ls:List ax,ys=ls.map V.str/\ls.length=i/\∀k∈ls,k∈nm) #[az.refl _,[],Y,Y,λk h=>nomatch h] ?_ ?_
 .rintro i ys H' hi ⟨sm,ls,rfl,hl,hlb⟩;let hi:i<3:=∅;let am7:=sm _ _ hnm;show#[cV (by rw[au];lia),?_];lk;show#[c,_,Y,∅,∅,λr r0 r1=>?_];lk;let#[x,mx,hx]:=am6 (r % 4) ∅ ∅;show cZ (bJ.of am7) hx ?_;show#[sm,ls++[x],by rw[bf];rfl,by simp[hl],λk hk=>?_];rcases aR.mp hk with hk|hk;show hlb k hk;rw[aC.mp hk];show mx
 rintro ys H2 ⟨s2,ls,rfl,hl,hlb⟩ l H3 n3;let Iy:ls.length=3:=∅
 match ls,Iy with
 | [x,y,z],_ =>
 let bx:=hlb x (by simp);let by_:=hlb y (by simp);let bz:=hlb z (by simp);let s3:az H H3:=s2.trans n3.same;replace n3:gU H2 l (.lst [.str x,.str y,.str z]) H3:=n3;lk;show#[c,3,Y,(),(),λr4 r40 r41=>?_];lk
 .show#[c,4,Y,(),(),λv H4 s4 hv=>?_];lk;ext e H5 n5;show q _ (.num x v) _ ((s3.trans s4).trans n5.same) (by erw[dU];show#[e,Y,n5.self]) (by erw[S.ok];show#[bx,hv]) #[Y,Y]
 .rename_i e H5 n5;show q _ (.copy x y) _ (s3.trans n5.same) (by erw[dU];show#[e,Y,n5.self]) (by erw[S.ok];show#[bx,by_]) #[Y,Y]
 .rename_i e H5 n5;show q _ (.out x) _ (s3.trans n5.same) (by erw[dU];show#[e,Y,n5.self]) (by erw[S.ok];show bx) #[Y,Y]
 .show#[c,5,Y,(),(),λr5 r50 r51=>?_];lk;let#[ch,On,mch]:=Xl (i:=r5 % 9) ∅ ∅;show X7 () On ?_;lk;ext e H5 n5;show q _ (.op x #[#v[ch]] y z) _ (s3.trans n5.same) (by erw[dU];show#[e,Y,n5.self]) (by erw[S.ok];show#[bx,mch,by_,bz]) #[Y,Y]
def Frm(H:Hp)(nm:List ax)(g:ae×ae×B×ci):=∃(wd x:ax)(pf:ae)(vf vb:List V)(s1 ss:List S),H g.1=!.lst [.str wd,.str x,¬pf,¬g.2.1]/\(g.2.2.2=bo->x∈nm)/\(g.2.2.2=am->wd = "")/\H pf=!.tup vf/\bg H s1 vf/\S.rK (· ∈ nm) s1/\H g.2.1=!.lst vb/\bg H ss vb/\S.rK (· ∈ nm) ss/\S.bM s1+S.bM ss<=g.2.2.1
def Frm.keep(e:bT H H')(h1:H' g.1=H g.1)(h2:H' g.2.1=H g.2.1)(h:Frm H nm g):Frm H' nm g:=by let#[wd,x,pf,vf,vb,s1,ss,a1,a2,a3,a4,a5,a6,a7,a8,a9,M0]:=h;show#[wd,x,pf,vf,vb,s1,ss,h1.trans a1,a2,a3,e _ _ a4,bg.mono e _ _ a5,a6,h2.trans a7,bg.mono e _ _ a8,a9,M0]
def AQ(gs:List (ae×ae×B×ci)):List Addr:=gs.flatMap λg=>[g.1,g.2.1]
structure GV (H0 H:Hp) (X2:Addr) (nm:List Str) (gs:List (Addr×Addr×Nat×Bool)):Prop where
 same:az H0 H
 self:H X2=!.lst (gs.map λg=>V.ref g.1)
 new:∀a∈X2::AQ gs,H0 a=none
 nd:(X2::AQ gs).Nodup
 fr:∀g∈gs,Frm H nm g
def eS(as bs:List (ae×ae×B×ci)):AQ (as++bs)=AQ as++AQ bs:=yD
def DV(h:g∈gs):g.1∈AQ gs/\g.2.1∈AQ gs :=
 #[lF.mpr #[g,h,by simp],lF.mpr #[g,h,by simp]]
def Xm(h:S.rK N ss)(h1:S.ok N s):S.rK N (ss++[s]):=nL h^WM h1
theorem uR{p b:ae}{t:ci}{vb:List V}(k:GV H0 H X2 nm (gs++[(p,b,n,t)]))(hb:H b=!.lst vb)(u:nU H b (.lst (vb++[v])) H')(hs:dU H s v)(ok:S.ok (· ∈ nm) s){m:B}(hm:n+s.rows<=m):GV H0 H' X2 nm (gs++[(p,b,m,t)]):=by
 let#[same,self,new,nd,fr]:=k;let e:bT H H':=by rw[show H'=upd H b _ from u];show qx hb _
 let ne:∀a,a≠b->H' a=H a:=λa h=>by rw[show H'=upd H b _ from u,bX h]
 let ad:AQ (gs++[(p,b,m,t)])=AQ (gs++[(p,b,n,t)]):=by rw[eS,eS];rfl
 rw[eS] at nd;let nd':=nd;erw[AQ,oH,List.flatMap_nil,ck,iG,fN,aR,aJ,eE,or_false,not_or] at nd;show#[u.same same^new b (by rw[eS];simp[AQ]),?_,ad▸new,by rw[ad,eS];show nd',λg hg=>?_];rw[ne X2^by grind,self];simp;rcases aR.mp hg with hg|hg;let m:=DV hg;unfold AQ at m;show(fr g^jK _ hg).keep e (ne _^by grind) (ne _^by grind);rw[aC.mp hg];let#[wd,x,pf,vf,vb',s1,ss,a1,a2,a3,a4,a5,a6,a7,a8,a9,M0]:=fr (p,b,n,t) (by simp);cases hb.symm.trans a7;show#[wd,x,pf,vf,vb++[v],s1,ss++[s],(ne p^by grind).trans a1,a2,a3,e _ _ a4,bg.mono e _ _ a5,a6,u.self,bg.mono e _ _^bg.append (bg.one hs) a8,Xm a9 ok,?_];rw[gK];erw[S.bM] at M0 ⊢;change _<=m;have:S.bM s1+S.bM ss<=n:=M0;lia
def Frm.some(h:Frm H nm g):H g.1≠none/\H g.2.1≠none:=by let#[wd,x,pf,vf,vb,s1,ss,a1,a2,a3,a4,a5,a6,a7,a8,a9,M0]:=h;rw[a1,a7];show#[nofun,nofun]
theorem GV.some(k:GV H0 H X2 nm gs)(h:a∈X2::AQ gs):H a≠none:=by rcases aJ.mp h with rfl|h;rw[k.self];nofun;let#[g,hg,ha]:=lF.mp h;have:=(k.fr g hg).some;erw[aJ,eE,or_false] at ha;rcases ha with rfl|rfl;show this.1;show this.2
def Xn{tl:List (ae×ae×B×ci)}(k:GV H0 H X2 nm (gs++tl))(u:nU H X2 (.lst (gs.map λg=>V.ref g.1)) H'):GV H0 H' X2 nm gs:=by
 let e:bT H H':=by rw[show H'=upd H X2 _ from u];show qx k.self _
 let ne:∀a,a≠X2->H' a=H a:=λa h=>by rw[show H'=upd H X2 _ from u,bX h]
 let sub:∀a∈AQ gs,a∈AQ (gs++tl):=λa h=>by rw[eS];show jK _ h
 let nd:=k.nd;rw[eS,<- ki] at nd;let nd1:=(fN.mp nd).1;show#[u.same k.same^k.new X2^by simp,u.self,λa h=>k.new a ?_,nd1,λg hg=>?_];rcases aJ.mp h with rfl|h;simp;show dz _^sub a h;let m:=DV hg;let nO:=(iG.mp nd1).1;show(k.fr g^jK _ hg).keep e (ne _ λh=>nO (h▸m.1)) (ne _ λh=>nO (h▸m.2))
def GV.grow(k:GV H0 H X2 nm gs)(e:az H H'):GV H0 H' X2 nm gs:=by
 let ke:∀a,H a≠none->H' a=H a:=λa h=>by
  cases q:H a with
  | none=>show absurd q h
  | some o=>show e _ _ q
 show#[k.same.trans e,e _ _ k.self,k.new,k.nd,λg hg=>(k.fr g hg).keep (sT e) (ke _ (k.fr g hg).some.1)^ke _ (k.fr g hg).some.2]
theorem DW{H3:Hp}{p b:ae}{t:ci}{tl:List (ae×ae×B×ci)}(k:GV H0 H X2 nm (gs++tl))(e:az H H3)(hp:H p=bc)(hb:H b=bc)(pb:p≠b)(f:Frm H3 nm (p,b,n,t))(u:nU H3 X2 (.lst ((gs++[(p,b,n,t)]).map λg=>V.ref g.1)) H'):GV H0 H' X2 nm (gs++[(p,b,n,t)]):=by
 let k3:=k.grow e;let n0:∀a,H a=bc->H0 a=none:=λa h=>by
  cases q:H0 a with
  | none=>rfl
  | some o=>show absurd (k.same _ _ q) (by rw[h];nofun)
 let fr:∀a,H a=bc->a∉X2::AQ (gs++tl):=λa h m=>k.some m h;let e3:bT H3 H':=by rw[show H'=upd H3 X2 _ from u];show qx k3.self _
 let ne:∀a,a≠X2->H' a=H3 a:=λa h=>by rw[show H'=upd H3 X2 _ from u,bX h]
 let pO:=fr p hp;let bO:=fr b hb;let new:=k.new;let nd:=k.nd;rw[eS] at pO bO nd new;let ad:AQ (gs++[(p,b,n,t)])=AQ gs++[p,b]:=by rw[eS];rfl
 show#[u.same k3.same^new X2^by simp,u.self,λa h=>?_,?_,λg hg=>?_]
 .rw[ad] at h;have:=n0 p hp;have:=n0 b hb
  grind
 .rw[ad]
  grind
 rcases aR.mp hg with hg|hg;let m:=DV hg;show(k3.fr g^jK _ hg).keep e3 (ne _^by grind) (ne _^by grind);rw[aC.mp hg];show f.keep e3 (ne _^by grind) (ne _^by grind)
theorem bg.len:∀{ss:List S}{vs:List V},bg H ss vs->dv<=S.bM ss:=by
 intro ss;induction ss with
 | nil=>intro vs h;erw[bg] at h;subst h;show aQ _
 | cons s ss ih =>
  intro vs h;erw[bg] at h;let#[v,vr,Y,_,h]:=h;have:=ih h;have:1<=s.rows:=by cases s<;>simp[S.rows]<;>lia
  erw[S.bM,bW];lia
theorem Oc{l:List α}{x:α}(hn:d4=n+1)(hx:l[n]?=!x):uU l (-1)=!x:=by unfold uU TY;rw[if_neg (),if_pos ∅];change l[((-1:Z)+(d4:Z)).toNat]?=!x;rw[show((-1:Z)+(d4:Z)).toNat=n by lia];show hx
def GW(l:List α)(x:α):uU (l++[x]) (-1)=!x:=Oc (n:=d4) (by simp) (by simp)
inductive S9(vs:List V)(H:Hp)(Q:VK)(z:XK):Prop|mk(H0:Hp)(X2 l q c p b:Addr)(nm:List Str)(gs:List (Addr×Addr×Nat×Bool))(m n:Nat)(t:Bool)(z:vs=[¬X2,¬l])(z:H0 l=!.lst^nm.map V.str)(z:nm.length=8)(z:GV H0 H X2 nm (gs++[(q,c,m,t),(p,b,n,false)]))(z:m<=1000)(z:n<=1000)(z:gs.length<=100)(z:∀H',GV H0 H' X2 nm (gs++[(q,c,m+(n+5),t)])->Q .cH H')
theorem CA:T.closed∩(1,S9):=by
 exists T.closed,j7,#[H0,X2,l,q,c,p,b,nm,gs,m,n,t,rfl,hl,h8,k,hm,hn,hg,done],"-è¤0ôUC2UC3UC4[C5+xH2-=6R.>A.G1N*>A.3A.3*G1+BLGM0X*>A.3*j*~56+xH2+BLGM0X*>A.3.4*j*5+BLGM0X*>A.3.j*5*w",7;let#[wd,x,pf,vf,vb,s1,ss,a1,a2,a3,a4,a5,a6,a7,a8,a9,M0]:=k.fr (p,b,n,false) (by simp);let#[wd',x',pf',vf',vb',s1',ss',a1',a2',a3',a4',a5',a6',Zv,a8',a9',ass]:=k.fr (q,c,m,t) (by simp);let hO:=k.self;let hx:=a2 Y;let nd:=k.nd;rw[eS] at nd;erw[AQ,oH,List.flatMap_nil,ck,iG,fN,aR,aJ,ki,List.nil_append,eE,or_false,not_or] at nd;let pO:p≠X2:=by grind
 let bO:b≠X2:=by grind
 let cO:c≠X2:=by grind
 let qO:q≠X2:=by grind
 let pb:p≠b:=by grind
 let lO:l≠X2:=λh=>by rw[h,k.new X2^by simp] at hl;cases hl
 let Zu:=k.same _ _ hl;k_in;lk;show s_pop hO (y:=¬p) (by simp) λH1 u1=>?_;let k1:GV H0 H1 X2 nm (gs++[(q,c,m,t)]):=Xn (tl:=[(p,b,n,false)]) (by simpa using k) (by simpa using u1);let e1:bT H H1:=by rw[show H1=upd H X2 _ from u1];show qx hO _
 replace a1:=u1.keep pO a1;replace a7:=u1.keep bO a7;replace a1':=u1.keep qO a1';replace Zv:=u1.keep cO Zv;replace a4:=e1 _ _ a4;replace a5:=bg.mono e1 _ _ a5;replace a8:=bg.mono e1 _ _ a8;replace Zu:=u1.keep lO Zu;let hO1:=k1.self;clear k u1 hO a4' a5' a8' e1;let QQ:uU ((gs++[(q,c,m,t)]).map λg=>V.ref g.1) (-1)=!.ref q:=by rw[bf];show GW _ _
 let#[y,hy,my]:=yh (xs:=nm) (i:=7) () ∅;let lb:=a8.len;let lb':vb'.length<=1000:=by let#[_,_,_,_,_,_,_,_,_,_,_,_,_,f7,f8,_,f10]:=k1.fr (q,c,m,t) (by simp);cases f7.symm.trans Zv;have:=f8.len;simp only at f10;lia
 simp only at M0;lk
 .show cZ (bJ.of Zu) hy ?_;lk;ext t1 H2 n2;show cZ (bJ.of^n2.keep Zu) hy ?_;lk;ext t2 H3 n3 l4 H4 n4;let e4:=(n2.same.trans n3.same).trans n4.same;let k4:=k1.grow e4;let r8:=bg.mono (sT e4) _ _ a8;let v1:=n4.keep^n3.keep n2.self;let v2:=n4.keep n3.self;let v3:=n4.self;replace a7:=e4 _ _ a7;replace a1':=e4 _ _ a1';replace Zv:=e4 _ _ Zv;clear k1 hO1 Zu a1 a4 n2 n3 n4 e4 a8 a5;show cZ (bJ.of k4.self) QQ ?_;lk;ext l5 H5 n5 l6 H6 n6 e H7 n7 H8 u8;let e7:=(n5.same.trans n6.same).trans n7.same;show done _^uR (s:=.rX x (ss++[.num y 1,.op x "-" x y])) (k4.grow e7) (e7 _ _ Zv) u8 ?_ ?_ ?_;erw[dU];show#[e,l6,vb++[V.ref t1,V.ref t2],Y,n7.self,n7.keep n6.self,bg.append ?_^bg.mono (sT e7) _ _ r8];erw[bg,dU];show#[_,_,Y,#[t1,Y,e7 _ _ v1],_,_,Y,#[t2,Y,e7 _ _ v2],Y];erw[S.ok];show#[hx,nL a9 ?_];erw[S.rK,S.ok];show#[#[my,(),()],#[hx,(),hx,my],trivial];erw[S.rows,gK,S.bM];lia
 .show cZ (bJ.of hO1) QQ ?_;lk;ext l1 H2 n2 e H3 n3 H4 u4;let e3:=n2.same.trans n3.same;show done _^uR (s:=.ifs x s1 ss) (k1.grow e3) (e3 _ _ Zv) u4 ?_ ?_ ?_;erw[dU];show#[e,pf,l1,vf,vb,Y,n3.self,e3 _ _ a4,n3.keep n2.self,bg.mono (sT e3) _ _ a5,bg.mono (sT e3) _ _ a8];erw[S.ok];show#[hx,a6,a9];erw[S.rows];lia
 .show cZ (bJ.of hO1) QQ ?_;lk;ext l1 H2 n2 p1 H3 n3 e H4 n4 H5 u5;let e4:=(n2.same.trans n3.same).trans n4.same;show done _^uR (s:=.ifs x ss []) (k1.grow e4) (e4 _ _ Zv) u5 ?_ ?_ ?_;erw[dU];show#[e,l1,p1,vb,[],Y,n4.self,n4.keep^n3.keep n2.self,n4.keep n3.self,bg.mono (sT e4) _ _ a8,by erw[bg]];erw[S.ok,S.rK];show#[hx,a9,trivial];erw[S.rows,S.bM];lia
def uS(gs:List (ae×ae×B×ci)):=∃k,(gs.map λg=>g.2.2.2)=am::List.replicate k bo
def uT{gi:List (ae×ae×B×ci)}{p b p' b':ae}{m:B}{t:ci}(h:uS (gi++[(p,b,n,t)])):uS (gi++[(p',b',m,t)]):=by simpa[uS] using h
def LK{p b:ae}(h:uS gs):uS (gs++[(p,b,n,false)]):=by let#[k,h]:=h;show#[k+1,by rw[bf,h,List.replicate_succ'];rfl]
def yv{gs:List α}(h:0<gs.length):∃gi g,gs=gi++[g]:=by simpa[List.concat_eq_append] using(List.eq_nil_or_concat gs).resolve_left^List.length_pos_iff.mp h
def Tc{gi:List (ae×ae×B×ci)}{p b:ae}{t:ci}(h:uS (gi++[(p,b,n,t)]))(hl:0<gi.length):t=bo/\uS gi:=by
 let#[k,h]:=h;rw[bf] at h;cases k with
 | zero =>
  have:=congrArg List.length h;simp at this;rw[this] at hl;cases hl
 | succ k =>
  rw[List.replicate_succ',<- ki] at h;have:=List.append_inj' h Y;show#[by simpa using this.2,k,this.1]
def GX(gs:List (ae×ae×B×ci)):Nat:=(gs.map λg=>g.2.2.1+5).sum
def dR(as bs:List (ae×ae×B×ci)):GX (as++bs)=GX as+GX bs:=by simp[GX]
def gQ(e:az H H')(h:H' a=bc):H a=none:=by
 cases q:H a with
 | none=>rfl
 | some o=>show absurd (e _ _ q) (by rw[h];nofun)
inductive adn(K_:aB)(vs:List V)(H:Hp)(Q:VK)(z:XK):Prop|mk(a l:Addr)(ns:List Int)(nm:List Str)(z:vs=[¬a,¬l])(z:bJ K_ H a^ns.map V.int)(z:ns.length<=45)(z:H l=!.lst^nm.map V.str)(z:nm.length=8)(z:∀(p:Addr)(vb:List V)(ss:List S)(H':Hp),az H H'->H' p=!.tup vb->bg H' ss vb->S.rK (· ∈ nm) ss->S.bM ss<=6*ns.length->Q (¬p) H')
theorem Xo:T.body∩(4,adn K_):=by
 exists T.body,qt,#[a,l,ns,nm,rfl,ha,hn,hl,h8,q],"-=2R*RAA.w*J-KE0C3-=4P/dw .3N+­Wnf4oÁF*2+BL2*RA.M1P/dw .3N.w*J+­Wnf4oÁF*2-=5M1`@F*2-=6MR.@Nd'Mq 'T.YI 'BT.X5 *ªàP/dw .3N@«-BLGM2X*>A.5*³/dw .3N6+BL2*RA.5.w*J+­Wnf4oHGM2X+èRA.GM2X.j*GM2X*Jõ2X+­WnÁ4oT½F*2@+B/CA .2*1+BLGM2X*/DU .3*1-eT½F*2@+B/CA .2*1+<j*GG2",7;lk;ext p0 H1 n1 b0 H2 n2 p1 H3 n3 X2 H4 n4;let e4:az H H4:=((n1.same.trans n2.same).trans n3.same).trans n4.same;let k0:GV H H4 X2 nm [(p1,b0,0,true)]:=by let hb:H b0=none:=gQ n1.same n2.1;let hp:H p1=none:=gQ (n1.same.trans n2.same) n3.1;let hO:H X2=none:=gQ ((n1.same.trans n2.same).trans n3.same) n4.1;let pb:b0≠p1:=aE n2.self n3.1;let bO:b0≠X2:=aE (n3.keep n2.self) n4.1;let pO:p1≠X2:=aE n3.self n4.1;show#[e4,n4.self,?_,?_,?_];simp[AQ,hb,hp,hO];simp[AQ,pb.symm,bO.symm,pO.symm];intro g hg;rw[aC.mp hg];show#[_,_,p0,[],[],[],[],n4.keep n3.self,nofun,λu=>rfl,n4.keep^n3.keep^n2.keep n1.self,Y,trivial,n4.keep^n3.keep n2.self,Y,trivial,aq _]
 show f_list (xs:=ns.map V.int) (λi U' H'=>E5 λ(gs:List (ae×ae×B×ci))(x3 x4 x5 x6:Option V)=>A5 (U'=[!.ref a,!.ref l,!.ref X2,x3,x4,x5,x6]) (GV H H' X2 nm gs) (uS gs) (gs.length<=4) (GX gs<=5+6*i)) ?_ ?_ ?_ ?_;show#[_,_,_,_,_,Y,k0,#[0,Y],by simp,by simp[GX]];rintro i U' H' hi ⟨gs,_,_,_,_,_,k,_⟩;show k.same.seq ha
 .rintro i x U' H5 hx ⟨gs,x3,x4,x5,x6,rfl,k,kb,kl,kw⟩;rw[bB] at hx;let#[z,hz,Y]:=cL.mp hx;let hi:i<ns.length:=(fK hz).1;let#[gi,#[p,b,n,t],Y]:=yv (gs:=gs) (by let#[j,e]:=kb;have:=congrArg List.length e;simp at this;lia);let Yz:=k.same _ _ hl;let Uk:=k.self;let XB:((gi++[(p,b,n,t)]).map λg=>V.ref g.1).length=gi.length+1:=by simp
  let QQ:uU ((gi++[(p,b,n,t)]).map λg=>V.ref g.1) (-1)=!.ref p:=by rw[bf];show GW _ _
  let#[wd,x,pf,vf,vb,s1,ss,a1,a2,a3,a4,a5,a6,a7,a8,a9,M0]:=k.fr (p,b,n,t) (by simp);simp only at a1 a2 a3 a7 M0;rw[dR] at kw;replace kw:GX gi+(n+5)<=5+6*i:=kw;let lb:=a8.len;let e1:(gi++[(p,b,n,t)]).length=gi.length+1:=by simp
  clear k0 n1 n2 n3 n4 e4;lk;show#[z,6,Y,(),(),λr1 r10 r11=>?_];lk;show ED (λH'=>H'=H5/\gi.length<3) (λH'=>H'=H5) ?_ ?_ ?_
  .lk;show#[Y,∅];rfl;rfl
  .intro _ e;rw[e.1];let hg:=e.2;clear e;lk;show#[z,7,Y,(),(),λr2 r20 r21=>?_];let#[y,hy,my]:=yh (xs:=nm) (i:=r2 % 4) ∅ ∅;lk;show cZ (bJ.of Yz) hy ?_;lk;ext p6 H6 n6 b7 H7 n7 p8 H8 n8 H9 u9;let e7:=n6.same.trans n7.same;show#[(gi++[(p,b,n,t)])++[(p8,b7,0,false)],_,_,_,_,Y,DW (tl:=[]) (by rw[ck];show k) (e7.trans n8.same) (gQ e7 n8.1) (gQ n6.same n7.1) (aE n7.self n8.1).symm #["if", y,p6,[],[],[],[],n8.self,λu=>my,nofun,n8.keep^n7.keep n6.self,Y,trivial,n8.keep n7.self,Y,trivial,aq _] (by rw[bf];show u9),LK kb,by simp;lia,?_];rw[dR,dR];change GX gi+(n+5)+5<=_;lia
  intro _ e;rw[e];clear e;show ED (λH'=>H'=H5/\gi.length<2) (λH'=>H'=H5) ?_ ?_ ?_
  .lk;show#[Y,∅];rfl;rfl
  .intro _ e;rw[e.1];let hg:=e.2;clear e;lk;let#[y,hy,my]:=yh (xs:=nm) (i:=3+((((gi++[(p,b,n,t)]).map λg=>V.ref g.1).length:B):Z)) ∅ ∅;show cZ (bJ.of Yz) hy ?_;lk;ext p6 H6 n6;show#[z,13,Y,(),(),λr2 r20 r21=>?_];lk;let#[m,hm,mm]:=Rq (ns:=[4,61]) (i:=if decide (r2 % 8=1)=am then 1 else 0) (by split<;>decide) (by split<;>decide);show cZ (bJ.of n6.self) hm ?_;let m0:0<m/\m<=61:=by simp at mm;lia
   let hO6:=n6.keep Uk;let a16:=n6.keep a1;let a76:=n6.keep a7;let k6:=k.grow n6.same;let bO:b≠X2:=λe=>by have:=k.nd;rw[eS] at this;simp[AQ,e] at this
   clear k Yz Uk a1 a4 a7;lk;show cZ (bJ.of hO6) QQ ?_;lk;show#[z,8,Y,(),(),λr3 r30 r31=>?_];let bm:=iR (a:=r3) (b:=m) m0.1;lk;ext t7 H7 n7 H8 u8 p9 H9 n9 b10 Ca Bb xw IY pM Nj u12;let k8:=uR (m:=n+1) (s:=.num y (r3 % m)) (k6.grow n7.same) (n7.keep a76) u8 (by erw[dU];show#[t7,Y,n7.self]) (by erw[S.ok];show#[my,∅,∅])^aq _;let e10:=n9.same.trans Bb.same;show#[(gi++[(p,b,n+1,t)])++[(xw,b10,0,false)],_,_,_,_,Y,DW (tl:=[]) (by rw[ck];show k8) (e10.trans pM.same) (gQ e10 pM.1) (gQ n9.same Bb.1) (aE Bb.self pM.1).symm #["while", y,p9,[],[],[],[],pM.self,λu=>my,nofun,pM.keep^Bb.keep n9.self,Y,trivial,pM.keep Bb.self,Y,trivial,aq _]^by simpa using u12,LK^uT kb,by simp;lia,?_];rw[dR,dR];change GX gi+(n+1+5)+5<=_;lia
  intro _ e;rw[e];clear e;show ED (λH'=>H'=H5/\wd = "if") (λH'=>H'=H5) ?_ ?_ ?_
  .lk
   .show cZ (bJ.of Uk) QQ ?_;lk;show#[Y,by assumption];rfl
   .rfl
  .intro _ e;rw[e.1];let hg:=e.2;clear e;obtain rfl:t=false:=by
    cases t with
    | false=>rfl
    | true=>show absurd ((a3 Y).symm.trans hg) ()
   lk;show cZ (bJ.of Uk) QQ ?_;lk;show cZ (bJ.of Uk) QQ ?_;lk;ext p6 H6 n6 b7 H7 n7 p8 H8 n8;let e7:=n6.same.trans n7.same;let e8:=e7.trans n8.same;show abr (j:=gi.length) (e8 _ _ Uk) (by rw[XB];unfold TY;rw[if_neg (),if_pos ∅];congr 1;lia) ?_;intro H9 u9;show Wn _ _ #[gi++[(p8,b7,n,false)],_,_,_,_,Y,DW (tl:=[(p,b,n,false)]) k e8 (gQ e7 n8.1) (gQ n6.same n7.1) (aE n7.self n8.1).symm #["else", x,p6,vb,[],ss,[],n8.self,λu=>a2 Y,nofun,n8.keep^n7.keep n6.self,bg.mono (sT e8) _ _ a8,a9,n8.keep n7.self,Y,trivial,?_] ?_,uT kb,by simp at kl ⊢;lia,?_];change S.bM ss+0<=n;lia;rw[bf] at u9 ⊢;rw[List.set_append_right _ _^by simp] at u9;simpa using u9;rw[dR];change GX gi+(n+5)<=_;lia
  intro _ e;rw[e];clear e;show ED (λH'=>H'=H5/\0<gi.length) (λH'=>H'=H5) ?_ ?_ ?_
  .lk;show#[Y,∅];rfl;rfl
  .intro _ e;rw[e.1];let hg:=e.2;clear e;let#[Y,kb']:=Tc kb hg;let#[gj,#[q',c',m',t'],Y]:=yv hg;lk;rw[dR] at kw;replace kw:GX gj+(m'+5)+(n+5)<=5+6*i:=kw;show#[H,X2,l,q',c',p,b,nm,gj,m',n,t',Y,hl,h8,by simpa using k,∅,∅,by simp at kl;lia,λH' k'=>Wn _ _ #[_,_,_,_,_,Y,k',uT kb',by simp at kl ⊢;lia,?_]];rw[dR];change GX gj+(m'+(n+5)+5)<=_;lia
  .intro _ e;rw[e];clear e;lk;show cZ (bJ.of Uk) QQ ?_;lk;show#[z,l,nm,Y,Yz,h8,λv s6 H6 e6 hs hok NE=>?_];let a76:=e6 _ _ a7;lk;ext H7 u7;show#[_,_,_,_,_,Y,uR (m:=n+1) (k.grow e6) a76 u7 hs hok ∅,uT kb,by simp at kl ⊢;lia,?_];rw[dR];change GX gi+(n+1+5)<=_;lia
 .rintro U' H5 ⟨gs,x3,x4,x5,x6,rfl,k,kb,kl,kw⟩;show agt _ _ ?_;lk;show jV (λm U' H'=>∃gs,A6 (m=gs.length) (U'=[!.ref a,!.ref l,!.ref X2,x3,x4,x5,x6]) (GV H H' X2 nm gs) (uS gs) (gs.length<=4) (GX gs<=5+6*ns.length)) #[_,gs,Y,Y,k,kb,kl,by rw[au] at kw;lia] ?_;clear k kb kl kw gs;rintro m U' H6 ⟨gs,rfl,rfl,k,kb,kl,kw⟩;let Uk:=k.self;let XB:(gs.map λg=>V.ref g.1).length=gs.length:=au _;let hl0:0<gs.length:=by let#[j,e]:=kb;have:=congrArg List.length e;simp at this;lia
  let#[gi,#[p,b,n,t],Y]:=yv hl0;let e1:(gi++[(p,b,n,t)]).length=gi.length+1:=by simp
  rw[dR] at kw;replace kw:GX gi+(n+5)<=5+6*ns.length:=kw;lk;let hg:0<gi.length:=∅;let#[Y,kb']:=Tc kb hg;let#[gj,#[q',c',m',t'],Y]:=yv hg;rw[dR] at kw;replace kw:GX gj+(m'+5)+(n+5)<=5+6*ns.length:=kw;show#[H,X2,l,q',c',p,b,nm,gj,m',n,t',Y,hl,h8,by simpa using k,∅,∅,by simp at kl;lia,λH' k'=>#[_,?_,_,Y,Y,k',uT kb',by simp at kl ⊢;lia,?_]];simp;rw[dR];change GX gj+(m'+(n+5)+5)<=_;lia
  .rename_i hg;obtain rfl:gi=[]:=List.length_eq_zero_iff.mp ∅;let#[wd,x,pf,vf,vb,s1,ss,a1,a2,a3,a4,a5,a6,a7,a8,a9,M0]:=k.fr (p,b,n,t) (by simp);simp only at a1 a7 M0;let e6:=k.same;clear XB;replace Uk:H6 X2=!.lst [¬p]:=Uk;lk;ext l7 H7 n7;replace kw:0+(n+5)<=5+6*ns.length:=kw;show q l7 vb ss H7 (e6.trans n7.same) n7.self (bg.mono (sT n7.same) _ _ a8) a9 ∅
def LL(us:List V)(p:B):iI us bc^some (p:Z)=us.take p:=by unfold iI;rw[HT.Es,HT.ql,List.drop_zero,Nat.sub_zero];rcases Nat.le_total p us.length with h|h;rw[Nat.min_eq_left h];rw[rZ h,List.take_of_length_le h,cA]
theorem Xp(xs:List V)(j k:B):(iI xs (!(j:Z))^!((j:Z)+(k:Z))).length<=k:=by unfold iI;rw[show(j:Z)+(k:Z)=((j+k:B):Z) from Y,HT.ql,HT.ql,bU];lia
def GY(ns:List Z)(lo hi:Option Z):∃ms:List Z,iI (ns.map V.int) lo hi=ms.map V.int/\ms.length<=ns.length:=by let h:=ju (ns.map V.int) lo hi;rw[au] at h;obtain⟨ms,hm⟩:∃ms:List Int,iI (ns.map V.int) lo hi=ms.map V.int:=#[_,by unfold iI;rw[<- List.map_drop,<- List.map_take]];rw[hm,au] at h;show#[ms,hm,h]
inductive Od(K_:aB)(vs:List V)(H:Hp)(Q:VK)(z:XK):Prop|mk(a:Addr)(c:Int)(ns:List Int)(z:vs=[¬a,.int c])(z:bJ K_ H a^ns.map V.int)(z:ns.length<=45)(z:∀(t pp pb:Addr)(vb:List V)(ps nm:List Str)(ss:List S)(an:Str)(H':Hp),az H H'->H' t=!.tup [¬pp,¬pb,.str an]->H' pp=!.tup^ps.map V.str->H' pb=!.tup vb->bg H' ss vb->nm.length<=8->(∀x∈ps,x∈nm)->S.rK (· ∈ nm) ss->an∈nm->ps.length<=4->S.bM ss<=6*ns.length->Q (¬t) H')
theorem JA:T.program∩(5,Od K_):=by
 exists T.program,jh,#[a,c,ns,rfl,ha,hn,q],"-=2§-=3P/dw .1N-s4QÍNOI'UX I'Vs §P/dw .1NVç2P`30-=5/Xo .0*4-=6P/dw .1N+<>.j*¹4¬6.5*M4P/dw .1N",7,"_law_k",["_law_cell", "_law_letters", "_law_shift"],[1,2,3],["_law_shift", "_law_letters", "_law_cell"];lk;show#[c,9,Y,(),(),λr1 r10 r11=>?_];lk;show sP (λi ys H'=>az H H'/\∃ls:List ax,ys=ls.map V.str/\ls.length=i) #[az.refl _,[],Y,Y] ?_ ?_
 .rintro i ys H' hi ⟨sm,ls,rfl,hl⟩;let hi:i<8:=∅;show#[cV (by rw[au];lia),?_];lk;show#[c,10,Y,(),(),λr2 r20 r21=>?_];lk;show abI ∅ ∅ ?_;let#[ch,On,_]:=zY (xs:=("abcdefghijklmnopqrstuvwxyz" : ax).cps.toList) (i:=(r1 % 26+(0+(i:Z))) % 26) ∅ (by change _<26;lia);lk;show X7 () On ?_;show abp (by change(List.replicate _ _).toArray.size+1<=_;simp;lia) ?_;show#[sm,ls++[_],by rw[bf];rfl,by simp[hl]]
 rintro ys H2 ⟨s2,ls,rfl,hl⟩ l H3 n3;let h8:ls.length=8:=∅;let s3:=s2.trans n3.same;let Iy:=n3.self;let YW:=s3.seq ha;clear s2 n3;lk;show#[a,l,ns,ls,Y,YW,hn,Iy,h8,λpb vb ss H5 s5 GA TD hok R9=>?_];let Yz:=s5 _ _ Iy;let Uj:=s3.trans s5;clear s5 Iy YW s3;lk;show#[c,11,Y,(),(),λr3 r30 r31=>?_];lk;ext p6 H6 n6 p7 H7 n7;obtain⟨j,hj⟩:∃j:Nat,r3 % 5=(j:Int):=#[(r3 % 5).toNat,∅];rw[hj,LL,<- List.map_take] at n7;let G7:=n6.same.trans n7.same;let hp7:=n7.self;let hl7:=G7 _ _ Yz;let ana:=G7 _ _ GA;let ahT:=bg.mono (sT G7) _ _ TD;let s07:=Uj.trans G7;clear n6 n7 Yz GA TD Uj G7;show#[c,12,Y,(),(),λr4 r40 r41=>?_];let#[an,han,man]:=yh (xs:=ls) (i:=r4 % 4) ∅ ∅;lk;show cZ (bJ.of hl7) han ?_;lk;ext tp H8 n8;show q tp p7 pb vb (ls.take j) ls ss an H8 (s07.trans n8.same) n8.self (n8.keep hp7) (n8.keep ana) (bg.mono (sT n8.same) _ _ ahT) ∅ (λx hx=>List.mem_of_mem_take hx) hok man (by rw[bU];lia) R9
def LM(o p:Out):=o.tag ≠ "cry" /\ (p.tag = "back" -> o.tag=p.tag/\o.aL=p.aL/\o.val=p.val/\p.n<=o.n/\o.n<=11*p.n)/\(p.tag ≠ "back" -> p.aL <+: o.aL)
def Out.d3(o:Out):PyData:=.tuple [.str o.tag,.list^o.aL.map PyData.int,ahG o.val]
def Out.sh3{o:Out}(h:o.DR):Sh 2 o.d3:=by
 let t1:∀t∈(["", "back", "cry", "tired"]:List ax),PyData.strOk t=true:=()
 show Sh.tup λd hd=>?_;erw[aJ,eE,or_false] at hd;rcases hd with e|e|e<;>rw[e];show Sh.str (t1 _^by simpa using h.1);show Sh.ints
 .cases o.val;show Sh.cH;show .int _
def Out.rd3{o:Out}(ha:H a=!.tup [.str o.tag,¬l,GJ o.val])(hl:H l=!.lst^o.aL.map V.int):RD K_ H (¬a) o.d3:=by show .tup (eB.of ha)^.cons (.str _)^.cons (.lst (bJ.of hl)^EG.ints _)^.cons ?_ .nil;cases o.val;show .cH;show .int _
inductive ado(vs:List V)(H:Hp)(Q:VK)(z:XK):Prop|mk(a b l m:Addr)(o p:Out)(z:vs=[¬a,¬b])(z:H a=!.tup^o.vals l)(z:H l=!.lst^o.aL.map V.int)(z:H b=!.tup^p.vals m)(z:H m=!.lst^p.aL.map V.int)(z:o.DR)(z:p.DR)(z:LM o p)(z:∀H',az H H'->Q (.bl true) H')
theorem LN:T.same∩(3,ado):=by
 exists T.same,VV,#[a,b,l,m,o,p,rfl,ha,hl,hb,hm,fo,fp,hs,q],"Ï?WqgY/SY .0*0¡H:0+v-?H:1+<Êª»À0ZÀ1Z«Ëö:1:0°:1+<ª»¹:0¬F*:1:1«",2;lk;show#[a,a,l,l,o,Y,ha,hl,ha,hl,fo,λH1 s1=>?_];let FB:=s1 _ _ ha;let Op:=s1 _ _ hl;let hb1:=s1 _ _ hb;let hm1:=s1 _ _ hm;let#[hs1,IH,hs3]:=hs;unfold Out.vals at FB hb1;clear ha hl hb hm;lk;show#[Y,s1]
 .rename_i H2 s2 adp;let#[e1,e2,e3,e4,e5]:=hs.2.1 adp;let LE:=s2 _ _ ha;let N0:=s2 _ _ hl;let hb2:=s2 _ _ hb;let KB:=s2 _ _ hm;unfold Out.vals at LE hb2;clear ha hl hb hm;show BD (eB.of LE) (by simp[HT.gz]) λp1 H3 n3=>?_;change gU H2 p1 (.tup [.str o.tag,¬l,GJ o.val]) H3 at n3;let YM:=n3.keep hb2;lk;show BD (eB.of YM) (by simp[HT.gz]) λp2 H4 n4=>?_;change gU H3 p2 (.tup [.str p.tag,¬m,GJ p.val]) H4 at n4;let ha4:=n4.keep^n3.keep LE;let hb4:=n4.keep YM;let hd:p.d3=o.d3:=by unfold Out.d3;rw[e1,e2,e3]
  show zk o.d3 2 () (Out.rd3 (n4.keep n3.self)^n4.keep^n3.keep N0) (hd▸Out.rd3 n4.self (n4.keep^n3.keep KB)) (Out.sh3 fo) ?_;let s4:=(s2.trans n3.same).trans n4.same;clear n3 n4 LE hb2 YM;lk;rw[decide_eq_true ∅];show q _ s4
 .rename_i H2 s2 adp p1 H3 n3;let hm3:=n3.keep^s2 _ _ hm;let#[t,ht]:=hs.2.2 adp;let ec:iI (o.aL.map V.int) bc^some (((p.aL.map V.int).length:B):Z)=p.aL.map V.int:=by rw[LL,<- ht,bf,List.take_left]
  rw[ec] at n3;show zk (.list^p.aL.map PyData.int) 1 () (.lst (bJ.of n3.self)^EG.ints _) (.lst (bJ.of hm3)^EG.ints _) Sh.ints ?_;show q _^s2.trans n3.same
inductive Xq(K_:aB)(vs:List V)(H:Hp)(Q:VK)(z:XK):Prop|mk(c a:Addr)(us:List V)(rs cs:List Row)(g k:Nat->Nat)(ns:List Int)(z:vs=[¬c,¬a])(z:H c=!.lst us)(z:Rows H us cs)(z:Lx cs 3500)(z:S4 rs cs g k)(z:(∀r∈rs,r.pl))(z:H a=!.lst^ns.map V.int)(z:ns.length<=63)(z:∀(c':Addr)(Ps:List V)(Sc:List Row)(g' k':Nat->Nat)(H':Hp),az H H'->H' c'=!.lst Ps->Rows H' Ps Sc->Lx Sc 3500->S4 rs Sc g' k'->(∀p,k' p<=k p)->Q (¬c') H')
def FwI(H:Hp)(a:ae)(ns:List Z)(rs:List bp)(k:B->B)(i:B)(U':L2.St)(H':Hp):=∃(c:ae)(us:List V)(cs:List bp)(g' k':B->B)(x y:Option V),U'=[!.ref c,!.ref a,x,y]/\az H H'/\H' c=!.lst us/\Rows H' us cs/\Lx cs 3500/\S4 rs cs g' k'/\∀p,k' p<=k p
theorem Td:T.K4∩(4,Xq K_):=by
 exists T.K4,tT,#[c,a,us,rs,cs,g,k,ns,rfl,hc,fU,ht,hS,WF,ha,hn,q],"-KE1C2-=3³/dw .2NF*0+?Y/Cn .0*3+=0/rJ .0*3+<0",4;lk;show f_list (xs:=ns.map V.int) (FwI H a ns rs k) #[c,us,cs,g,k,_,_,Y,az.refl _,hc,fU,ht,hS,λj=>aq _] ?_ ?_ ?_;rintro i U' H' _ ⟨c',Ps,Sc,g',k',x,y,rfl,s',_⟩;show bJ.of^s' _ _ ha
 .rintro i x U' H1 hx ⟨c',Ps,Sc,g',k',x',y',rfl,s1,KM,NE,Fn,hS1,Md⟩;rw[bB] at hx;let#[z,hz,Y]:=cL.mp hx;let Ba:=NE.length;let h0:=List.length_pos_iff.mpr Fn.ne;let Np:=Fn.len;lk;show#[z,61,Y,(),(),λr1 r10 r11=>?_];lk;obtain⟨p,ep,hp⟩:∃p:Nat,r1 % (Ps.length:Int)=(p:Int)/\p<Sc.length:=by have:=iR (a:=r1) (b:=(Ps.length:Int)) ∅;show#[(r1 % (Ps.length:Z)).toNat,∅,∅]
  rw[ep];let hr:Sc[p]?=some Sc[p]:=g7 hp;lk;show#[c',p,Ps,Sc,Sc[p],Y,KM,NE,hr,λH2 s2=>?_];let hc2:=s2 _ _ KM;let hr2:=NE.same s2;let Jp:=s1.trans s2;clear KM NE s2;lk;cases hcan:Sc[p].mK (p:Int)
  .rw[if_neg ()];walk_at "nxd";show Wn _ _ #[c',Ps,Sc,g',k',_,_,Y,Jp,hc2,hr2,Fn,hS1,Md]
  .rw[if_pos Y];walk_at "nxd";lk;show#[c',p,Ps,Sc,by rw[ep],hc2,hr2,∅,Fn.ok,λc2 Oj H3 H4 s3 n4 hr4=>?_];let#[g2,k2,Yu,Kk]:=hS1.out WF hr hcan;lk;show#[c2,Oj,_,g2,k2,_,_,Y,(Jp.trans s3).trans n4.same,n4.self,hr4,Fn.out hr hcan,Yu,λq=>aZ (Kk q)^Md q]
 .rintro U' H1 ⟨c',Ps,Sc,g',k',x',y',rfl,s1,KM,NE,Fn,hS1,Md⟩;lk;show q c' Ps Sc g' k' H1 s1 KM NE Fn hS1 Md
def LO{k:B->B}{most:B}{xs:List Z}{o p:Out}(h:o.tag ≠ "cry" /\ (p.tag = "back" -> o=#["back", p.aL,p.val,fJ rs k most 0^oF xs]/\p.n<=fJ rs k most 0^oF xs/\fJ rs k most 0^oF xs<=11*p.n)/\(p.tag ≠ "back" -> p.aL <+: o.aL)):LM o p :=
 #[h.1,λe=>by let#[h1,h2,h3]:=h.2.1 e;rw[h1];show#[e.symm,Y,Y,h2,h3],h.2.2]
theorem Te(ps:List ax)(ss:List S)(an:ax):(∀r∈iU ps ss an,r.pl)/\∀p,p<(iU ps ss an).length->Gq (iU ps ss an) p:=by
 cases ss with
 | nil =>
  show#[λr hr=>?_,λp hp=>?_]
  .have:r=.back^jP (gW ps [] an) an:=by simpa[iU,gu] using hr
   rw[this];trivial
  .have:p=0:=by simp[iU,gu] at hp;lia
   rw[this];show .zero
 | cons s ss=>show N5 (by simp)
set_option maxHeartbeats 20000000 in
theorem ads:T.law∩(12,K5 K_):=by
 show T.law.F.ok fZ (λvs H Q E h=>?_) (λcdv A0 outer s H vs Q E hr h=>?_);let#[a,ns,rfl,_]:=h;rfl;let#[a,ns,rfl,hS,hn,q]:=h;let ahU:=ac7 T;let JB:=Xe T;show#[_,(ak (bu 1 fZ.nd^aK T.ux (Ay T) hr^aa (pv 0)^aa ai af)^ak (bu 2 fZ.nd^aK T.ux (Ay T) hr^aa (pv 0)^aa ai af)^ak (bu 3 fZ.nd ai)^iL (bF (bZ bY (aO dD (aK T.draw (dw T) hr^aa (pv 2)^aa ai af) ai) ai) (ao^bu 3 fZ.nd ai) aS)^ak (bu 4 fZ.nd^dF kW (pv 0) (dM ai)^dM^aO d7 ai^pv 3)^iL (bF (bZ bY (aO dD (aK T.draw (dw T) hr^aa (pv 2)^aa ai af) ai) ai) (ak (bu 3 fZ.nd ai)^ao^Ft 4 fZ.nd (bG.cz "_law_k" ["_law_other"] [2] ["_law_other"] rfl) (lT rfl T.uz^aa (aO d7 ai^aO dD (aK T.draw (dw T) hr^aa (pv 2)^aa ai af) ai) af) (λj j j j=>fG) (λj j j j=>(aK T.draw (dw T) hr^aa (pv 1)^aa (aO d7 ai^pv 0) af))) aS)^ak (bu 5 fZ.nd^aK T.program (JA T) hr^aa (pv 4)^aa (pv 1) af)^ak (bu 6 fZ.nd^aK T.flat (WV T) hr^aa (pv 5) af)^ak (Ft 7 fZ.nd (bG.cz "_law_k" ["_law_other"] [2] ["_law_other"] rfl) (lT rfl T.uz^aa (aT bh rfl T.eL BT.eG^aa (aI aA (pv 5) ai) af) af) (λj j j j=>fG) (λj j j j=>(aK T.word (LH T) hr^aa (pv 1)^aa (aO d7 ai^pv 0) af)))^ak (bu 8 fZ.nd^aO dD (aK T.draw (dw T) hr^aa (pv 2)^aa ai af) ai)^ak (bu 9 fZ.nd^sC ahU (hr.mono^by first|decide|lia) rfl T.run.m T.run.F.kp T.run.b .nil iV^aa (pv 6)^aa (bN jd rfl T.lM BT.m8^aa (pv 7) af)^aa (pv 8) af)^ak (bu 10 fZ.nd^aK T.Dt (NP T) hr^aa (pv 6) af)^ak (bu 11 fZ.nd^sC JB (hr.mono^by first|decide|lia) rfl T.twin.m T.twin.F.kp T.twin.b .nil iV^aa (pv 10)^aa (bN jd rfl T.lM BT.m8^aa (pv 7) af)^aa lH^aa (aO i8 ai^pv 8) af)^ak (bF (mY^i6^aK T.same (LN T) hr^aa (pv 11)^aa (pv 9) af) (ao^aD ku) aS)^ak (bu 12 fZ.nd^aK T.K4 (Td T) hr^aa (pv 10)^aa (dF kW (pv 0) (dM ai)^dM ai) af)^iL (bF (bZ bY (pv 3) ai) (ao^bu 12 fZ.nd^aK T.VW (WG T) hr^aa (pv 10)^aa (aO d7 (aK T.delay (Gn T) hr^aa (pv 10) af)^aO dD (aK T.draw (dw T) hr^aa (pv 2)^aa ai af) ai) af) aS)^ak (bu 13 fZ.nd^sC JB (hr.mono^by first|decide|lia) rfl T.twin.m T.twin.F.kp T.twin.b .nil iV^aa (pv 12)^aa (bN jd rfl T.lM BT.m8^aa (pv 7) af)^aa lH^aa (aO i8 ai^pv 8) af)^zh (bF (PW.pt^lI (bZ bY (aI aA (pv 9) ai) aH)^jm^bZ Em (aI aA (pv 13) ai)^aI aA (pv 11) ai) (ao^aD ku) aS)^ao^aD^vo (aK T.same (LN T) hr^aa (pv 13)^aa (pv 9) af)^vm^gf (vF hr.units) (sC JB (hr.mono^by first|decide|lia) rfl T.twin.m T.twin.F.kp T.twin.b .nil iV^aa (pv 10)^aa (pv 7)^aa (bQ af)^aa (aO i8 ai^pv 8) af) (pv 11)^i9 _),?_];change(_:TS) (Ends.mk _ _ _ _) [_,_,_,_,_,_,_,_,_,_,_,_,_,_] H;k_in;lk;show#[a,ns,0,rfl,hS,(),λc=>?_];lk;show#[a,ns,1,rfl,hS,(),λd=>?_];lk;show EA (λU' H'=>H'=H/\∃m:Nat,(m=12\/m=3)/\U'=[!.ref a,!.int c,!.int d,!.int m,none,none,none,none,none,none,none,none,none,none]) ?_ ?_
 .lk;show#[d,56,rfl,(),(),λr1 r10 r11=>?_];lk;show#[rfl,3,.inr rfl,rfl];show#[rfl,12,.inl rfl,rfl]
 rintro _ H0 ⟨e0,m,hm,rfl⟩;rw[e0];clear e0 H0;lk;ext p1 H1 n1;let#[ms,em,_]:=GY ns (!2)^!(2+(m:Int));let hms:ms.length<=m:=by let h:=Xp (ns.map V.int) 2 m;rw[show(!((2:Nat):Int))=!(2:Int) from rfl,show((2:Nat):Int)+(m:Int)=2+(m:Int) from rfl,em,au] at h;show h
 rw[em] at n1;let s1:=n1.same;let hp1:=n1.self;clear n1 em;show EA (λU' H'=>az H H'/\E3 λ(m:Nat)(p:Addr)(ms:List Int)=>A4 (U'=[!.ref a,!.int c,!.int d,!.int m,!.ref p,none,none,none,none,none,none,none,none,none]) (H' p=!.lst^ms.map V.int) (ms.length<=45) ((m=3->ms.length<=3))) ?_ ?_
 .lk;show#[d,62,rfl,(),(),λr1 r10 r11=>?_];lk
  .show#[d,63,rfl,(),(),λr2 r20 r21=>?_];lk;show sP (λi ys H'=>az H1 H'/\∃ls:List Int,ys=ls.map V.int/\ls.length=i) #[az.refl _,[],rfl,rfl] ?_ ?_
   .rintro i ys H' hi ⟨sm,ls,rfl,hl⟩;show#[cV (by rw[au];lia),?_];lk;show#[d,100+(0+(i:Int)),rfl,∅,∅,λr3 r30 r31=>?_];lk;show#[sm,ls++[r3],by rw[bf];rfl,by simp[hl]]
   rintro ys H2 ⟨s2,ls,rfl,hl⟩ l H3 n3;lk;show#[(s1.trans s2).trans n3.same,12,l,ls,rfl,n3.self,∅,∅]
  .show#[s1,m,p1,ms,rfl,hp1,∅,λe=>∅]
 clear hp1 s1 hms hm;rintro _ H1 ⟨s1,m,p1,ms,rfl,hp1,hms,hm3⟩;let hS1:=s1.seq hS;lk;show#[p1,c,ms,rfl,bJ.of hp1,hms,λt pp pb vb ps nm ss an H2 s2 ht Fu GA TD h8 Ty hok han WF R9=>?_];let Yu:=s2.seq hS1;let Jp:=s1.trans s2;clear hS1 hp1 s1 s2 hS;lk;show#[¬t,ps,ss,an,(· ∈ nm),rfl,#[t,pp,pb,vb,rfl,ht,Fu,GA,TD],∅,∅,hok,λf us H3 s3 j hf T0=>?_];let Yt:=s3.seq Yu;let ht3:=s3 _ _ ht;let anb:=s3 _ _ Fu;let Jb:=Jp.trans s3;let n8:=Jw (pool:=nm) h8 Ty hok han;let fok:=SA n8 hok;let anc:=v9 ps ss an;let asE:b6 ss<=S.bM ss:=gM ss;let JC:=Te ps ss an;generalize iU ps ss an=rs at T0 fok anc JC;clear Yu ht Fu GA TD Jp s3 n8 hok han h8;lk;let asF:(ps.map V.str).length<=4:=by rw[au];show WF
 show ae5 ∅ ∅ ?_;show sP (λi ys H'=>az H3 H'/\∃xs:List Int,ys=xs.map V.int/\xs.length=i/\∀x∈xs,Val x) #[az.refl _,[],rfl,rfl,λj h=>nomatch h] ?_ ?_
 .rintro i ys H' hi ⟨sm,xs,rfl,hl,hv⟩;show#[cV (by rw[au];lia),?_];lk;show#[d,60+(0+(i:Int)),rfl,∅,∅,λv H4 s4 hv4=>?_];lk;show#[sm.trans s4,xs++[v],by rw[bf];rfl,by simp[hl],λx hx=>by
   rcases aR.mp hx with h|h;show hv x h
   .rw[aC.mp h];show hv4]
 rintro ys H4 ⟨s4,xs,rfl,Q5,Fs⟩ ar H5 n5;let Lg:=s4.trans n5.same;let har:=n5.self;let IU:=Lg _ _ hf;let pT:=T0.same Lg;let hS5:=Lg.seq Yt;let Uj:=Jb.trans Lg;clear hf T0 Yt Jb Lg n5 s4 ht3 anb;let Ba:=pT.length;lk;show#[d,57,rfl,(),(),λr1 r10 r11=>?_];lk;ext la H6 n6;obtain⟨most,hmo,KB⟩:∃k:Nat,r1 % 271=(k:Int)/\k<=270:=#[(r1 % 271).toNat,∅,∅];rw[hmo];show#[f,la,us,rs,xs,most,rfl,n6.keep IU,pT.same n6.same,∅,∅,fok,n6.self,∅,Fs,∅,λtp lp H7 s7 j htp hlp=>?_];let G7:=n6.same.trans s7;let T9:=G7 _ _ IU;let Lv:=pT.same G7;let hS7:=G7.seq hS5;let ahV:=G7 _ _ har;clear IU pT hS5 har n6 s7 G7 Uj;let pok:(runM rs most 0 (oF xs) [] 0).ok:=Xi ∅;let Tf:(runM rs most 0 (oF xs) [] 0).DR:=#[by rcases pok.1 with h|h<;>rw[h]<;>decide,pok.2.1];lk;show#[f,us,rs,rfl,T9,Lv,fok,∅,λg vs H8 s8 j hg hgs=>?_];let Bd:=Lu fok;let ahW:=fQ (rs:=rs) (p:=rs.length)^aq _;let gle:=vU rs rs.length;let gne:b4 rs rs.length≠[]:=λz=>by rw[z] at ahW;have:=(uK (rs:=rs) (p:=0) ∅).1;let e:0=firstM rs rs.length:=ahW;lia
 let hgl:=hgs.length;let sim:=S6 (rs:=rs);let hS8:=s8.seq hS7;let ahX:=s8 _ _ ahV;let ahY:=s8 _ _ htp;let ahZ:=s8 _ _ hlp;clear T9 Lv hS7 ahV htp hlp s8;let T1:=GS sim fok JC.1 ∅ xs most;lk;ext lb H9 n9;let hg9:=n9.keep hg;let Zw:=hgs.same n9.same;show#[g,lb,.cH,vs,_,xs,11*most,by rw[Int.natCast_mul];rfl,hg9,Zw,Bd,n9.self,∅,Fs,.inl rfl,∅,λtf lf Ca oE j htf Zq=>?_];let qE:=n9.same.trans oE;let WL:=qE _ _ hg;let Tg:=hgs.same qE;let ah0:=qE.seq hS8;let Zx:=qE _ _ ahX;let LP:=qE _ _ ahY;let LQ:=qE _ _ ahZ;clear hg9 Zw n9 oE hg hgs hS8 ahX ahY ahZ qE;obtain⟨pl,epl⟩:∃o,o=runM rs most 0 (oF xs) [] 0:=#[_,rfl];rw[<- epl] at LP LQ Tf T1;obtain⟨fd,efd⟩:∃o,o=pY (b4 rs rs.length) xs (11*most):=#[_,rfl];rw[<- efd] at htf Zq T1;let Zy:fd.DR:=by rw[efd];show Cz _ _ ∅
 let sm1:LM fd pl:=LO T1;lk;show#[tf,tp,lf,lp,fd,pl,rfl,htf,Zq,LP,LQ,Zy,Tf,sm1,λIY Cb=>?_];let adu:=Cb _ _ WL;let JD:=Tg.same Cb;let ang:=Cb.seq ah0;let Zz:=Cb _ _ Zx;let ZA:=Cb _ _ LP;let ZC:=Cb _ _ LQ;let ZD:=Cb _ _ htf;let ZE:=Cb _ _ Zq;clear WL Tg ah0 Zx LP LQ htf Zq Cb;lk;ext lc Nj AN;let#[ks,ek,xM]:=GY ns (!14)^!30;rw[ek] at AN;let Th:=JD.same AN.same;show#[g,lc,vs,rs,_,_,_,ks,rfl,AN.keep adu,Th,#[Bd,gne,∅],sim,JC.1,AN.self,∅,λc1 us1 cs1 g1 k1 YQ uW KM NE Fn hs1 Md=>?_];let xC:=AN.same.trans uW;let Xr:=xC _ _ adu;let DX:=JD.same xC;let ZF:=xC _ _ Zz;let ZG:=xC _ _ ZA;let ZH:=xC _ _ ZC;let ZI:=xC _ _ ZD;let ZJ:=xC _ _ ZE;clear adu JD ang Zz ZA ZC ZD ZE AN uW xC Th;lk;show EA (λU' H'=>az YQ H'/\E5 λ(c2:Addr)(Oj:List V)(cs2:List Row)(g2 k2:Nat->Nat)=>A6 (U'=[!.ref a,!.int c,!.int d,!.int m,!.ref p1,!.ref t,!.ref f,!.ref ar,!.int most,!.ref tp,!.ref g,!.ref tf,!.ref c2,none]) (H' c2=!.lst Oj) (Rows H' Oj cs2) (Lx cs2 3500) (S4 rs cs2 g2 k2) (∀p,k2 p<=dj rs p)) ?_ ?_
 .lk
  .rename_i asI;let asJ:ms.length<=3:=hm3 ∅;show#[g,vs,_,rfl,Xr,DX,Bd,∅,gne,λUi Bc=>#[λH14 AO no=>?_,λdl H14 AO hd=>?_]];let#[F,hF]:=Sb fok JC.1 JC.2 Ui Bc;show absurd hF^no F
   .have Hm:=Cm hd;lk;show#[d,58,rfl,(),(),λr2 r20 r21=>?_];lk;let anh:acO (dl+r2 % 11)^b4 rs rs.length:=by unfold acO;rw[Hm];show decide_eq_true ∅
    let cM:Lx (b4 rs rs.length) 2000:=#[Bd,gne,∅];show#[g,vs,_,_,ahS rs,rfl,AO _ _ Xr,DX.same AO,cM,anh,#[_,_,sim,λj=>aq _],S8 JC.1,λc3 us3 cs3 Uc s15 j hc3 hr3 t3 z3=>?_];let#[g3,k3,S3,h3]:=z3;lk;show#[AO.trans s15,c3,us3,_,g3,k3,rfl,hc3,hr3,#[t3.ok,t3.ne,by have:=t3.len;lia],S3,h3]
  .show#[az.refl _,c1,us1,cs1,g1,k1,rfl,KM,NE,Fn,hs1,Md]
 rintro _ H14 ⟨AO,c2,Oj,cs2,g2,k2,rfl,hc2,hr2,Np,IH,Kk⟩;let ah1:=AO _ _ Xr;let Ti:=DX.same AO;let ZK:=AO _ _ ZF;let ZL:=AO _ _ ZG;let ZM:=AO _ _ ZH;let ZN:=AO _ _ ZI;let ZQ:=AO _ _ ZJ;clear Xr DX ZF ZG ZH ZI ZJ AO KM NE Fn hs1 Md;lk;ext ld Uc n15;let T2:=GS IH fok JC.1 ∅ xs most;let amG:=hr2.length;show#[c2,ld,.cH,Oj,cs2,xs,11*most,by rw[Int.natCast_mul];rfl,n15.keep hc2,hr2.same n15.same,Np.ok,n15.self,∅,Fs,.inl rfl,∅,λtg lg H16 Wj j Wk WJ=>?_];rw[<- epl] at T2;obtain⟨ag,eag⟩:∃o,o=pY cs2 xs (11*most):=#[_,rfl];rw[<- eag] at Wk WJ T2;let ah3:ag.DR:=by rw[eag];show Cz _ _ ∅
 let sm2:LM ag pl:=LO T2;let hle:pl.tag = "back" -> ag.n<=fd.n:=λe=>by rw[(T1.2.1 e).1,(T2.2.1 e).1];show LI Kk _ _ _
 let xD:=n15.same.trans Wj;let ah4:=xD _ _ ah1;let Tj:=Ti.same xD;let ZR:=xD _ _ ZK;let Tn:=xD _ _ ZL;let ZS:=xD _ _ ZM;let To:=xD _ _ ZN;let ZT:=xD _ _ ZQ;let hx1:=Tn;let hx2:=Wk;let hx3:=To;unfold Out.vals at hx1 hx2 hx3;clear ah1 Ti ZK ZL ZM ZN ZQ n15 Wj xD hc2 hr2;lk;ext hb hgt;have:=hle hb;lia;clear hx1 hx2 hx3;show#[tg,tp,lg,lp,ag,pl,rfl,Wk,WJ,Tn,ZS,ah3,Tf,sm2,λH17 I0=>?_];let ani:=I0 _ _ ah4;let adw:=Tj.same I0;let ah5:=I0 _ _ ZR;let ah6:=I0 _ _ To;let ah7:=I0 _ _ ZT;clear ah4 Tj ZR Tn ZS To ZT Wk WJ I0;lk;ext le H18 Wf;show#[g,ar,¬le,vs,_,xs,11*most,by rw[Int.natCast_mul];rfl,Wf.keep ani,adw.same Wf.same,Bd,Wf.keep ah5,∅,Fs,.inr #[le,rfl,Wf.self],∅,λth lh H19 s19 j PX hlh=>?_];rw[<- efd] at PX hlh;let ZU:=Wf.same.trans s19;lk;show zk fd.data 2 () (Out.rdM PX hlh) (Out.rdM (ZU _ _ ah6)^ZU _ _ ah7) (Out.shM Zy) ?_;show q _
def k_(x):p_ x:=Classical.byContradiction λh=>by have:=Classical.epsilon_spec (p:=λx=>Not (p_ x)) #[x,h];with_unfolding_all refine this λT=>?_;with_unfolding_all exact ads T
def zl0{us:List J}(h:dC=n+1):∃v r,us=v::r/\eC=n:=by cases us with | nil=>simp at h | cons v r=>show#[v,r,rfl,by simpa using h]
def ZV{us:List J}(h:dC=1):∃v0,us=[v0]:=by let#[v,r,Y,k]:=zl0 h;cases r with | nil=>show#[v,rfl] | cons a b=>simp at k
def ah8{us:List J}(h:dC=2):∃v0 v1,us=[v0,v1]:=by let#[v,r,Y,k]:=zl0 h;let#[v1,Y]:=ZV k;show#[v,v1,Y]
def ZW{us:List J}(h:dC=3):∃v0 v1 v2,us=[v0,v1,v2]:=by let#[v,r,Y,k]:=zl0 h;let#[v1,v2,Y]:=ah8 k;show#[v,v1,v2,Y]
def ZX{us:List J}(h:dC=4):∃v0 v1 v2 v3,us=[v0,v1,v2,v3]:=by let#[v,r,Y,k]:=zl0 h;let#[v1,v2,v3,Y]:=ZW k;show#[v,v1,v2,v3,Y]
noncomputable def GZ(X:K.In h)(G:h.Ns mainGlobals mg)(pZ:PySem.W.nsIn K mainGlobals "BLOCKS_AT" = !!.ref rM)(qa:K.lookup rM=some #[.type "dict", none,.dict #v[{ hash:=PyData.keyHash w.params "if", key:=.str "if" DY,val:=¬qb },{ hash:=PyData.keyHash w.params "while", key:=.str "while" DZ,val:=¬qc }] adx,#[]])(qd:(rM==sysModules)=bo)(nQ:K.lookup qb=some #[.type "tuple", Ul,.seq #v[.int 2 Om,.int 3 Oo] Xs,Um])(nR:K.lookup qc=some #[.type "tuple", Uo,.seq #v[.int 2 Oq] Xu,Uq]):wW w K mg:={ pA:=rM,wX:=kT X G pZ,jY:=qb,tU:=fq.mk' nQ (.cons #[_,Y]^.cons #[_,Y] (.nil)) Y,jZ:=qc,tV:=fq.mk' nR (.cons #[_,Y] (.nil)) Y,wY:=qH.mk' (es:=[("if", DY,¬qb),("while", DZ,¬qc)]) qa qd (show(["if", "while"]:List ax).Nodup from ()) (.cons #[Y,Y]^.cons #[Y,Y] (.nil)) }
noncomputable def JE(X:K.In h)(G:h.Ns mainGlobals mg)(rN:PySem.W.nsIn K mainGlobals "NAMES_AT" = !!.ref wj)(rO:K.lookup wj=some #[.type "dict", none,.dict #v[{ hash:=PyData.keyHash w.params "num", key:=.str "num" G0,val:=¬rP },{ hash:=PyData.keyHash w.params "copy", key:=.str "copy" G1,val:=¬rQ },{ hash:=PyData.keyHash w.params "op", key:=.str "op" G2,val:=¬rR },{ hash:=PyData.keyHash w.params "out", key:=.str "out" G3,val:=¬rS },{ hash:=PyData.keyHash w.params "if", key:=.str "if" G4,val:=¬rT },{ hash:=PyData.keyHash w.params "while", key:=.str "while" G5,val:=¬rV }] ad2,#[]])(rW:(wj==sysModules)=bo)(qe:K.lookup rP=some #[.type "tuple", Xv,.seq #v[.int 1 Tp] ZY,Xw])(qf:K.lookup rQ=some #[.type "tuple", Xx,.seq #v[.int 1 Tq,.int 2 Tr] ZZ,Xy])(qg:K.lookup rR=some #[.type "tuple", Xz,.seq #v[.int 1 Tt,.int 3 Tu,.int 4 Tv] Z0,XA])(qh:K.lookup rS=some #[.type "tuple", XC,.seq #v[.int 1 Tw] Z1,XD])(qi:K.lookup rT=some #[.type "tuple", XE,.seq #v[.int 1 Tz] Z2,XF])(qj:K.lookup rV=some #[.type "tuple", XG,.seq #v[.int 1 TF] Z3,XH]):zT w K mg:={ rD:=wj,zU:=kT X G rN,pB:=rP,wZ:=fq.mk' qe (.cons #[_,Y] (.nil)) Y,pC:=rQ,w5:=fq.mk' qf (.cons #[_,Y]^.cons #[_,Y] (.nil)) Y,pF:=rR,w6:=fq.mk' qg (.cons #[_,Y]^.cons #[_,Y]^.cons #[_,Y] (.nil)) Y,pG:=rS,xg:=fq.mk' qh (.cons #[_,Y] (.nil)) Y,pH:=rT,xh:=fq.mk' qi (.cons #[_,Y] (.nil)) Y,pI:=rV,xj:=fq.mk' qj (.cons #[_,Y] (.nil)) Y,zV:=qH.mk' (es:=[("num", G0,¬rP),("copy", G1,¬rQ),("op", G2,¬rR),("out", G3,¬rS),("if", G4,¬rT),("while", G5,¬rV)]) rO rW (show(["num", "copy", "op", "out", "if", "while"]:List ax).Nodup from ()) (.cons #[Y,Y]^.cons #[Y,Y]^.cons #[Y,Y]^.cons #[Y,Y]^.cons #[Y,Y]^.cons #[Y,Y] (.nil)) }
noncomputable def XI(X:K.In h)(G:h.Ns mainGlobals mg)(D3:PySem.W.nsIn K mainGlobals "PARTS" = !!.ref JF)(D4:K.lookup JF=some #[.type "dict", none,.dict #v[{ hash:=PyData.keyHash w.params "num", key:=.str "num" TH,val:=¬D5 },{ hash:=PyData.keyHash w.params "copy", key:=.str "copy" TJ,val:=¬D6 },{ hash:=PyData.keyHash w.params "op", key:=.str "op" TL,val:=¬D7 },{ hash:=PyData.keyHash w.params "out", key:=.str "out" TM,val:=¬D8 },{ hash:=PyData.keyHash w.params "fork", key:=.str "fork" TN,val:=¬D9 },{ hash:=PyData.keyHash w.params "look", key:=.str "look" TQ,val:=¬Ea },{ hash:=PyData.keyHash w.params "mark", key:=.str "mark" TR,val:=¬Eb },{ hash:=PyData.keyHash w.params "back", key:=.str "back" TU,val:=¬Ec }] anj,#[]])(Ed:(JF==sysModules)=bo)(AB:K.lookup D5=some #[.type "tuple", ad3,.seq #v[.str "side" Z4,.str "box" Z5,.str "value" Z6,.str "place" Z7] ah9,ad4])(AD:K.lookup D6=some #[.type "tuple", ad5,.seq #v[.str "side" Z8,.str "box" Z9,.str "box" aaa,.str "place" aab] aia,ad6])(AE:K.lookup D7=some #[.type "tuple", ad7,.seq #v[.str "side" aac,.str "sign" aad,.str "box" aae,.str "box" aaf,.str "box" aag,.str "place" aah] aib,ad8])(AF:K.lookup D8=some #[.type "tuple", ad9,.seq #v[.str "box" aai,.str "place" aaj] aic,aea])(AG:K.lookup D9=some #[.type "tuple", aeb,.seq #v[.str "box" aak,.str "place" aal,.str "place" aam] aid,aec])(AH:K.lookup Ea=some #[.type "tuple", aed,.seq #v[.str "box" aan,.str "place" aao] aie,aee])(AI:K.lookup Eb=some #[.type "tuple", aef,.seq #v[.str "place" aap] aif,aeg])(AJ:K.lookup Ec=some #[.type "tuple", aeh,.seq #v[.str "box" aaq] aih,aei]):K3 w K mg:={ Dq:=JF,Dr:=kT X G D3,tW:=D5,FO:=fq.mk' AB (.cons #[_,Y]^.cons #[_,Y]^.cons #[_,Y]^.cons #[_,Y] (.nil)) Y,tX:=D6,FP:=fq.mk' AD (.cons #[_,Y]^.cons #[_,Y]^.cons #[_,Y]^.cons #[_,Y] (.nil)) Y,tY:=D7,FQ:=fq.mk' AE (.cons #[_,Y]^.cons #[_,Y]^.cons #[_,Y]^.cons #[_,Y]^.cons #[_,Y]^.cons #[_,Y] (.nil)) Y,tZ:=D8,FT:=fq.mk' AF (.cons #[_,Y]^.cons #[_,Y] (.nil)) Y,ud:=D9,FU:=fq.mk' AG (.cons #[_,Y]^.cons #[_,Y]^.cons #[_,Y] (.nil)) Y,ue:=Ea,FW:=fq.mk' AH (.cons #[_,Y]^.cons #[_,Y] (.nil)) Y,uf:=Eb,FY:=fq.mk' AI (.cons #[_,Y] (.nil)) Y,ug:=Ec,FZ:=fq.mk' AJ (.cons #[_,Y] (.nil)) Y,Ds:=qH.mk' (es:=[("num", TH,¬D5),("copy", TJ,¬D6),("op", TL,¬D7),("out", TM,¬D8),("fork", TN,¬D9),("look", TQ,¬Ea),("mark", TR,¬Eb),("back", TU,¬Ec)]) D4 Ed (show(["num", "copy", "op", "out", "fork", "look", "mark", "back"]:List ax).Nodup from ()) (.cons #[Y,Y]^.cons #[Y,Y]^.cons #[Y,Y]^.cons #[Y,Y]^.cons #[Y,Y]^.cons #[Y,Y]^.cons #[Y,Y]^.cons #[Y,Y] (.nil)) }
def ady{l:PySem.W.OpenLaw}{fa:ae}(T:Txt w K mg)(hfa:mg "law" = !.ref fa):∃fd:FuncData,(∀(s:aw)(v:J),BindsTo s fd #[[v],[]] [("_law_script", v)])/\∀base:cv,K.In base->base.Ns mainGlobals mg->bK l.prog w K mg base fX 12 fa fd ["_law_script"]^K5 K:=by let e:=hfa.symm.trans T.law.m;cases e;show#[T.law.d,T.law.bind1 (λz z z z z z us hl=>by let#[v0,Y]:=ZV hl;rfl),λbase kb nb=>k_ (l.prog,w,K,mg,base) T]
def walk{l:PySem.W.OpenLaw}{q:de}{NA:List ax}{XP:(ax->Option J)->cv->O}{YP:cw->cv->O}{d:DefRec}{K:Params->aB}(hn:l.most=!63)(hdf:d.params.defaults=[])
  (hY:∀(w:cw)(h:cv),YP w h->(K w.params).In h)
  (F:∀(w:cw)(mg:ax->Option J)(fa:ae)(h:cv),(K w.params).In h->h.Ns mainGlobals mg->mg d.name=!(¬fa) ->
   ∃fd:FuncData,(∀(s:aw)(u:J),BindsTo s fd #[[u],[]] [("_law_script", u)])/\∀base:cv,(K w.params).In base->base.Ns mainGlobals mg->bK l.prog w (K w.params) mg base fX 12 fa fd ["_law_script"]^K5^K w.params):
  PySem.W.WalkO q NA XP YP l.row.toRowW d [] (λf vs=>PySem.call f vs) :=
 L2.UL (n:=63) (k:=12) (x := "_law_script") (CX:=λj=>fX) (sp:=λw=>K5^K w.params) hn () hdf #[Y,(),()] hY F (λj j a ns hl j hS=>#[a,ns,Y,hS,hl,λj=>rfl]) λj j j j j z=>z
end
end TG
end Internal
open Internal
open PySem PySem.W PyProof.Rows
open Lean in
local macro_rules (kind:=Lean.Parser.Command.declaration) | x=>if x[1][1][0].getId==`tw then
  let f (s:String):=x.modifyArg 1 λy=>(y.modifyArg 0 λ_=>mkAtom "def").modifyArg 1 (·.modifyArg 0 λ_=>mkIdent (.str `PySem.W.Fast s!"tw{("PySem.Challenge."++s).toName.hash}"))
  return mkNullNode (f "pw_turnguard_k77_whole_hardened_runs"::((List.range 573).map (s!"o_{·}")++"env_41 heap_39 heap_46 heap_543 heap_571 sts_105 sts_159 sts_235 sts_315 sts_342 sts_390 sts_399 sts_483 sts_49 sts_564 tree_102 tree_156 tree_234 tree_314 tree_341 tree_389 tree_398 tree_482 tree_563 tree_570 view_39".splitOn " ").map λs=>f ("cw_turnguard_k77_whole_hardened_runs_holds."++s)).toArray
 else Macro.throwUnsupported
def tw:True:=trivial
set_option maxRecDepth 100000 in
set_option maxHeartbeats 0 in
theorem PySem.Challenge.cw_turnguard_k77_whole_hardened_runs_holds : PySem.Challenge.rw_turnguard_k77_whole_hardened_runs.Holds := by
 w_on;o_law;k_head;(case hw=>w_witness2)
 k_fill
 refine TG.walk (l:=PySem.Challenge.rw_turnguard_k77_whole_hardened_runs) rfl rfl (λw h ZB=>kIn_of ZB) ?F
 case F =>
  intro w mg fa h KX G hmg
  refine' TG.ady (w:=w) ⟨_,?q0,?_,?_,?_,?_,?_,?_,?_,?_,?_,?_,?_,?_,?_,?_,?q15,?_,?_,?_,?_,?_,?_,?_,?_,?_,?_,?_,?_,?_,?_,?_,?_,?_,?_,?_,?_,?_,?_,?_,?_,?_,?_,?_,?_,?_,?_,?_,?_,?_,?_,?_,?_,?q52,?_,?_,?_,?_,?_,?_,?_,?_,?_,?_,?_,?_,?_,?_,?_,?_,?_,?_,?_,?_,?_,?_,?_,?_,?_,?_,?_,?_,?_,?_,?_,?_,?_,?_,?_,?_,?_,?_,?_,?_,?q93,?q94,?q95,?q96,?q97,?q98,?q99,?ank,?anl⟩ hmg
  case q0=>(refine' L2.afN KX G ?a ?b ?c ?d ?e ?f ?g;(case a|b|c|d|e|f|g=>k_is))
  case q15|q52=>(refine' L2.afP KX G ?a ?l ?c ?k ?d ?s ?b;(case a|l|c|k|d=>k_is);(case s=>rfl);(case b=>(intro us hl;first|(obtain⟨_,_,_,rfl⟩:=TG.ZW hl;exact ⟨_,rfl,rfl⟩)|(obtain⟨_,_,_,_,rfl⟩:=TG.ZX hl;exact ⟨_,rfl,rfl⟩))))
  case q94|anl=>(refine' L2.afL KX G ?a;(case a=>k_is))
  case q95|q96|q97|ank=>(refine' L2.afM KX G ?a ?l ?r ?z;(case a|l=>k_is);(case r=>(repeat (first|exact .nil |refine .cons ⟨_,rfl⟩ ?_)));(case z=>exact dW rfl))
  case q93 =>
   refine' TG.GZ KX G ?pZ ?qa ?qd ?nQ ?nR
   case pZ|qa|nQ|nR=>k_is
   case qd=>rfl
  case q98 =>
   refine' TG.JE KX G ?rN ?rO ?rW ?qe ?qf ?qg ?qh ?qi ?qj
   case rN|rO|qe|qf|qg|qh|qi|qj=>k_is
   case rW=>rfl
  case q99 =>
   refine' TG.XI KX G ?D3 ?D4 ?Ed ?AB ?AD ?AE ?AF ?AG ?AH ?AI ?AJ
   case D3|D4|AB|AD|AE|AF|AG|AH|AI|AJ=>k_is
   case Ed=>rfl
  iterate 8 focus(unfold L2.eX;k_is)
  iterate 54 focus(refine' L2.afK KX G ?b ?a ?l ?c ?k;(case b=>(intro _ _ _ _ _ _ us hl;first|(obtain⟨_,rfl⟩:=TG.ZV hl;rfl)|(obtain⟨_,_,rfl⟩:=TG.ah8 hl;rfl)|(obtain⟨_,_,_,rfl⟩:=TG.ZW hl;rfl)|(obtain⟨_,_,_,_,rfl⟩:=TG.ZX hl;rfl)));(case a|l|c|k=>k_is))
  iterate 10 focus(refine' L2.afO ?b ?a ?i ?l ?c ?k;(case b=>(intro _ _ _ _ _ _ us hl;first|(obtain⟨_,rfl⟩:=TG.ZV hl;rfl)|(obtain⟨_,_,rfl⟩:=TG.ah8 hl;rfl)|(obtain⟨_,_,_,rfl⟩:=TG.ZW hl;rfl)|(obtain⟨_,_,_,_,rfl⟩:=TG.ZX hl;rfl)));(case a|i|l|c|k=>k_is))
  iterate 18 focus(refine mg_none_of KX G ?_;k_is)
end
