import PyProof.Rows.All
import Wide.All
import OpenK.AllK
import Wide.FinOn
import Lean
import PyProof.EqAt
import PyProof.EqKinds
import PyProof.TupleCall
import KE.KRevIter
import KE.KRevSl
import PyProof.AttrMiss
import KE.KDictOf
import PyProof.FactsAll.enumerate
import PyProof.FactsAll.zip
import PyProof.ListRange
import PyProof.FactsAll.list_1
import KE.KDictList
import PyProof.StrOps2
import PyProof.Rows.SetFrom
import PyProof.CollectStr
import PyProof.Rows.SortWalk
import KE.KSortTup
import KE.KDictList
import PyProof.FactsAll.range_2
import PyProof.P3Eq
import KE.KEqDict
import KE.KLam
import KE.KNestM
import KE.KMinKey
import PyProof.Rows.Range3
import PyProof.Rows.SeqMore2
import PySem.Challenge.RW_turnguard_k62_whole_hardened_has_a_delay
set_option Elab.async false
set_option linter.all false
set_option maxRecDepth 100000
def au:=@PySem.wpAny_bind
def aL:=@PySem.wpAny_pure
def dY:=@PySem.Heap.get?_push_of_some
def iI:=@PySem.Heap.get?_push_size
def e9{α:Type}{l:List α}{i:Nat}{a:α}(h:l[i]?=some a):∃h:i<l.length,l[i]=a:=List.getElem?_eq_some_iff.mp h
def fh{α:Type}{l:List α}{i:Nat}(h:i<l.length):l[i]?=some l[i]:=List.getElem?_eq_getElem h
def gq{α:Type}{l:List α}{i:Nat}{a:α}(h:l[i]?=some a):a∈l:=List.mem_of_getElem? h
def vD{α:Type}{l:List α}{i:Nat}{a:α}:l.getD i a=l[i]?.getD a:=List.getD_eq_getElem?_getD
def lG:¬(false=true):=Bool.false_ne_true
noncomputable section
namespace Internal
local macro_rules (kind:=Lean.Parser.Command.declaration) | x=>match x[1][0] with|.atom (.original ..) v=>return x.modifyArg 1 (·.modifyArg 0 λ_=>.atom .none v)|_=>Lean.Macro.throwUnsupported
def WL.o(s:Lean.Syntax):Bool:=match s.getHeadInfo with|.original ..=>true|_=>false
local macro_rules | `(#[])=>Lean.Macro.throwUnsupported | `(#[%$t $a,*])=>if WL.o t then `(⟨$a,*⟩) else Lean.Macro.throwUnsupported
local macro_rules | `(#v[$a,*])=>`(List.toArray [$a,*])
namespace WL
open Lean in
def rp:Nat->Term->MacroM (TSyntax `rcasesPat)
 | 0,_=>Macro.throwUnsupported
 | n+1,s=>do
  match s with
  | `(#[$a,*])=>do
   let b ← a.getElems.mapM (rp n)
   `(rcasesPat| ⟨$[$b:rcasesPat],*⟩)
  | `($i:ident)=>`(rcasesPat| $i:ident)
  | `(_)=>`(rcasesPat| _)
  | _=>Macro.throwUnsupported
end WL
local macro_rules | `(tactic| walk_at "or")=>`(tactic| first|exact .inl rfl|exact .inr rfl|assumption)
local macro_rules | `(tactic| walk_at "oi")=>`(tactic| first|exact .inl rfl|exact .inr rfl)
local macro_rules | `(tactic| walk_at "ir")=>`(tactic| (intro _;rfl))
namespace WL
open Lean
def rd(lm:Syntax)(sc:Name)(tb:List (Char×List String)):Nat->List Char×List Term->Term×List Char×List Term
 | k+1,(c::s,r)=>
  let wd:=(mkIdent (String.ofList (s.takeWhile (·!=' '))).toName,(s.dropWhile (·!=' ')).drop 1,r)
  let nm(s:List Char):Term:=Syntax.mkNumLit (toString (s.head!.toNat-48))
  let pv(n:Term):Term:=Syntax.mkApp (mkIdent `pv) (.singleton n)
  let nd:Term:=mkIdent (sc++`nd)
  if c.isDigit then (pv (nm [c]),s,r)
  else if c=='!' then (r.head!,s,r.tail)
  else if c=='\'' then (wd.1,wd.2)
  else if c=='#' then (nm s,s.tail,r)
  else if c=='&' then (pv (nm s),s.tail,r)
  else if c=='$' then (nd,s,r)
  else match tb.lookup c with
   | some (h::ws)=>
    let z:=ws.foldl (λz w=>
     let s:=z.2.1
     let q:Term×List Char×List Term:=if w=="e" then rd lm sc tb k z.2 else if w=="l" then let y:=rd lm sc tb k z.2;(⟨lm.setArg 1 (lm[1].setArg 3 y.1)⟩,y.2)
      else if w=="n" then (nm s,s.tail,z.2.2) else if w=="s" then (nd,z.2) else if w=="_" then (mkHole .missing,z.2) else if w=="!" then (z.2.2.head!,s,z.2.2.tail)
      else if w=="x" then (Syntax.mkApp (mkIdent (String.ofList (s.takeWhile (·!=' '))).toName) (.singleton (mkIdent `T)),(s.dropWhile (·!=' ')).drop 1,z.2.2) else (mkIdent w.toName,z.2)
     (z.1.push q.1,q.2)) (Array.empty,s,r)
    (Syntax.mkApp (mkIdent h.toName) z.1,z.2)
   | _=>(mkHole .missing,s,r)
 | _,z=>(mkHole .missing,z)
def tb:=("*aa,e,af +ak,e,e -aa,e,e .aq,e /bD,n,s,e :aS,_,x,hr,e,rfl,rfl,rfl <aI,e =aT,e >aX,aR,e,ai ?dX,n,s,rfl @dF,e,e,bL Aaa,aW,e BaB,bH,e,ai CbS,e Ddw,bK,rfl,e,e,e EdM FaB,cH,e,ai GaX,b8,e,e Hbh.cz,!,!,!,!,rfl,rfl,rfl,rfl,rfl,rfl IcY,e JaO,bN,rfl,T.eO,BT.eK,e KgZ,hr Laa,ai,af Mai NcO,af OdI,e,e,l,l PbF,e,e,rfl Qaa,ai,e RaB,cQ,e,ai SaB,bH,e,e TaB,e,e,e UbF,e,gr,rfl VaX,e,e,e Wgf,b7,fO,fP,dH,e,e XfF,e,e,e YfF,fu,e,ai ZcO,e [f9,e,e,e ]PW.pt,e ^i7,e,e,e,! _gu,rfl,T.gQ,e,rfl `fB,e,e,e,e afQ,ai bdG,e,rfl,e,e,e caB,cQ,e,e dgM ekY,e,rfl fdX,n,!,rfl gnN,e heX,e,e,e,! igf,b7,ki,kj,gY,e,e jaO,e,rfl,T.eO,BT.eK,e kaB,kM,e,ai laB,cQ,ai,e mlX,rfl,T.gn,e,rfl,rfl naa,aW,af ofF,fu,e,aW pxh,e,e qeX,iS,e,e,! raO,e,rfl,e,e,e sBJ,n,s,bh.pz,e,l,l,rfl,rfl tAm,n,e,rfl,rfl,rfl utE,e,e,rfl,rfl,rfl vtw,e waO,e,rfl,T.lq,BT.kW,e xaB,lT,e,e ysZ,e zaB,lR,ai,e {o5,e,e |fF,fu,e,e }kY,T.pU.c,rfl ~o4,e,e,e,qO,rfl ¡kR,bK,e,e ¢jJ,e,! £tD,e,e ¤jW,hr.units,e,e,! ¥xg ¦fQ,e §aX,xy,aW,e ¨xj,e ©lR ªvW «dI,bh.pz,e,l,l ¬fS.oz,!,e ­fB,lS,e,e,gM ®JA,K,n,e,rfl,rfl,rfl,rfl ¯aB,Bl,e,e °JB,T.Tc.c,rfl ±dG,e,rfl,T.JP,BT.CY,e ²Bj,b7,PySem.F.slot_list_pop,PySem.F.type_list_pop,Bk,e,rfl,rfl ³qP,e ´aX,e,e,ai µrC,e ¶lS ·Ir,Bb,ai ¸fF,xo,e,ai ¹aX,b8,e,ai ºaI,qO »F1,e,e,set_list ¼Gs,rfl,T.PZ,e,rfl,rfl ½xO,e,e,e,! ¾tS ¿T.BU ÀBT.Bp ÁF4,e ÂxC ÃFY,e ÄaW ÅT.Hq ÆBT.Ge ÇBJ,n,s,e,e,l,l,rfl,rfl Èud ÉX3,n,s,e,e,rfl ÊxM ËGf,rfl,e,rfl,rfl ÌxK,e,e ÍF6 ÎBd,fu,e,aW,e ÏBc,_ Ðo6 ÑT.mG ÒBT.lW Óxo ÔC6,e,e,l,l,l ÕT.g8.BP ÖT.g8.BO ×VB,n,s,e,e,l,l,l,rfl,rfl ØT.JQ.c ÙlU Úqt,rfl ÛtV,rfl ÜGF,hr.units ÝDC ÞDE,hr.units,e,e,e,rfl ßyd,hr.units,rfl àIU áaS,e,e,hr,e,rfl,rfl,rfl âNN,e,e,e ãNr äxP,rfl åT.VF æBT.Vi çzX,rfl,T.gQ,e,rfl,rfl èUT éUW êxH,rfl,T.qy,rfl,T.mH,e,rfl,rfl,rfl ëI9,rfl,T.mH,e,rfl,rfl ìaf íaR îT.qy ïBT.tM ðdF,e,e,e ñkM òKP,e,e,e óS0,rfl,rfl,T.PY,e,ai,rfl,rfl,rfl,rfl,rfl ôPa,hr.units,e,e,ai,WJ,! õPh,e,rfl,rfl öNU,e,e,e,e,! ÷K7,T.jL.uW,e,e,e,! øo4,e,e,e,e,rfl ùZV,e,e úWw,e ûNz,UU,UU,ai,e,e üBu,rfl,T.qy,rfl,T.gQ,e,rfl,rfl,rfl,rfl".splitOn " ").map λx=>(x.toList.head!,(x.drop 1).toString.splitOn ",")
end WL
set_option hygiene false in
local macro_rules | `(tactic| exists%$t $xs,*)=>do
 let x:=xs.getElems.toList
 if !WL.o t||x.length<4 then Lean.Macro.throwUnsupported else
  let p ← WL.rp 9 x[2]!
  let l ← `(fun _ _ _ _=>p)
  let m:=(WL.rd l x[1]!.raw.getId WL.tb 99 ((x[3]!.raw.isStrLit?.getD "").toList,x.drop 5)).1
  let z:=Array.replicate (x[4]!.raw.isNatLit?.getD 0) (← `(_))
  `(tactic| (refine $(⟨x[0]!.raw⟩).F.ok $(x[1]!) ?_ ?_; (rintro vs H Q E $p; rfl); rintro cdv A outer s H vs Q E hr $p; refine ⟨_,$m,?_⟩; change(_:TS) (Ends.mk _ _ _ _) [$z,*] H; walk_at "start"))
local macro_rules | `(tactic| let $p:term:=$e)=>do `(tactic| obtain $(← WL.rp 9 p):rcasesPat:=$e)
local macro_rules | `(tactic| erw%$t [$[$r:term],*] $[$l:location]?)=>if WL.o t then `(tactic| simp only [$[$r:term],*] $[$l]?) else Lean.Macro.throwUnsupported
local macro_rules | `(tactic| show%$t $e:term)=>if WL.o t then `(tactic| refine $e) else Lean.Macro.throwUnsupported
local macro_rules | `($f ^%$t $x)=>do if !WL.o t||f.raw.isOfKind `num||f.raw.isOfKind `Lean.Parser.Term.typeAscription then Lean.Macro.throwUnsupported else match f with | `($f $a*)=>`($f $a* $x) | _=>`($f $x)
local macro_rules | `(∅%$t)=>if WL.o t then `(by lia) else Lean.Macro.throwUnsupported
local macro_rules | `(tactic| walk_at "sc")=>`(tactic| exact⟨rfl, rfl, rfl, by decide +kernel, rfl, by decide +kernel, by decide +kernel⟩)
abbrev az:=PySem.W.Frag
section
open PySem PySem.Spec PyProof.Rows
def iu:=@Around.under_plainId
def qM:=@Array.forIn_toList
def fX:=@Array.getElem?_eq_getElem
def uG:=@Array.getElem?_eq_none
def nD:=@Array.getElem?_eq_some_iff
def fY:=@Array.getElem?_toList
def dB:=@Array.length_toList
def zU:=@Bool.and_eq_true
def wO:=@Bool.false_and
def cB:=@Bool.false_eq_true
def gR:=@Bool.not_true
def sP:=@Calls.callWith_builtin
def AZ:=@Calls.call_function_entry
def jQ:=@Calls.spliced_cons
def lH:=@Calls.spliced_nil
def wQ:=@Classical.byContradiction
def qc:=@F.entry_max_loop
def gE:=@F.plain_max_loop
def A0:=@F.slot_dict_keyiterator_next
def A1:=@F.slot_dict_valueiterator_next
def A2:=@F.slot_tuple_iterator_next
def kH:=@Heap.SameBut.update
def gS:=@Heap.get?_update_ne
def fZ:=@Heap.get?_update_other
def fj:=@Heap.get?_update_self
def aH:=@Heap.lt_size
def fk:=@Heap.size_push
def jo:=@Int.toNat_natCast
def qd:=@List.Perm.refl
def kI:=@List.any_cons
def jq:=@List.append_assoc
def fH:=@List.append_nil
def nE:=@List.cons_append
def A3:=@List.drop_eq_getElem_cons
def sQ:=@List.ext_getElem?
def jr:=@List.filter_append
def wR:=@List.filter_cons_of_neg
def wU:=@List.filter_cons_of_pos
def iN:=@List.find?_cons
def sR:=@List.flatMap_cons
def nF:=@List.forIn_cons
def sS:=@List.forIn_nil
def jR:=@List.getElem?_append_left
def kJ:=@List.getElem?_append_right
def jt:=@List.getElem?_cons_succ
def A4:=@List.getElem?_cons_zero
def nG:=@List.getElem?_drop
def iO:=@List.getElem?_eq_none
def aV:=@List.getElem?_map
def wV:=@List.getElem?_range
def sU:=@List.getElem?_set_ne
def sV:=@List.getElem?_take_of_lt
def lJ:=@List.getElem?_toArray
def qe:=@List.getElem?_zip_eq_some
def wW:=@List.getElem_inj
def wX:=@List.getElem_map
def kK:=@List.getElem_mem
def wY:=@List.idxOf_lt_length_iff
def aF:=@List.length_append
def ck:=@List.length_cons
def wZ:=@List.length_drop
def ju:=@List.length_filter_le
def ao:=@List.length_map
def sW:=@List.length_nil
def lK:=@List.length_range
def kL:=@List.length_reverse
def qf:=@List.length_set
def gF:=@List.length_singleton
def cu:=@List.length_take
def bA:=@List.map_append
def w4:=@List.map_congr_left
def bR:=@List.map_cons
def fJ:=@List.map_map
def aJ:=@List.mem_append
def iw:=@List.mem_append_left
def dZ:=@List.mem_append_right
def aG:=@List.mem_cons
def cM:=@List.mem_cons_of_mem
def iP:=@List.mem_cons_self
def dS:=@List.mem_filter
def qg:=@List.mem_flatMap
def jS:=@List.mem_iff_getElem
def gG:=@List.mem_iff_getElem?
def aE:=@List.mem_map
def nH:=@List.mem_map_of_mem
def A5:=@List.mem_or_eq_of_mem_set
def f6:=@List.mem_range
def ay:=@List.mem_singleton
def f7:=@List.nodup_append
def jv:=@List.nodup_cons
def lM:=@List.nodup_nil
def iQ:=@List.not_mem_nil
def qh:=@List.pairwise_cons
def nI:=@List.pairwise_iff_getElem
def A6:=@List.pairwise_lt_range
def jT:=@List.pairwise_map
def qi:=@List.reverse_cons
def aZ:=@List.size_toArray
def bT:=@List.take_add_one
def bU:=@List.take_length
def lN:=@Nat.eq_zero_or_pos
def lO:=@Nat.le_add_right
def iZ:=@Nat.le_of_lt
def av:=@Nat.le_refl
def fN:=@Nat.le_succ
def bg:=@Nat.le_trans
def eV:=@Nat.lt_irrefl
def j9:=@Nat.lt_of_le_of_lt
def cC:=@Nat.lt_of_lt_of_le
def bE:=@Nat.lt_or_ge
def jy:=@Nat.lt_succ_of_lt
def i0:=@Nat.lt_succ_self
def oW:=@Nat.lt_trichotomy
def kg:=@Nat.ne_of_gt
def aN:=@Nat.ne_of_lt
def dU:=@Nat.not_lt_zero
def aM:=@Nat.zero_le
def aQ:=@Ne.symm
def lP:=@Obj.cls_mapFields
def eB:=@Obj.data_mapFields
def jz:=@Obj.isFreed_of_fields
def cG:=@Option.map_eq_some_iff
def oX:=@Option.toList_some
def kh:=@Paired.length
def dW:=@Paired.mono
def dD:=@Paired.snoc
def bK:=@PassesOwn.never
def i6:=@PyProof.Rows.callWith_type1
def vP:=@PyProof.Rows.slot_tuple_getitem
def vQ:=@PySem.F.args_dict_get_3
def vR:=@PySem.F.entry_dict_get
def vS:=@PySem.F.plainAttrs_dict
def b7:=@PySem.F.plainAttrs_list
def lQ:=@PySem.F.slot_dict_get
def fO:=@PySem.F.slot_list_append
def ki:=@PySem.F.slot_list_extend
def fP:=@PySem.F.type_list_append
def kj:=@PySem.F.type_list_extend
def gK:=@PySem.W.kia_one
def oY:=@PySem.W.mg_of
def iy:=@PySem.mem_of_lookup
def iz:=@True.intro
end
open PySem PySem.Spec PyProof.Rows
variable {A:Around}{C I a b d dx f it l l1 l2 q z:Addr}{E:Value->Shared->Prop}{K:az}{P prog:Program}{R:Result->Shared->Prop}{T tn:String}{apos cpos kp p pos pos' tpos:Pos}{base h h':Heap}{c e tg value:Expr}{cl:List (Str×Addr)}{cs ns ss:List Int}{ep i j k n t':Nat}{es:List Expr}{fd:FuncData}{fp wr:List Addr}{fr:List Str}{ix:List Nat}{kw:List (Str×Value)}{led t1 t2:Bool}{m name qual x:Str}{mg:Str->Option Value}{u5:List (Addr×Obj)}{pm u:Value}{ps:List (Int×Int)}{s:Shared}{scope:Scope}{st:Stmt}{us vs:List Value}{w:World}{ys:Array Value}
namespace L2
variable {H:Hp}{o:HO}{N ps:List Str}{M:Model}{v:V}{Q:Unit->Shared->Prop}{X:Cx}{op:CmpOp}{t te:TE}{D:Ends}{g:TG}{body:List Stmt}{tb:TS}{xs:List V}{f:Value->Value->Sem Value}{r:R2}{CX:KH}
abbrev Key:=Sum Int Str
noncomputable def w5:Key->Value->Bool
 | .inl k,v=>Value.isInt k v
 | .inr x,v=>Value.isStrOf x v
noncomputable def aeQ(w:World):Key->Int
 | .inl k=>hashInt k
 | .inr x=>hashStr w x
theorem eF:∀{k:Key}{v:Value},w5 k v=true->(∃i t,k=Sum.inl i/\v=Value.int i t)\/(∃x t,k=Sum.inr x/\v=Value.str x t)
 | .inl i,v,h=>by
  let#[t,e]:=Value.isInt_shape (k:=i) (v:=v) h;show .inl #[i,t,rfl,e]
 | .inr x,v,h=>by let#[t,e]:=Value.isStrOf_shape (x:=x) (v:=v) h;show .inr #[x,t,rfl,e]
def Ks(i:Int)(t:Tok):w5 (.inl i)^.int i t=true:=by simp[w5,Value.isInt]
def Ku(x:Str)(t:Tok):w5 (.inr x)^.str x t=true:=by simp[w5,Value.isStrOf]
def Wo(a b:Int):decide ((Sum.inl a:Key)=Sum.inl b)=(a==b):=by by_cases e:a=b;subst e;simp;have h:¬(Sum.inl a:Key)=Sum.inl b:=λq=>e^Sum.inl.inj q;rw[decide_eq_false h];show(beq_eq_false_iff_ne.mpr e).symm
def Wq(a b:Str):decide ((Sum.inr a:Key)=Sum.inr b)=decide (a=b):=by by_cases e:a=b;subst e;simp;have h:¬(Sum.inr a:Key)=Sum.inr b:=λq=>e^Sum.inr.inj q;rw[decide_eq_false h,decide_eq_false e]
def Wr(a:Int)(b:Str):decide ((Sum.inl a:Key)=Sum.inr b)=false:=decide_eq_false (λq=>nomatch q)
def Ws(a:Str)(b:Int):decide ((Sum.inr a:Key)=Sum.inl b)=false:=decide_eq_false (λq=>nomatch q)
noncomputable def bO(prog:Program)(w:World):PySem.KeyKind prog w Key where
 is:=w5
 hash:=aeQ w
 inj:=λv a b ha hb=>by rcases eF ha with⟨i,t,rfl,rfl⟩|⟨x,t,rfl,rfl⟩;rcases eF hb with⟨j,u,rfl,e⟩|⟨y,u,rfl,e⟩;injection e with e1 _;rw[e1];show nomatch e;rcases eF hb with⟨j,u,rfl,e⟩|⟨y,u,rfl,e⟩;show nomatch e;injection e with e1 _;rw[e1]
 byValue:=λk v h=>by rcases eF h with⟨i,t,rfl,rfl⟩|⟨x,t,rfl,rfl⟩<;>rfl
 pyHash:=λhv h=>by rcases eF hv with⟨i,t,rfl,rfl⟩|⟨x,t,rfl,rfl⟩;show wpAny_pyHash_int h;show wpAny_pyHash_str h
 eqBool:=λhu hv h=>by rcases eF hu with⟨i,t,rfl,rfl⟩|⟨x,t,rfl,rfl⟩;rcases eF hv with⟨j,u,rfl,rfl⟩|⟨y,u,rfl,rfl⟩;rw[Wo] at h;show wpAny_eqBool_int h;rw[Wr] at h;show SeqAt.EqAt.int_str i t y u _ _ _ _ h;rcases eF hv with⟨j,u,rfl,rfl⟩|⟨y,u,rfl,rfl⟩;rw[Ws] at h;show SeqAt.EqAt.str_int x t j u _ _ _ _ h;rw[Wq] at h;show wpAny_eqBool_str h
 «strs»:=λk x t v h=>by rcases eF h with⟨i,u,rfl,e⟩|⟨y,u,rfl,e⟩;show nomatch e;injection e with e1 _;subst e1;cases v<;>rfl
def FW(prog:Program)(w:World)(k:Key)(v:Value):(bO prog w).is k v=w5 k v:=rfl
def CN(prog:Program)(w:World)(i:Int)(t:Tok):(bO prog w).is (.inl i)^.int i t=true:=Ks i t
def nJ(prog:Program)(w:World)(x:Str)(t:Tok):(bO prog w).is (.inr x)^.str x t=true:=Ku x t
inductive V where
 | eW|bl (b:Bool)|int (i:Int)|str (x:Str) | Kv (b:Array UInt8) | Zd (b:UInt64)|ref (a:Addr)|ty (n:String)
 deriving DecidableEq
def RelV:V->Value->Prop
 | .eW,u=>u=Value.none
 | .bl b,u=>u=Value.bool b
 | .int i,u=>∃t,u=Value.int i t
 | .str x,u=>∃t,u=Value.str x t
 | .Kv b,u=>∃t,u=Value.bytes b t
 | .Zd b,u=>∃t,u=Value.float b t
 | .ref a,u=>u=Value.ref a
 | .ty n,u=>u=Value.type n
abbrev Vals:List V->List Value->Prop:=Paired RelV
theorem Vals.length{xs:List V}{us:List Value}(r:Vals xs us):xs.length=us.length:=kh r
theorem Vals.get:∀{xs:List V}{us:List Value}{i:Nat}{x:V},Vals xs us->xs[i]?=some x->∃u,us[i]?=some u/\RelV x u
 | _,_,_,_,.nil,e=>by simp at e
 | _,_,0,_,.cons r _,e=>by simp at e;subst e;show#[_,rfl,r]
 | _,_,i+1,x,.cons _ t,e=>by let#[u,h1,h2]:=Vals.get (i:=i) (x:=x) t (by simpa using e);show#[u,by simpa using h1,h2]
theorem Vals.set{x:V}(r:RelV x u):∀{xs:List V}{us:List Value}(i:Nat),Vals xs us->Vals (xs.set i x) (us.set i u)
 | _,_,_,.nil=>.nil
 | _,_,0,.cons _ t=>.cons r t
 | _,_,i+1,.cons q t=>.cons q^Vals.set r i t
def Vals.append:∀{xs ys:List V}{us ws:List Value},Vals xs us->Vals ys ws->Vals (xs++ys) (us++ws):=by
 intro xs ys us ws h s;induction h with
 | nil=>show s
 | cons r t ih=>show .cons r ih
theorem Vals.take:∀{xs:List V}{us:List Value}(n:Nat),Vals xs us->Vals (xs.take n)^us.take n:=by
 intro xs us n h;induction h generalizing n with
 | nil=>cases n<;>show .nil
 | cons r t ih =>
  cases n with
  | zero=>show .nil
  | succ n=>show .cons r^ih n
theorem Vals.drop:∀{xs:List V}{us:List Value}(n:Nat),Vals xs us->Vals (xs.drop n)^us.drop n:=by
 intro xs us n h;induction h generalizing n with
 | nil=>cases n<;>show .nil
 | cons r t ih =>
  cases n with
  | zero=>show .cons r t
  | succ n=>show ih n
def pN:Option V->Option Value->Prop
 | some v,some u=>RelV v u
 | none,none=>True
 | _,_=>False
def KV{κ:Type}:List (κ×V)->List (κ×Value)->Prop:=Paired λ(p:κ×V)(q:κ×Value)=>p.1=q.1/\RelV p.2 q.2
noncomputable def kV:Key->V
 | .inl i=>.int i
 | .inr x=>.str x
inductive HO where
 | lst (xs:List V)
 | tup (xs:List V)
 | dK (kvs:List (Key×V))|dT (kvs:List (List Key×V))
 | set (S:Int->Bool) (n:Nat)
 | ins (C dx:Addr) (fs:List (Str×V))
 | own (x:Addr)
 | xd (fs:List (Str×V))
 | met (f x:Addr)
 | rng (lo hi:Int)
 | CF (o:Obj) (u:HO)
 | sM (ps:Array Value)
 | ext (φ:Heap->Prop)
abbrev Hp:=Addr->Option HO
noncomputable def upd(H:Hp)(a:Addr)(o:HO):Hp:=λb=>if b=a then some o else H b
def fm:upd H a o a=some o:=by unfold upd;rw[if_pos rfl]
def bI(h:b≠a):upd H a o b=H b:=by unfold upd;rw[if_neg h]
def iJ{u:HO}(h:H a=some o)(h':H b=some u)(d:o≠u):a≠b:=by intro e;subst e;rw[h] at h';show d^Option.some.inj h'
def aP(h:H a=some o)(h':H b=none):a≠b:=by intro e;subst e;rw[h] at h';cases h'
section
variable (P:Program)(w:World)
def dj(H:Hp)(h:Heap)(a:Addr):HO->Prop
 | .lst xs=>xs.length<=sizeLine/\∃(its:List Value)(n:Nat),Vals xs its/\h.get? a=some { cls:=.type "list", data:=.seq its.toArray n }
 | .tup xs=>xs.length<=sizeLine/\∃its:List Value,Vals xs its/\IsTup h a its.toArray
 | .dK kvs=>kvs.length<=sizeLine/\(a==sysModules)=false/\∃vs,KV kvs vs/\h.DictOf (bO P w) a vs
 | .dT kvs=>kvs.length<=sizeLine/\(a==sysModules)=false/\∃xs:List (List Key×Addr×Value),
   Paired (λ(p:List Key×V)(q:List Key×Addr×Value)=>p.1=q.1/\H q.2.1=some^.tup^p.1.map kV/\RelV p.2 q.2.2) kvs xs /\
   ∃o es ep,h.get? a=some o/\o.ExactDict/\o.data=.dict es ep/\es.toList=xs.map^entryOfKey^tupleKind^bO P w/\(xs.map (·.1)).Nodup
 | .set S n=>h.SetOf (intKind P w) a S n
 | .ins C dx fs=>H dx=some^.own a/\fs.length<=1000/\dx≠a/\h.get? a=some (PySem.W.instObj C dx) /\
   ∃mA,h.Ns1 dx mA/\(∀f,pN (fs.lookup f)^mA f)/\PySem.Within mA^fs.map (·.1)
 | .own _=>∃o,h.get? a=some o
 | .xd fs=>∃mA,h.Ns1 a mA/\∀f,pN (fs.lookup f)^mA f
 | .rng lo hi=>∃t u v,h.get? a=some { cls:=.type "range", data:=.fields #v[.int lo t,.int hi u,.int 1 v] }
 | .CF o u=>h.get? a=some o/\dj H h a u
 | .sM ps=>h.get? a=some { cls:=.none,data:=.fields ps }
 | .met f x=>h.get? a=some^PySem.W.methodObj (.ref f)^.ref x
 | .ext φ=>φ h/\(∃o,h.get? a=some o)/\∀h1 h2:Heap,φ h1->(∀o,h1.get? a=some o->h2.get? a=some o)->φ h2
def nB(H:Hp)(h:Heap):Prop:=∀a o,H a=some o->dj P w H h a o
end
section
variable {H H':Hp}{o:HO}
theorem dj.lt(x:dj P w H h a o):a<h.objs.size:=by
 cases o with
 | lst xs=>let#[_,_,_,_,e]:=x;show aH e
 | tup xs=>let#[_,_,_,p]:=x;show p.lt
 | dK kvs=>let#[_,_,_,_,o,_,_,e,_]:=x;show aH e
 | dT kvs=>let#[_,_,_,_,o,_,_,e,_]:=x;show aH e
 | set S n=>let#[o,_,_,_,e,_]:=x;show aH e
 | ins C dx fs=>let#[_,_,_,e,_]:=x;show aH e
 | own y=>let#[_,e]:=x;show aH e
 | xd fs=>let#[_,#[_,_,_,e,_],_]:=x;show aH e
 | rng lo hi=>let#[_,_,_,e]:=x;show aH e
 | CF ob u=>let#[e,_]:=x;show aH e
 | sM ps=>show aH (show h.get? a=some _ from x)
 | met f y=>show aH (show h.get? a=some _ from x)
 | ext φ=>let#[_,#[_,e],_]:=x;show aH e
def Paired.Kw{α β:Type}{F G:α->β->Prop}:∀{l₁:List α}{l₂:List β},Paired F l₁ l₂->(∀a b,F a b->G a b)->Paired G l₁ l₂:=by
 intro l₁ l₂ h f;induction h with
 | nil=>show .nil
 | cons r t ih=>show .cons (f _ _ r) ih
def dj.stay(x:dj P w H h a o)(k:∀b u,(b=a\/H b=some^.own a)->h.get? b=some u->h'.get? b=some u)
  (ho:∀b,H b=some^.own a->H' b=some^.own a)(ht:∀b xs,H b=some^.tup xs->H' b=some^.tup xs):dj P w H' h' a o:=by
 induction o with
 | lst xs=>let#[z,its,n,r,e]:=x;show#[z,its,n,r,k _ _ (.inl rfl) e]
 | tup xs=>let#[z,its,r,ob,e,c]:=x;show#[z,its,r,ob,k _ _ (.inl rfl) e,c]
 | dK kvs=>let#[z,y,vs,r,ob,es,ep,e,c]:=x;show#[z,y,vs,r,ob,es,ep,k _ _ (.inl rfl) e,c]
 | dT kvs =>
  let#[z,y,xs,r,ob,es,ep,e,c]:=x;show#[z,y,xs,Paired.Kw r λp q z=>#[z.1,ht _ _ z.2.1,z.2.2],ob,es,ep,k _ _ (.inl rfl) e,c]
 | set S n=>let#[ob,es,ep,t,e,c]:=x;show#[ob,es,ep,t,k _ _ (.inl rfl) e,c]
 | ins C dx fs =>
  let#[d,z,ne,e,mA,#[od,es,ep,e2,c],r]:=x;show#[ho _ d,z,ne,k _ _ (.inl rfl) e,mA,#[od,es,ep,k _ _ (.inr d) e2,c],r]
 | own y=>let#[ob,e]:=x;show#[ob,k _ _ (.inl rfl) e]
 | xd fs=>let#[mA,#[od,es,ep,e,c],r]:=x;show#[mA,#[od,es,ep,k _ _ (.inl rfl) e,c],r]
 | rng lo hi=>let#[t,u,v,e]:=x;show#[t,u,v,k _ _ (.inl rfl) e]
 | CF ob u ih=>let#[e,q]:=x;show#[k _ _ (.inl rfl) e,ih q]
 | sM ps =>
  have e:h.get? a=some { cls:=.none,data:=.fields ps }:=x;change h'.get? a=some { cls:=.none,data:=.fields ps };show k a _ (.inl rfl) e
 | met f y =>
  have e:h.get? a=some^PySem.W.methodObj (.ref f)^.ref y:=x;change h'.get? a=some^PySem.W.methodObj (.ref f)^.ref y;show k a _ (.inl rfl) e
 | ext φ=>let#[p,#[o,e],st]:=x;show#[st _ _ p λo q=>k _ _ (.inl rfl) q,#[o,k _ _ (.inl rfl) e],st]
theorem nB.lt(x:nB P w H h)(e:H a=some o):a<h.objs.size:=(x a o e).lt
def nB.fresh(x:nB P w H h)(e:h.objs.size<=a):H a=none:=by
 cases q:H a with
 | none=>rfl
 | some u=>show absurd (cC (x.lt q) e)^eV _
def nB.kept(x:nB P w H h)(k:∀b u,h.get? b=some u->h'.get? b=some u):nB P w H h':=λa o e =>
 (x a o e).stay (λb u _ q=>k b u q) (λ_ q=>q) λ_ _ q=>q
def nB.laid(x:nB P w H h)(k:∀b u,h.get? b=some u->h'.get? b=some u)(hp:h.objs.size<=a)(new:dj P w (upd H a o) h' a o):nB P w (upd H a o) h':=λb u e=>by
 have hn:=x.fresh hp;by_cases hb:b=a;subst hb;rw[fm] at e;cases e;show new
 .rw[bI hb] at e;show(x b u e).stay (λc v _ q=>k c v q) (λc q=>by rw[bI^aP q hn];show q) λc xs q=>by rw[bI^aP q hn];show q
end
def Rd(H:Hp)(a:Addr)(u:HO):Prop:=H a=some u\/∃o,H a=some^.CF o u
def Rd.ok{u:HO}(r:Rd H a u)(x:nB P w H h):dj P w H h a u:=by rcases r with r|⟨o,r⟩;show x a u r;let#[_,q]:=x a _ r;show q
def ZK:Option HO->Prop
 | some (.lst _)=>True
 | some (.dK _)=>True
 | some (.dT _)=>True
 | some (.set _ _)=>True
 | some (.ins _ _ _)=>True
 | some (.ext _)=>True
 | _=>False
section
variable {H:Hp}{x e:Addr}{o':HO}
def nB.write(ok:nB P w H h)(mu:ZK^H x)(he:e=x\/H e=some^.own x)(k:∀b u,b≠e->h.get? b=some u->h'.get? b=some u)(Ze:∃u,h'.get? e=some u)
  (new:dj P w (upd H x o') h' x o'):nB P w (upd H x o') h':=λb u q=>by
 have ZL:∀c y,H c=some^.own y->c≠x:=λc y r z=>by subst z;rw[r] at mu;show mu
 have aeS:∀c xs,H c=some^.tup xs->c≠x:=λc xs r z=>by subst z;rw[r] at mu;show mu
 by_cases hb:b=x;subst hb;rw[fm] at q;cases q;show new
 .rw[bI hb] at q;by_cases UL:b=e
  .have q':H b=some^.own x:=by rcases he with z|z;show absurd (UL.trans z) hb;rw[UL];show z
   rw[q] at q';cases q';let#[v,hv]:=Ze;show#[v,by rw[UL];show hv]
  .show(ok b u q).stay (λc v hc r=>k c v ?_ r) (λc r=>by rw[bI^ZL c b r];show r) λc xs r=>by rw[bI^aeS c xs r];show r
   rcases hc with rfl|hc;show UL;rintro rfl;rcases he with z|z;show ZL c b hc z;rw[hc] at z;cases z;show hb rfl
end
structure Un (fs ex:List Addr) (H H':Hp) (h h':Heap):Prop where
 keep:∀b o,h.get? b=some o->H b=none->b∉fs->b∉ex->h'.get? b=some o
 slot:∀b o,h.get? b=some o->H b=none->b∈fs->b∉ex->∃sl,h'.get? b=some { o with slots:=sl }
 free:∀b o,h.get? b=some o->H b=none->b∉ex->H' b=none
 there:∀b o,h.get? b=some o->b∉ex->∃o',h'.get? b=some o'
 tups:∀b xs,H b=some^.tup xs->H' b=some (.tup xs)
 zA:∀b o u,H b=some^.CF o u->H' b=some (.CF o u)
 A7:∀b ps,H b=some^.sM ps->∃more,H' b=some^.sM (ps++more)
section
variable {fs fs' ex ex':List Addr}{H H1 H2:Hp}{h1 h2:Heap}{x e:Addr}{o:HO}
def Un.any(u:Un fs ex H H1 h h1){ob:Obj}(q:h.get? b=some ob)(n:H b=none)(hx:b∉ex):∃sl,h1.get? b=some { ob with slots:=sl }:=by by_cases hb:b∈fs;show u.slot b ob q n hb hx;show#[ob.slots,u.keep b ob q n hb hx]
def Un.kept(k:∀b u,h.get? b=some u->h'.get? b=some u):Un fs ex H H h h' :=
 #[λb ob q _ _ _=>k b ob q,λb ob q _ _ _=>#[ob.slots,k b ob q],λ_ _ _ n _=>n,λb ob q _=>#[ob,k b ob q],λ_ _ q=>q,λ_ _ _ q=>q,λ_ ps q=>#[#[],by rw[q];simp]]
def Un.refl:Un fs ex H H h h:=Un.kept λ_ _ q=>q
def Un.laid(k:∀b u,h.get? b=some u->h'.get? b=some u)(hp:h.objs.size<=a)(hn:H a=none):Un fs ex H (upd H a o) h h' where
 keep:=λb u q _ _ _=>k b u q
 slot:=λb u q _ _ _=>#[u.slots,k b u q]
 free:=λb u q n _=>by rw[bI^aN^cC (aH q) hp];show n
 there:=λb u q _=>#[u,k b u q]
 tups:=λb xs q=>by rw[bI^aP q hn];show q
 zA:=λb u xs q=>by rw[bI^aP q hn];show q
 A7:=λb ps q=>#[#[],by rw[bI^aP q hn,q];simp]
def Un.write(mu:ZK^H x)(he:e=x\/H e=some^.own x)(k:∀b u,b≠e->h.get? b=some u->h'.get? b=some u)(Ze:∃u,h'.get? e=some u):Un fs ex H (upd H x o) h h':=by
 have hx:∀b,H b=none->b≠x:=λb n z=>by subst z;rw[n] at mu;show mu
 have hb:∀b,H b=none->b≠e:=λb n z=>by subst z;rcases he with r|r;show hx b n r;rw[n] at r;cases r
 have hm:∀b u,H b=some u->¬ZK^some u->b≠x:=λb u q nm z=>by subst z;rw[q] at mu;show nm mu
 show#[λb u q n _ _=>k b u (hb b n) q,λb u q n _ _=>#[u.slots,k b u (hb b n) q],λb u q n _=>by rw[bI^hx b n];show n,λb u q _=>?_,
  λb xs q=>by rw[bI (hm b _ q λz=>z)];show q,λb u xs q=>by rw[bI (hm b _ q λz=>z)];show q,λb ps q=>#[#[],by rw[bI (hm b _ q λz=>z),q];simp]]
 by_cases UL:b=e;subst UL;show Ze;show#[u,k b u UL q]
end
noncomputable def trk(h:Heap)(H:Hp):List Addr:=(List.range h.objs.size).filter λa=>(H a).isSome
def sX(h:Heap)(H:Hp):Heap:=PySem.W.hideAll h^trk h H
def zV(h:Heap)(H:Hp):(sX h H).objs.size=h.objs.size:=PySem.W.hideAll_size _ _
def qN{o:Obj}(e:h.get? b=some o)(n:H b=none):(sX h H).get? b=some o :=
 PySem.W.hideAll_get _ e λhm=>by have q:(H b).isSome=true:=(dS.mp hm).2;rw[n] at q;simp at q
def Im{o:Obj}(e:(sX h H).get? b=some o):h.get? b=some o/\H b=none:=by
 have e':h.get? b=some o:=PySem.W.of_hideAll (trk h H) e;show#[e',?_];cases q:H b with
 | none=>rfl
 | some x =>
  have hm:b∈trk h H:=dS.mpr #[f6.mpr^aH e',by simp[q]];have z:(sX h H).get? b=none:=PySem.W.hideAll_none (trk h H) hm;rw[z] at e;cases e
noncomputable def RK(g h:Heap)(L:Addr):List (Addr×Obj):=(List.range h.objs.size).filterMap λa=>if a=L\/(g.get? a).isSome=true then none else(h.get? a).map λo=>(a,o)
noncomputable def rest(g h:Heap)(L d:Addr):List (Addr×Obj):=(RK g h L).filter λp=>decide (p.1≠d)
structure Mod (K:az) (mg:Str->Option Value) (base:Heap):Prop where
 Zf:K.In base
 glob:base.Ns mainGlobals mg
 blt:∃mb,base.Ns builtinsNs mb/\∀x:Str,x ≠ "__name__" -> mb x=bootBuiltins x
 nolimit:base.NoLimit
structure Cx where
 prog:Program
 w:World
 K:az
 mg:Str->Option Value
 base:Heap
 A:Around
 N:List Str
 s₀:Shared
 H₀:Hp
 env:Env
 outer:List Env
 stack:List Env
 ex:List Addr
 fn:Str->Bool
 calm:Bool
 pn:List (Addr×Obj)
 xe:Value->Shared->Prop
noncomputable def frs(l:List Env):List Addr:=l.filterMap (·.frame)
abbrev Cx.fs(X:Cx):List Addr:=frs X.outer
def Vis(sc:Scope)(x:Str):Prop:=sc.names.lookup x=some .local\/sc.names.lookup x=some .cell\/sc.names.lookup x=some .free
def Loc(sc:Scope)(x:Str):Prop:=sc.names.lookup x=some .local\/sc.names.lookup x=some .cell
def Look(env:Env)(h:Heap)(m:Str->Option Value)(x:Str)(u:Value):Prop :=
 (env.kindOf x=some .local/\m x=some u)\/((env.kindOf x=some .cell\/env.kindOf x=some .free)/\∃c,env.cells.lookup x=some c/\h.IsCell c^some u)
structure Cx.Ok (X:Cx):Prop where
 mod:Mod X.K X.mg X.base
 kind:X.env.scope.kind=.function
 glob:X.env.globals=mainGlobals
 blt:X.env.builtins=builtinsNs
 above:X.s₀.heap.objs.size<=X.env.locals
 inj:∀x y c,X.env.cells.lookup x=some c->X.env.cells.lookup y=some c->x=y
 has:∀x,(X.env.kindOf x=some .cell\/X.env.kindOf x=some .free)->∃c,X.env.cells.lookup x=some c
 ZM:∀x c,X.fn x=true->X.env.cells.lookup x=some c->X.s₀.heap.objs.size<=c
 hd:X.calm=true->X.A.handled=none
 frames:X.A.frames=some X.stack
 stk:X.stack=X.outer\/(X.stack=X.env::X.outer/\X.env.frame=some X.env.locals)
 exf:∀b∈X.ex,b≠X.env.locals/\∀x c,X.env.cells.lookup x=some c->c≠b
 bs:∀b o,X.base.get? b=some o->X.s₀.heap.get? b=some o/\X.H₀ b=none
 RL:X.base.objs.size<=X.s₀.heap.objs.size
 Nj:∀b o,X.base.get? b=some o->b∉X.ex
 Nk:∀b∈X.ex,b∉X.fs
 vE:X.s₀.heap.FunFrames X.base X.outer
 Wt:∀b∈X.fs,X.H₀ b=none
structure Inv (X:Cx) (u5:List (Addr×Obj)) (σ:List^Option V) (H:Hp) (s:Shared):Prop where
 ok:X.Ok
 os:s.os=X.s₀.os
 bare:AllBare s.gens
 base:Un X.fs X.ex X.H₀ H X.s₀.heap s.heap
 loc:∃m,s.heap.Ns X.env.locals m/\∀(i:Nat)(x:Str)(v:V),X.N[i]?=some x->σ[i]?=some^some v->Vis X.env.scope x->∃u,RelV v u/\Look X.env s.heap m x u
 cell:∀x c,X.env.cells.lookup x=some c->∃v,s.heap.IsCell c v
 free:H X.env.locals=none
 ko:∀x c,X.env.cells.lookup x=some c->H c=none
 pin:∀p∈X.pn++u5,s.heap.get? p.1=some p.2/\H p.1=none/\p.1≠X.env.locals/\p.1∉X.fs/\∀v,p.2.data≠.cell v
 hok:nB X.prog X.w H s.heap
 len:σ.length=X.N.length
section
variable {X:Cx}{σ:List^Option V}{H H':Hp}
def Cx.Ok.aeT(ok:X.Ok){o:Obj}(e:X.base.get? b=some o):b∉X.fs:=λhb=>by have:=(ok.vE.mem hb).1;rw[e] at this;cases this
theorem Inv.bs(I:Inv X u5 σ H s):∀b o,X.base.get? b=some o->s.heap.get? b=some o/\H b=none:=λb o e =>
 #[I.base.keep b o (I.ok.bs b o e).1 (I.ok.bs b o e).2 (I.ok.aeT e)^I.ok.Nj b o e,I.base.free b o (I.ok.bs b o e).1 (I.ok.bs b o e).2^I.ok.Nj b o e]
def Inv.bk(I:Inv X u5 σ H s):∀b o,X.base.get? b=some o->s.heap.get? b=some o:=λb o e=>(I.bs b o e).1
theorem Inv.mod(I:Inv X u5 σ H s):Mod X.K X.mg X.base:=I.ok.mod
def Inv.zB(I:Inv X u5 σ H s):X.K.In s.heap:=I.ok.mod.Zf.keeps I.bk
theorem Inv.lt(I:Inv X u5 σ H s):X.env.locals<s.heap.objs.size:=let⟨_,hn,_⟩:=I.loc;hn.lt
def Inv.sz(I:Inv X u5 σ H s):X.s₀.heap.objs.size<=s.heap.objs.size:=bg I.ok.above^iZ I.lt
def Inv.ZN(I:Inv X u5 σ H s)(h:s.heap.objs.size<=a):a∉X.fs:=λhb=>by let#[_,o,ho,_]:=I.ok.vE.mem hb;show absurd (cC (aH ho)^bg I.sz h)^eV _
def Inv.Wu(I:Inv X u5 σ H s):∀x c,X.env.cells.lookup x=some c->c≠X.env.locals:=λx c e z=>by let#[v,o,ho,hd]:=I.cell x c e;let#[m,#[o',es,ep,ho',hd',_],_]:=I.loc;rw[z,ho'] at ho;cases ho;rw[hd'] at hd;cases hd
theorem Inv.vE(I:Inv X u5 σ H s):s.heap.FunFrames X.base X.outer:=by
 have all:∀(l:List Env),(∀b∈frs l,b∈X.fs)->X.s₀.heap.FunFrames X.base l->s.heap.FunFrames X.base l:=by
  intro l;induction l with
  | nil=>intro _ _;trivial
  | cons env r ih =>
   intro hs hl;let#[hk,#[L,o,hf,hn,ho,hd],hr]:=hl;have hL:L∈X.fs:=hs L (by unfold frs;rw[List.filterMap_cons,hf];show iP);let#[sl,e]:=I.base.slot L o ho (I.ok.Wt L hL) hL λz=>I.ok.Nk L z hL;show#[hk,#[L,_,hf,hn,e,hd],ih (λb hb=>hs b (by unfold frs;rw[List.filterMap_cons,hf];show cM _ hb)) hr]
 show all X.outer (λ_ hb=>hb) I.ok.vE
theorem Inv.stack(I:Inv X u5 σ H s):s.heap.FunFrames X.base X.stack:=by rcases I.ok.stk with e|⟨e,hf⟩;rw[e];show I.vE;rw[e];let#[m,hn,_]:=I.loc;show .cons (by rw[I.ok.kind];decide) hf hn ?_ I.vE;show Heap.get?_none_of_le^bg I.ok.RL I.ok.above
def Inv.A8(I:Inv X u5 σ H s):∀b∈frs X.stack,b∈X.env.locals::X.fs:=λb hb=>by rcases I.ok.stk with e|⟨e,hf⟩;rw[e] at hb;show cM _ hb;rw[e] at hb;unfold frs at hb;rw[List.filterMap_cons,hf] at hb;show hb
def Inv.A9(I:Inv X u5 σ H s):∀b∈frs X.stack,H b=none:=λb hb=>by rcases aG.mp^I.A8 b hb with e|hb;rw[e];show I.free;let#[_,o,ho,_]:=I.ok.vE.mem hb;show I.base.free b o ho (I.ok.Wt b hb) λz=>I.ok.Nk b z hb
def Inv.step{g':Array GenState}{t':Nat}{d':Drawn}{ch:List Addr}(I:Inv X u5 σ H s)
  (hch:∀b∈ch,(b∈X.ex\/X.s₀.heap.objs.size<=b)/\b≠X.env.locals/\(∀x c,X.env.cells.lookup x=some c->c≠b)/\∀p∈X.pn++u5,p.1≠b)
  (keep:∀b o,b≠X.env.locals->b∉X.fs->b∉ch->s.heap.get? b=some o->H b=none->h'.get? b=some o)
  (slot:∀b o,b≠X.env.locals->b∈X.fs->b∉ch->s.heap.get? b=some o->H b=none->∃sl,h'.get? b=some { o with slots:=sl })(free:∀b o,b∉ch->s.heap.get? b=some o->H b=none->H' b=none)
  (there:∀b o,b∉ch->s.heap.get? b=some o->∃o',h'.get? b=some o')
  (tups:∀b xs,H b=some^.tup xs->H' b=some^.tup xs)(zA:∀b o u,H b=some^.CF o u->H' b=some^.CF o u)(A7:∀b ps,H b=some^.sM ps->∃more,H' b=some^.sM (ps++more))
  (ns:∀m,s.heap.Ns X.env.locals m->h'.Ns X.env.locals m)(hok:nB X.prog X.w H' h')(hg:AllBare g'):
  Inv X u5 σ H' { s with heap:=h',gens:=g',drawn:=d',toks:=t' }:=by
 have neL:∀b o,X.s₀.heap.get? b=some o->b≠X.env.locals:=λb o e=>aN^cC (aH e) I.ok.above;have neC:∀b o,X.s₀.heap.get? b=some o->b∉X.ex->b∉ch:=λb o e hx hb=>by rcases(hch b hb).1 with z|z;show hx z;show absurd (cC (aH e) z)^eV _
 have cellK:∀x c,X.env.cells.lookup x=some c->∀v,s.heap.IsCell c v->h'.IsCell c v:=λx c e v ⟨o,ho,hd⟩=>by have ZQ:c∉ch:=λz=>(hch c z).2.2.1 x c e rfl;by_cases hc:c∈X.fs;let#[sl,q]:=slot c o (I.Wu x c e) hc ZQ ho^I.ko x c e;show#[_,q,hd];show#[o,keep c o (I.Wu x c e) hc ZQ ho^I.ko x c e,hd]
 show#[I.ok,I.os,hg,#[λb o e n hb hx=>?_,λb o e n hb hx=>?_,λb o e n hx=>?_,λb o e hx=>?_,λb xs e=>tups b xs^I.base.tups b xs e,λb o xs e=>zA b o xs^I.base.zA b o xs e,λb ps e=>?_],?_,λx c e=>?_,?_,λx c e=>?_,λp hp=>?_,hok,I.len];show keep b o (neL b o e) hb (neC b o e hx) (I.base.keep b o e n hb hx)^I.base.free b o e n hx;let#[sl,e1]:=I.base.slot b o e n hb hx;let#[Rr,e2]:=slot b _ (neL b o e) hb (neC b o e hx) e1^I.base.free b o e n hx;show#[Rr,e2];let#[o',e1]:=I.base.there b o e hx;show free b o' (neC b o e hx) e1^I.base.free b o e n hx;let#[o',e1]:=I.base.there b o e hx;show there b o' (neC b o e hx) e1;let#[m1,e1]:=I.base.A7 b ps e;let#[m2,e2]:=A7 b _ e1;show#[m1++m2,by rw[e2,Array.append_assoc]];let#[m,hn,hl]:=I.loc;show#[m,ns m hn,λi x v e1 e2 e3=>?_];let#[u,r,l]:=hl i x v e1 e2 e3;show#[u,r,?_];rcases l with l|⟨k,c,e,z⟩;show .inl l;show .inr #[k,c,e,cellK x c e _ z];let#[v,z]:=I.cell x c e;show#[v,cellK x c e v z];let#[m,#[o,_,_,ho,_],_]:=I.loc;show free _ o (λz=>(hch _ z).2.1 rfl) ho I.free;let#[v,o,ho,hd]:=I.cell x c e;show free c o (λz=>(hch c z).2.2.1 x c e rfl) ho^I.ko x c e;let#[e,n,ne,nf,d]:=I.pin p hp;have ZQ:p.1∉ch:=λz=>(hch p.1 z).2.2.2 p hp rfl;show#[keep p.1 p.2 ne nf ZQ e n,free p.1 p.2 ZQ e n,ne,nf,d]
def Inv.un(I:Inv X u5 σ H s)(u:Un X.fs [] H H' s.heap h')(hok:nB X.prog X.w H' h'):Inv X u5 σ H' { s with heap:=h',toks:=t' }:=by
 let#[m,#[o,es,ep,ho,r],_]:=id I.loc;let#[sl,hL]:=u.any ho I.free (by simp);show I.step (g':=s.gens) (d':=s.drawn) (ch:=[]) (λ_ z=>nomatch z) (λb o _ hb _ e n=>u.keep b o e n hb^by simp) (λb o _ hb _ e n=>u.slot b o e n hb^by simp) (λb o _ e n=>u.free b o e n^by simp) (λb o _ e=>u.there b o e^by simp) u.tups u.zA u.A7 (λm' hm=>by
  let#[o',es',uH,ho',r']:=hm;rw[ho] at ho';cases ho';show#[_,es',uH,hL,r']) hok I.bare
def Inv.call{g':Array GenState}{d':Drawn}{ch:List Addr}(I:Inv X u5 σ H s)(u:Un (frs X.stack) ch H H' s.heap h')(hok:nB X.prog X.w H' h')(hg:AllBare g')
  (hch:∀b∈ch,(b∈X.ex\/X.s₀.heap.objs.size<=b)/\b≠X.env.locals/\(∀x c,X.env.cells.lookup x=some c->c≠b)/\∀p∈X.pn++u5,p.1≠b):
  Inv X u5 σ H' { s with heap:=h',gens:=g',drawn:=d',toks:=t' }:=by
 let#[m,#[o,es,ep,ho,r],_]:=id I.loc;let#[sl,hL]:=u.any ho I.free λz=>(hch _ z).2.1 rfl;show I.step (ch:=ch) hch (λb o hL hb hc e n=>u.keep b o e n (λz=>(aG.mp^I.A8 b z).elim hL hb) hc) (λb o _ _ hc e n=>u.any e n hc) (λb o hc e n=>u.free b o e n hc) (λb o hc e=>u.there b o e hc) u.tups u.zA u.A7 (λm' hm=>by
  let#[o',es',uH,ho',r']:=hm;rw[ho] at ho';cases ho';show#[_,es',uH,hL,r']) hok hg
def Inv.turned(I:Inv X u5 σ H s)(k:∀b o,b≠it->s.heap.get? b=some o->h'.get? b=some o)(hn:H it=none)(hL:it≠X.env.locals)
  (h1:it∈X.ex\/X.s₀.heap.objs.size<=it)(h2:∀x c,X.env.cells.lookup x=some c->c≠it)(h3:∀p∈X.pn++u5,p.1≠it):Inv X u5 σ H { s with heap:=h',toks:=t' }:=by
 have ZR:∀b u,H b=some u->b≠it:=λb u e z=>by rw[z,hn] at e;cases e
 show I.step (g':=s.gens) (d':=s.drawn) (ch:=[it]) (λb hb=>?_) (λb o _ _ hc e _=>k b o (λz=>hc^by simp[z]) e) (λb o _ _ hc e _=>#[o.slots,k b o (λz=>hc^by simp[z]) e]) (λ_ _ _ _ n=>n)
  (λb o hc e=>#[o,k b o (λz=>hc^by simp[z]) e]) (λ_ _ e=>e) (λ_ _ _ e=>e) (λb ps e=>#[#[],by rw[e];simp]) (λm hm=>?_) (λb u e=>?_) I.bare
 .have e:b=it:=by simpa using hb
  subst e;show#[h1,hL,h2,h3]
 .let#[o,es,ep,ho,r]:=hm;show#[o,es,ep,k _ o (aQ hL) ho,r]
 .show(I.hok b u e).stay (λc v hc q=>k c v ?_ q) (λ_ q=>q) λ_ _ q=>q;rcases hc with z|z;rw[z];show ZR b u e;show ZR c _ z
def Inv.tok(I:Inv X u5 σ H s)(t:Nat):Inv X u5 σ H { s with toks:=t }:=I.un (h':=s.heap) (t':=t) Un.refl I.hok
theorem Inv.kept(I:Inv X u5 σ H s)(k:∀b u,s.heap.get? b=some u->h'.get? b=some u):Inv X u5 σ H { s with heap:=h',toks:=t' }:=I.un (Un.kept k)^I.hok.kept k
theorem Inv.laid(I:Inv X u5 σ H s)(k:∀b u,s.heap.get? b=some u->h'.get? b=some u)(hp:s.heap.objs.size<=a)(new:dj X.prog X.w (upd H a o) h' a o):
  Inv X u5 σ (upd H a o) { s with heap:=h',toks:=t' }:=I.un (Un.laid k hp^I.hok.fresh hp)^I.hok.laid k hp new
theorem Inv.write{x e:Addr}(I:Inv X u5 σ H s)(mu:ZK^H x)(he:e=x\/H e=some^.own x)(k:∀b u,b≠e->s.heap.get? b=some u->h'.get? b=some u)(Ze:∃u,h'.get? e=some u)
  (new:dj X.prog X.w (upd H x o) h' x o):Inv X u5 σ (upd H x o) { s with heap:=h',toks:=t' }:=I.un (Un.write mu he k Ze)^I.hok.write mu he k Ze new
def Inv.vU{Nl:List (Addr×Obj)}(I:Inv X u5 σ H s)(h:∀p∈Nl,s.heap.get? p.1=some p.2/\H p.1=none/\p.1≠X.env.locals/\p.1∉X.fs/\∀v,p.2.data≠.cell v):Inv X Nl σ H s :=
 #[I.ok,I.os,I.bare,I.base,I.loc,I.cell,I.free,I.ko,λp hp=>(aJ.mp hp).elim (λz=>I.pin p^iw _ z)^h p,I.hok,I.len]
def CO(hN:N.Nodup)(a:N[i]?=some x)(b:N[j]?=some x):i=j:=by let#[h1,e1]:=e9 a;let#[h2,e2]:=e9 b;show(wW hN).mp^e1.trans e2.symm
def sY(I:Inv X u5 σ H s)(hN:X.N.Nodup)(hi:X.N[i]?=some x)(hx:Loc X.env.scope x)(r:RelV v u)
  (h:∀s',Inv X u5 (σ.set i^some v) H s'->(∃a,Heap.SameBut a s.heap s'.heap/\(a=X.env.locals\/X.env.cells.lookup x=some a))->Q () s')(hf:X.fn x=true\/X.env.scope.names.lookup x=some .local:=by walk_at "or"):wpAny M A (storeName X.env x u) Q E s:=by
 let#[m,hn,hl]:=id I.loc;have hcls:(X.env.scope.kind==.class||(X.env.scope.kind==.module&&X.env.locals != X.env.globals))=false:=by rw[I.ok.kind];rfl
 have hiσ:i<σ.length:=by rw[I.len];show(e9 hi).1
 have Wu:=I.Wu;have tracked:∀{a:Addr}{h':Heap},(∃o,s.heap.get? a=some o/\H a=none)->Heap.SameBut a s.heap h'->nB X.prog X.w H h':=λ{a h'} ha hs b ob e=>by let#[_,_,hfree]:=ha;show(I.hok b ob e).stay (λc w' hc q=>(hs.2 c ?_).trans q) (λ_ q=>q) λ_ _ q=>q;rintro rfl;rcases hc with rfl|hc;rw[hfree] at e;cases e;rw[hfree] at hc;cases hc
 rcases hx with hk|hk
 .show wpAny_storeName_local hk hn (λh' hn' hs=>?_) hcls;let#[oL,_,_,hoL,_]:=id hn;show h _ #[I.ok,I.os,I.bare,#[λb o e n hb hx=>?_,λb o e n hb hx=>?_,I.base.free,λb o e hx=>?_,I.base.tups,I.base.zA,I.base.A7],#[_,hn',λj y v' e1 e2 e3=>?_],λy c e=>?_,I.free,I.ko,λp hp=>?_,tracked #[oL,hoL,I.free] hs,by simpa using I.len] #[_,hs,.inl rfl];show(hs.2 b^aN^cC (aH e) I.ok.above).trans^I.base.keep b o e n hb hx;let#[sl,e1]:=I.base.slot b o e n hb hx;show#[sl,(hs.2 b^aN^cC (aH e) I.ok.above).trans e1];let#[o',e1]:=I.base.there b o e hx;show#[o',(hs.2 b^aN^cC (aH e) I.ok.above).trans e1]
  .by_cases hj:j=i;subst hj;rw[hi] at e1;cases e1;rw[List.getElem?_set_self hiσ] at e2;cases e2;show#[u,r,.inl #[hk,by simp]]
   .rw[sU^aQ hj] at e2;let#[u',r',q]:=hl j y v' e1 e2 e3;show#[u',r',?_];rcases q with⟨k,e⟩|⟨k,c,e,z⟩
    .show .inl #[k,?_];have:y≠x:=λe=>hj^CO hN e1 (e▸hi);simp[this,e]
    .show .inr #[k,c,e,z.sameBut hs^Wu y c e]
  .let#[w',z]:=I.cell y c e;show#[w',z.sameBut hs^Wu y c e]
  .let#[e,n,ne,nf,d]:=I.pin p hp;show#[(hs.2 p.1 ne).trans e,n,ne,nf,d]
 .have hfn:X.fn x=true:=by rcases hf with z|z;show z;rw[z] at hk;cases hk
  let#[c,hc]:=I.ok.has x^.inl hk;let#[w',z]:=I.cell x c hc;show wpAny_storeName_cell I.ok.kind hk hc z (λh' hc' hs=>?_);let#[oc,hoc,aeU]:=id z;show h { s with heap:=h' } #[I.ok,I.os,I.bare,#[λb o e n hb hx=>?_,λb o e n hb hx=>?_,I.base.free,λb o e hx=>?_,I.base.tups,I.base.zA,I.base.A7],#[m,hn.sameBut hs^aQ^Wu x c hc,λj y v' e1 e2 e3=>?_],λy c' e=>?_,I.free,I.ko,λp hp=>?_,tracked #[oc,hoc,I.ko x c hc] hs,by simpa using I.len] #[c,hs,.inr hc];show(hs.2 b^aN^cC (aH e)^I.ok.ZM x c hfn hc).trans^I.base.keep b o e n hb hx;let#[sl,e1]:=I.base.slot b o e n hb hx;show#[sl,(hs.2 b^aN^cC (aH e)^I.ok.ZM x c hfn hc).trans e1];let#[o',e1]:=I.base.there b o e hx;show#[o',(hs.2 b^aN^cC (aH e)^I.ok.ZM x c hfn hc).trans e1]
  .by_cases hj:j=i;subst hj;rw[hi] at e1;cases e1;rw[List.getElem?_set_self hiσ] at e2;cases e2;show#[u,r,.inr #[.inl hk,c,hc,hc']]
   .rw[sU^aQ hj] at e2;let#[u',r',q]:=hl j y v' e1 e2 e3;show#[u',r',?_];rcases q with q|⟨k,c',e,z'⟩;show .inl q
    .show .inr #[k,c',e,z'.sameBut hs ?_];rintro rfl;show hj^CO hN e1 (I.ok.inj _ _ _ e hc▸hi)
  .by_cases hcc:c'=c;subst hcc;show#[_,hc'];let#[w2,z2]:=I.cell y c' e;show#[w2,z2.sameBut hs hcc]
  .let#[e,n,ne,nf,d]:=I.pin p hp;show#[(hs.2 p.1 ?_).trans e,n,ne,nf,d];intro q;rw[q,hoc] at e;have q':oc=p.2:=Option.some.inj e;show d w' (by rw[<- q'];show aeU)
def w6(I:Inv X u5 σ H s)(hN:X.N.Nodup)(hi:X.N[i]?=some x)(hx:Loc X.env.scope x)(r:RelV v u)
  (h:∀s',Inv X u5 (σ.set i^some v) H s'->Q () s')(hf:X.fn x=true\/X.env.scope.names.lookup x=some .local:=by walk_at "or"):wpAny M A (storeName X.env x u) Q E s :=
 sY I hN hi hx r (λs' I' _=>h s' I') hf
def Inv.UM{s':Shared}{ch:List Addr}(I:Inv X u5 σ H s)(ho:s'.os=s.os)(u:Un (frs X.stack) ch H H' s.heap s'.heap)(hok:nB X.prog X.w H' s'.heap)(hg:AllBare s'.gens)
  (hch:∀b∈ch,(b∈X.ex\/X.s₀.heap.objs.size<=b)/\b≠X.env.locals/\(∀x c,X.env.cells.lookup x=some c->c≠b)/\∀p∈X.pn++u5,p.1≠b):Inv X u5 σ H' s':=by let#[h',g',d',t',o']:=s';have e:o'=s.os:=ho;subst e;show I.call (g':=g') (t':=t') (d':=d') u hok hg hch
end
abbrev XK:=Value->Option Addr->Hp->Prop
abbrev St:=List^Option V
abbrev VK:=V->Hp->Prop
abbrev TE:=St->Hp->VK->Prop
abbrev TT:=St->Hp->(Bool->Hp->Prop)->Prop
abbrev TA:=St->Hp->(List V->Hp->Prop)->Prop
structure Ends where
 nx:St->Hp->Prop
 rt:VK
 bk:St->Hp->Prop:=λ_ _=>False
 ct:St->Hp->Prop:=λ_ _=>False
abbrev TS:=Ends->St->Hp->Prop
def EP(X:Cx)(u5:List (Addr×Obj))(σ:St)(Q:VK)(u:Value)(s':Shared):Prop:=∃v H',Inv X u5 σ H' s'/\RelV v u/\Q v H'
def TP(X:Cx)(u5:List (Addr×Obj))(σ:St)(Q:Bool->Hp->Prop)(b:Bool)(s':Shared):Prop:=∃H',Inv X u5 σ H' s'/\Q b H'
def AP(X:Cx)(u5:List (Addr×Obj))(σ:St)(Q:List V->Hp->Prop)(us:List Value)(s':Shared):Prop:=∃vs H',Inv X u5 σ H' s'/\Vals vs us/\Q vs H'
def SP(X:Cx)(u5:List (Addr×Obj))(D:Ends)(f:Flow)(s':Shared):Prop :=
 match f with
 | .next=>∃σ' H',Inv X u5 σ' H' s'/\D.nx σ' H'
 | .brk=>∃σ' H',Inv X u5 σ' H' s'/\D.bk σ' H'
 | .cont=>∃σ' H',Inv X u5 σ' H' s'/\D.ct σ' H'
 | .ret u=>∃v σ' H',Inv X u5 σ' H' s'/\RelV v u/\D.rt v H'
def PE(X:Cx)(e:Expr)(t:TE):Prop :=
 ∀(u5:List (Addr×Obj))(s:Shared)(σ:St)(H:Hp)(Q:VK),Inv X u5 σ H s->t σ H Q->wpAny (model X.prog X.w) X.A (eval e X.env) (EP X u5 σ Q) X.xe s
def PT(X:Cx)(e:Expr)(t:TT):Prop :=
 ∀(u5:List (Addr×Obj))(s:Shared)(σ:St)(H:Hp)(Q:Bool->Hp->Prop),Inv X u5 σ H s->t σ H Q->wpAny (model X.prog X.w) X.A (isTrue e X.env^eval e X.env) (TP X u5 σ Q) X.xe s
def PW(X:Cx)(e:Expr)(t:TT):Prop :=
 ∀(whole:Sem Value)(u5:List (Addr×Obj))(s:Shared)(σ:St)(H:Hp)(Q:Bool->Hp->Prop),Inv X u5 σ H s->t σ H Q->wpAny (model X.prog X.w) X.A (isTrue e X.env whole) (TP X u5 σ Q) X.xe s
def PW.pt{t:TT}(h:PW X e t):PT X e t:=h _
def PA(X:Cx)(es:List Expr)(t:TA):Prop :=
 ∀(pos:Pos)(u5:List (Addr×Obj))(s:Shared)(σ:St)(H:Hp)(Q:List V->Hp->Prop),Inv X u5 σ H s->t σ H Q->wpAny (model X.prog X.w) X.A (spliced^backTo pos^starEach es X.env) (AP X u5 σ Q) X.xe s
def PS(X:Cx)(st:Stmt)(t:TS):Prop :=
 ∀(u5:List (Addr×Obj))(s:Shared)(σ:St)(H:Hp)(D:Ends),Inv X u5 σ H s->t D σ H->wpAny (model X.prog X.w) X.A (exec st X.env) (SP X u5 D) X.xe s
def CG(X:Cx)(st:List Stmt)(t:TS):Prop :=
 ∀(u5:List (Addr×Obj))(s:Shared)(σ:St)(H:Hp)(D:Ends),Inv X u5 σ H s->t D σ H->wpAny (model X.prog X.w) X.A (execs st X.env) (SP X u5 D) X.xe s
def c9{α:Type}{t:Sem α}{Q Q':α->Shared->Prop}(h:wpAny M A t Q E s)(hQ:∀a s,Q a s->Q' a s):wpAny M A t Q' E s:=wpAny_mono h hQ λ_ _ x=>x
section
variable {X:Cx}
def qj(i:Nat):TE:=λσ H Q=>∃v,σ[i]?=some^some v/\Q v H
def tC(v:V):TE:=λ_ H Q=>Q v H
def Wv(hN:X.N[i]?=some x)(hv:Vis X.env.scope x)(hd:(x==("__debug__" : Str))=false:=by decide)(hcd:(x==("__classdict__" : Str))=false:=by decide):PE X (.Name x pos)^qj i:=by
 intro u5 s σ H Q I h;let#[v,e,h]:=h;let#[m,hn,hl]:=I.loc;let#[u,r,l]:=hl i x v hN e hv;have fin:EP X u5 σ Q u s:=#[v,H,I,r,h];rcases l with⟨hk,hm⟩|⟨hk,c,hc,hcell⟩;show wpAny_Name (wpAny_loadName_local I.ok.kind hk hn hm fin) hd
 .rcases hk with hk|hk;show wpAny_Name (wpAny_loadName_cell I.ok.kind hk hc hcell fin) hd;show wpAny_Name (wpAny_loadName_free I.ok.kind hk hc hcell fin hcd) hd
def ai{i j pos}:PE X (.Constant (.int i) j pos)^tC^.int i:=λ_ _ _ H _ I h=>wpAny_Constant_int #[.int i,H,I.tok _,#[_,rfl],h]
def qO{b j pos}:PE X (.Constant (.bool b) j pos)^tC^.bl b:=λ_ _ _ H _ I h=>Constant_bool #[.bl b,H,I,rfl,h]
def xg{j pos}:PE X (.Constant .none j pos)^tC .eW:=λ_ _ _ H _ I h=>Constant_none #[.eW,H,I,rfl,h]
def aW{x j pos}:PE X (.Constant (.str x) j pos)^tC^.str x:=λ_ _ _ H _ I h=>Calls.Constant_str #[.str x,H,I.tok _,#[_,rfl],h]
def Gl(X:Cx)(x:Str):Prop:=X.env.kindOf x=some .globalImplicit
def Io{σ:St}{Q:Value->Shared->Prop}(I:Inv X u5 σ H s)(hg:Gl X x)(hm:X.mg x=some u)(h:Q u s)
  (hd:(x==("__debug__" : Str))=false:=by decide):wpAny (model X.prog X.w) X.A (eval (.Name x pos) X.env) Q E s :=
 Calls.Name_function_global I.ok.kind hg (Calls.loadGlobal_global (by rw[I.ok.glob];show I.mod.glob.keeps I.bk) hm h) hd
def iA{σ:St}{Q:Value->Shared->Prop}(I:Inv X u5 σ H s)(hg:Gl X x)(hm:X.mg x=none)(hv:bootBuiltins x=some u)(h:Q u s)
  (hn:x ≠ "__name__" := by decide)(hd:(x==("__debug__" : Str))=false:=by decide):wpAny (model X.prog X.w) X.A (eval (.Name x pos) X.env) Q E s:=by let#[mb,h1,h2]:=I.mod.blt;show Calls.Name_function_global I.ok.kind hg (Calls.loadGlobal_builtin (by rw[I.ok.glob];show I.mod.glob.keeps I.bk) hm (by rw[I.ok.blt];show h1.keeps I.bk) ((h2 x hn).trans hv) h) hd
def Ip(hg:Gl X x)(hm:X.mg x=some u)(r:RelV v u)(hd:(x==("__debug__" : Str))=false:=by decide):PE X (.Name x pos) (tC v) :=
 λ_ _ _ H _ I h=>Io I hg hm #[v,H,I,r,h] hd
def Ba(hg:Gl X x)(hm:X.mg x=none)(hv:bootBuiltins x=some u)(r:RelV v u)(hn:x ≠ "__name__" := by decide)(hd:(x==("__debug__" : Str))=false:=by decide):PE X (.Name x pos) (tC v) :=
 λ_ _ _ H _ I h=>iA I hg hm hv #[v,H,I,r,h] hn hd
variable {a b:Expr}{ta tb:TE}
def PC(X:Cx)(op:CmpOp)(a b:Expr)(t:TE):Prop :=
 ∀(u5:List (Addr×Obj))(s:Shared)(σ:St)(H:Hp)(Q:VK),Inv X u5 σ H s->t σ H Q ->
  wpAny (model X.prog X.w) X.A (eval a X.env) (λv s₁=>wpAny (model X.prog X.w) X.A (eval b X.env) (λu s₂=>wpAny (model X.prog X.w) X.A (compareOp op v u) (EP X u5 σ Q) X.xe s₂) X.xe s₁) X.xe s
def Nm(b:Expr)(h:op≠.In)(h2:op≠.NotIn):behindInMarks op b=false:=by
 have e1:(op==CmpOp.In)=false:=by cases op<;>first|rfl|show absurd rfl h
 have e2:(op==CmpOp.NotIn)=false:=by cases op<;>first|rfl|show absurd rfl h2
 cases b<;>simp[behindInMarks,e1,e2]
def tB(t:TE):TT:=λσ H Q=>t σ H λx H1=>∃c,x=.bl c/\Q c H1
def FY(h:PC X op a b t)(h1:behindInMarks op b=false:=by first|exact Nm _ (by decide) (by decide)|rfl):PT X (.Compare a [op] [b] pos)^tB t:=by intro u5 s σ H Q I hw;show wpAny_isTrue_Compare1 (c9 (h u5 s σ H _ I hw) λv s1 h1=>c9 h1 λu s2 h2=>c9 h2 λc s3 zq=>?_) h1;let#[x,H1,I1,r1,q1]:=zq;let#[d,rfl,q]:=q1;cases r1;show wpAny_truthy_bool #[H1,I1,q]
def sZ(h:PE X e t)(he:∀whole,isTrue e X.env whole=(do let v <- whole;standAt e.pos;holding [v]^truthy v):=by walk_at "ir"):PT X e^tB t:=by intro u5 s σ H Q I hw;show isTrue_plain (c9 (h u5 s σ H _ I hw) λv s1 zq=>?_)^he _;let#[x,H1,I1,r1,q1]:=zq;let#[d,rfl,q]:=q1;cases r1;show wpAny_truthy_bool #[H1,I1,q]
variable {tA tB':TT}{rest:List Expr}
def ZS(t u:TT):TT:=λσ H Q=>t σ H λc H1=>if c=true then u σ H1 Q else Q false H1
def tOr(t u:TT):TT:=λσ H Q=>t σ H λc H1=>if c=true then Q true H1 else u σ H1 Q
def ZT(t:TT):TT:=λσ H Q=>t σ H λc H1=>Q (!c) H1
def qP(ha:PT X a tA):PW X (.BoolOp .And [a] pos) tA:=by
 intro wh u5 s σ H Q I h;show isTrue_and (c9 (ha u5 s σ H Q I h) λc s1 e=>?_);cases c with
 | true=>show isTrue_and_nil e
 | false=>show e
def tw(ha:PT X a tA):PW X (.BoolOp .Or [a] pos) tA:=by
 intro wh u5 s σ H Q I h;show isTrue_or (c9 (ha u5 s σ H Q I h) λc s1 e=>?_);cases c with
 | false=>show isTrue_or_nil e
 | true=>show e
def tD(ha:PT X a tA)(hb:PW X (.BoolOp .And (b::rest) pos) tB'):PW X (.BoolOp .And (a::b::rest) pos)^ZS tA tB':=by
 intro wh u5 s σ H Q I h;show isTrue_and (c9 (ha u5 s σ H _ I h) λc s1 zq=>?_);let#[H1,I1,q1]:=zq;cases c with
 | true=>show hb wh u5 s1 σ H1 Q I1 q1
 | false=>show#[H1,I1,q1]
def xh(ha:PT X a tA)(hb:PW X (.BoolOp .Or (b::rest) pos) tB'):PW X (.BoolOp .Or (a::b::rest) pos)^tOr tA tB':=by
 intro wh u5 s σ H Q I h;show isTrue_or (c9 (ha u5 s σ H _ I h) λc s1 zq=>?_);let#[H1,I1,q1]:=zq;cases c with
 | true=>show#[H1,I1,q1]
 | false=>show hb wh u5 s1 σ H1 Q I1 q1
def xj(ha:PT X a tA):PT X (.UnaryOp .Not a pos)^ZT tA:=by intro u5 s σ H Q I h;show isTrue_not^ha u5 s σ H (λc H1=>Q (!c) H1) I h
def ZU(ta tb:TE):TE:=λσ H Q=>ta σ H λx H1=>∃c,x=.bl c/\if c=true then Q (.bl true) H1 else tb σ H1 Q
def Ww{op}(h:PE X a t):PE X (.BoolOp op [a] pos) t:=λu5 s σ H Q I hw=>BoolOp_one^h u5 s σ H Q I hw
def ZV(ha:PE X a ta)(hb:PE X (.BoolOp .Or (b::rest) pos) tb):PE X (.BoolOp .Or (a::b::rest) pos)^ZU ta tb:=by
 intro u5 s σ H Q I h;show BoolOp_or (c9 (ha u5 s σ H _ I h) λv s1 zq=>?_);let#[x,H1,I1,r1,q1]:=zq;let#[c,rfl,q1]:=q1;cases r1;show wpAny_truthy_bool ?_;cases c with
 | false=>show hb u5 s1 σ H1 Q I1 q1
 | true=>show#[.bl true,H1,I1,rfl,q1]
def tIf(t:TT)(ta tb:TE):TE:=λσ H Q=>t σ H λc H1=>if c=true then ta σ H1 Q else tb σ H1 Q
def f9(hc:PT X c tA)(ha:PE X a ta)(hb:PE X b tb):PE X (.IfExp c a b pos)^tIf tA ta tb:=by
 intro u5 s σ H Q I h;show wpAny_IfExp (c9 (hc u5 s σ H _ I h) λd s1 zq=>?_);let#[H1,I1,q1]:=zq;cases d with
 | true=>show ha u5 s1 σ H1 Q I1 q1
 | false=>show hb u5 s1 σ H1 Q I1 q1
end
def bG(K:az)(H:Hp)(a:Addr)(xs:List V):Prop :=
 Rd H a (.lst xs) \/
  ∃(o:Obj)(its:Array Value)(n:Nat),K.lookup a=some o/\o.cls=.type "list" /\ o.dict=none/\o.data=.seq its n/\its.size<=sizeLine/\Vals xs its.toList
def dJ(K:az)(H:Hp)(a:Addr)(xs:List V):Prop :=
 Rd H a (.tup xs) \/
  ∃(o:Obj)(its:Array Value)(n:Nat),K.lookup a=some o/\o.cls=.type "tuple" /\ o.data=.seq its n/\its.size<=sizeLine/\Vals xs its.toList
noncomputable def aeV:Value->Option V
 | .none=>some .eW
 | .bool b=>some^.bl b
 | .int i _=>some^.int i
 | .str x _=>some^.str x
 | .bytes b _=>some^.Kv b
 | .float b _=>some^.Zd b
 | .ref a=>some^.ref a
 | .type n=>some^.ty n
 | _=>none
def RelV.abs{x:V}(r:RelV x u):aeV u=some x:=by
 cases x with
 | eW=>cases r;rfl
 | bl _=>cases r;rfl
 | int _=>let#[t,rfl]:=r;rfl
 | str _=>let#[t,rfl]:=r;rfl
 | Kv _=>let#[t,rfl]:=r;rfl
 | Zd _=>let#[t,rfl]:=r;rfl
 | ref _=>cases r;rfl
 | ty _=>cases r;rfl
theorem RelV.inj{x y:V}(r:RelV x u)(q:RelV y u):x=y:=Option.some.inj^r.abs.symm.trans q.abs
theorem Vals.inj:∀{xs ys:List V}{us:List Value},Vals xs us->Vals ys us->xs=ys:=by
 intro xs ys us h;induction h generalizing ys with
 | nil=>intro z;cases z;rfl
 | cons r t ih=>intro z;cases z with|cons r' t'=>rw[r.inj r',ih t']
section
variable {X:Cx}{σ:St}{H:Hp}{xs ys:List V}
def bG.of(h:H a=some^.lst xs):bG K H a xs:=.inl^.inl h
def dJ.of(h:H a=some^.tup xs):dJ K H a xs:=.inl^.inl h
theorem Inv.list(I:Inv X u5 σ H s)(h:bG X.K H a xs):∃its:List Value,Vals xs its/\PlainL s.heap a its.toArray/\xs.length<=sizeLine:=by rcases h with h|⟨o,its,n,hk,hc,hd,hs,hz,r⟩;let#[z,its,n,r,e]:=h.ok I.hok;show#[its,r,#[_,n,e,rfl,rfl,rfl],z];show#[its.toList,r,#[o,n,I.zB a o hk,hc,hd,by simpa using hs],?_];have e:=r.length;erw[dB] at e;lia
theorem Inv.tuple(I:Inv X u5 σ H s)(h:dJ X.K H a xs):∃its:List Value,Vals xs its/\IsTup s.heap a its.toArray/\xs.length<=sizeLine:=by rcases h with h|⟨o,its,n,hk,hc,hs,hz,r⟩;let#[z,its,r,p]:=h.ok I.hok;show#[its,r,p,z];show#[its.toList,r,#[o,I.zB a o hk,hc,n,by simpa using hs],?_];have e:=r.length;erw[dB] at e;lia
def Inv.Nn(I:Inv X u5 σ H s)(h:bG X.K H a xs)(h':bG X.K H a ys):xs=ys:=by
 let#[its,r,#[o,n,e,_,_,d],_]:=I.list h;let#[its',r',#[o',n',e',_,_,d'],_]:=I.list h';rw[e] at e';cases e';rw[d] at d';injection d' with d1 _;have:its=its':=by simpa using congrArg Array.toList d1
 subst this;show r.inj r'
def Inv.zW(I:Inv X u5 σ H s)(h:dJ X.K H a xs)(h':dJ X.K H a ys):xs=ys:=by
 let#[its,r,#[o,e,_,n,d],_]:=I.tuple h;let#[its',r',#[o',e',_,n',d'],_]:=I.tuple h';rw[e] at e';cases e';rw[d] at d';injection d' with d1 _;have:its=its':=by simpa using congrArg Array.toList d1
 subst this;show r.inj r'
end
noncomputable abbrev Cx.xm(X:Cx)(E:Value->Shared->Prop):Cx:={ X with xe:=E }
noncomputable abbrev Cx.Wx(X:Cx):Cx:=X.xm λ_ _=>False
theorem Cx.Ok.xm(ok:X.Ok)(E:Value->Shared->Prop):(X.xm E).Ok :=
 #[ok.mod,ok.kind,ok.glob,ok.blt,ok.above,ok.inj,ok.has,ok.ZM,ok.hd,ok.frames,ok.stk,ok.exf,ok.bs,ok.RL,ok.Nj,ok.Nk,ok.vE,ok.Wt]
def Cx.Ok.nK(ok:(X.xm E).Ok):X.Ok :=
 #[ok.mod,ok.kind,ok.glob,ok.blt,ok.above,ok.inj,ok.has,ok.ZM,ok.hd,ok.frames,ok.stk,ok.exf,ok.bs,ok.RL,ok.Nj,ok.Nk,ok.vE,ok.Wt]
section
variable {X:Cx}{σ:St}{H:Hp}
theorem Inv.xm(I:Inv X u5 σ H s)(E:Value->Shared->Prop):Inv (X.xm E) u5 σ H s:=#[I.ok.xm E,I.os,I.bare,I.base,I.loc,I.cell,I.free,I.ko,I.pin,I.hok,I.len]
theorem Inv.nK(I:Inv (X.xm E) u5 σ H s):Inv X u5 σ H s:=#[I.ok.nK,I.os,I.bare,I.base,I.loc,I.cell,I.free,I.ko,I.pin,I.hok,I.len]
theorem SP.nK{f:Flow}{s':Shared}(h:SP (X.xm E) u5 D f s'):SP X u5 D f s':=by
 cases f with
 | next=>let#[σ',H',I,q]:=h;show#[σ',H',I.nK,q]
 | brk=>let#[σ',H',I,q]:=h;show#[σ',H',I.nK,q]
 | cont=>let#[σ',H',I,q]:=h;show#[σ',H',I.nK,q]
 | ret u=>let#[v,σ',H',I,r,q]:=h;show#[v,σ',H',I.nK,r,q]
theorem CG.Wx{st:List Stmt}{t:TS}(h:CG X.Wx st t):CG X st t:=λu5 s σ H D I hw =>
 wpAny_mono (h u5 s σ H D (I.xm _) hw) (λ_ _ q=>q.nK) λ_ _ z=>False.elim z
end
section
variable {X:Cx}{rest:List Stmt}{t u:TS}{te:TE}
def UN:TS:=λD σ H=>D.nx σ H
def Wy(t u:TS):TS:=λD σ H=>t { D with nx:=u D } σ H
def bL:CG X [] UN:=λ_ _ σ H _ I h=>wpAny_execs_nil #[σ,H,I,h]
def ak(h1:PS X st t)(h2:CG X rest u):CG X (st::rest)^Wy t u:=by
 intro u5 s σ H D I h;show wpAny_execs_cons (c9 (h1 u5 s σ H { D with nx:=u D } I h) λf s1 q=>?_);cases f with
 | next =>
  let#[σ',H',I',q]:=q;show h2 u5 s1 σ' H' D I' q
 | ret v=>show q
 | brk=>show q
 | cont=>show q
def aq(h1:PS X st t):CG X [st] t:=by
 intro u5 s σ H D I h;show wpAny_execs_cons (c9 (h1 u5 s σ H D I h) λf s1 q=>?_);cases f with
 | next=>show wpAny_execs_nil q
 | ret v=>show q
 | brk=>show q
 | cont=>show q
def Inv.quiet{σ:St}(I:Inv X u5 σ H s):interactive X.env=false:=by simp[interactive,I.ok.kind]
def UO(te:TE):TS:=λD σ H=>te σ H λ_ H1=>D.nx σ H1
def cY(he:PE X e te)(hs:swapsWith e none pos.line X.env=pure false:=by rfl):PS X (.Expr e pos)^UO te:=by intro u5 s σ H D I h;show wpAny_Expr_any (c9 (he u5 s σ H _ I h) λv s1 zq=>?_) I.quiet hs;let#[x,H1,I1,r1,q1]:=zq;show#[σ,H1,I1,q1]
def ZW(te:TE):TS:=λD σ H=>te σ H D.rt
def aI(he:PE X e te):PS X (.Return (some e) pos)^ZW te:=by intro u5 s σ H D I h;show wpAny_Return_some (c9 (he u5 s σ H _ I h) λv s1 zq=>?_);let#[x,H1,I1,r1,q1]:=zq;show#[x,σ,H1,I1,r1,q1]
def ZX(c:TT)(t u:TS):TS:=λD σ H=>c σ H λb H1=>if b=true then t D σ H1 else u D σ H1
def dF{a b:List Stmt}{tc:TT}(hc:PT X c tc)(ha:CG X a t)(hb:CG X b u):PS X (.If c a b pos)^ZX tc t u:=by
 intro u5 s σ H D I h;show wpAny_If (c9 (hc u5 s σ H _ I h) λd s1 zq=>?_);let#[H1,I1,q1]:=zq;cases d with
 | true=>show ha u5 s1 σ H1 D I1 q1
 | false=>show hb u5 s1 σ H1 D I1 q1
end
abbrev TG:=V->St->Hp->(St->Hp->Prop)->Prop
abbrev FZ:=List V->St->Hp->(St->Hp->Prop)->Prop
def PG(X:Cx)(target:Expr)(t:TG):Prop :=
 ∀(u5:List (Addr×Obj))(s:Shared)(σ:St)(H:Hp)(v:V)(u:Value)(Q:St->Hp->Prop),Inv X u5 σ H s->RelV v u->t v σ H Q ->
  wpAny (model X.prog X.w) X.A (assign target X.env u) (λ_ s'=>∃σ' H',Inv X u5 σ' H' s'/\Q σ' H') X.xe s
def UP(X:Cx)(ts:List Expr)(t:FZ):Prop :=
 ∀(u5:List (Addr×Obj))(s:Shared)(σ:St)(H:Hp)(vs:List V)(us:List Value)(Q:St->Hp->Prop),Inv X u5 σ H s->Vals vs us->t vs σ H Q ->
  wpAny (model X.prog X.w) X.A (assignInOrder ((assignEach ts X.env).map (·.2)) us) (λ_ s'=>∃σ' H',Inv X u5 σ' H' s'/\Q σ' H') X.xe s
abbrev RM:=V->V->V->Hp->(Hp->Prop)->Prop
def ZY(X:Cx)(t:RM):Prop :=
 ∀(u5:List (Addr×Obj))(s:Shared)(σ:St)(H:Hp)(o i v:V)(ov iv u:Value)(Q:Hp->Prop),Inv X u5 σ H s->RelV o ov->RelV i iv->RelV v u->t o i v H Q ->
  wpAny (model X.prog X.w) X.A (setItem ov iv u) (λ_ s'=>∃H',Inv X u5 σ H' s'/\Q H') X.xe s
abbrev Zg:=V->V->Hp->VK->Prop
def PIp(X:Cx)(op:Operator)(t:Zg):Prop :=
 ∀(u5:List (Addr×Obj))(s:Shared)(σ:St)(H:Hp)(x y:V)(v u:Value)(Q:VK),Inv X u5 σ H s->RelV x v->RelV y u->t x y H Q ->
  wpAny (model X.prog X.w) X.A (inplaceOp op v u) (EP X u5 σ Q) X.xe s
section
variable {X:Cx}
def iB(i:Nat):TG:=λv σ H Q=>Q (σ.set i^some v) H
def Iq(hN:X.N.Nodup)(hi:X.N[i]?=some x)(hx:Loc X.env.scope x)(hf:X.fn x=true\/X.env.scope.names.lookup x=some .local:=by walk_at "or"):PG X (.Name x pos)^iB i:=by intro u5 s σ H v u Q I r h;show wpAny_assign_Name^w6 I hN hi hx r (λs' I'=>#[_,H,I',h]) hf
def ZZ:FZ:=λvs σ H Q=>vs=[]/\Q σ H
def UQ(t:TG)(u:FZ):FZ:=λvs σ H Q=>∃v r,vs=v::r/\t v σ H λσ' H'=>u r σ' H' Q
def gr:UP X [] ZZ:=by intro u5 s σ H vs us Q I r h;let#[e,h]:=h;subst e;cases r;show assignInOrder_nil #[σ,H,I,h]
def bF{t:TG}{u:FZ}(h1:PG X e t)(h2:UP X es u)(hs:(assignEach (e::es) X.env).map (·.2)=assign e X.env::(assignEach es X.env).map (·.2)):UP X (e::es)^UQ t u:=by
 intro u5 s σ H vs us Q I r h;let#[v,vr,e1,h]:=h;subst e1;cases r with
 | cons r rr =>
  rw[hs];show assignInOrder_cons (c9 (h1 u5 s σ H _ _ _ I r h) λ_ s1 zq=>?_);let#[σ1,H1,I1,q1]:=zq;show h2 u5 s1 σ1 H1 _ _ Q I1 rr q1
def Np(K:az)(n:Nat)(t:FZ):TG:=λv σ H Q=>∃a xs,v=.ref a/\dJ K H a xs/\xs.length=n/\t xs σ H Q
def Nq{t:FZ}(hc:X.calm=true)(h:UP X es t)
  (hn:(assignEach es X.env).length=n:=by rfl)(hst:(assignEach es X.env).findIdx? (·.1)=none:=by rfl):PG X (.Tuple es k pos)^Np X.K n t:=by intro u5 s σ H v u Q I r hw;let#[a,xs,e1,hq,hl,hw]:=hw;subst e1;cases r;let#[its,rv,ht,hz]:=I.tuple hq;show assign_Tuple_tuple (I.ok.hd hc) ht (by simp[hn,<- hl,rv.length]) hst λh' hx=>?_;have I1:Inv X u5 σ H { s with heap:=h' }:=I.kept (t':=s.toks) λb o e=>hx b o (aN^aH e) e;show h u5 _ σ H xs _ Q I1 (by simpa using rv) hw
def Z0(to ti:TE)(t:RM):TG:=λv σ H Q=>to σ H λo H1=>ti σ H1 λi H2=>t o i v H2 λH3=>Q σ H3
def F1{o i:Expr}{to ti:TE}{t:RM}(ho:PE X o to)(hi:PE X i ti)(hs:ZY X t)
  (ha:∀v,assign (.Subscript o i pos) X.env v=(do
   let ov <- holding [v] (eval o X.env);let iv <- holding [v,ov] (eval i X.env)
   standAt pos
   holding [v,ov,iv]^setItem ov iv v
   release [v,ov,iv] []):=by walk_at "ir"):PG X (.Subscript o i pos)^Z0 to ti t:=by intro u5 s σ H v u Q I r h;rw[ha];show au^wpAny_holding (c9 (ho u5 s σ H _ I h) λov s1 zq=>?_);let#[x,H1,I1,r1,q1]:=zq;show au^wpAny_holding (c9 (hi u5 s1 σ H1 _ I1 q1) λiv s2 zq=>?_);let#[y,H2,I2,r2,q2]:=zq;show au^wpAny_standAt^au^wpAny_holding (c9 (hs u5 s2 σ H2 x y v ov iv u _ I2 r1 r2 r q2) λ_ s3 zq=>?_);let#[H3,I3,q3]:=zq;show wpAny_release #[σ,H3,I3,q3]
def RN(te:TE)(g:TG):TS:=λD σ H=>te σ H λx H1=>g x σ H1 D.nx
def tE(he:PE X e te)(hg:PG X tg g)(hs:swapsWithSole [tg] e pos.line X.env=pure false)(hw:swappedStores [tg] e X.env=pure none)(h1:(assignEach [tg] X.env).map (·.2)=[assign tg X.env]):PS X (.Assign [tg] e pos)^RN te g:=by intro u5 s σ H D I h;show wpAny_Assign_stores (c9 (he u5 s σ H _ I h) λv s1 zq=>?_) hs hw;let#[x,H1,I1,r1,q1]:=zq;rw[h1];show c9 (hg u5 s1 σ H1 x v _ I1 r1 q1) λ_ s2 q=>q
def Wz(hN:X.N.Nodup)(hi:X.N[i]?=some x)(hx:Loc X.env.scope x)(he:PE X e te)(hs:swapsWith e (some^.Name x pos') pos.line X.env=pure false:=by rfl)(hf:X.fn x=true\/X.env.scope.names.lookup x=some .local:=by walk_at "or"):
  PS X (.Assign [.Name x pos'] e pos)^RN te^iB i:=by intro u5 s σ H D I h;show wpAny_Assign_Name (c9 (he u5 s σ H _ I h) λv s1 zq=>?_) hs;let#[y,H1,I1,r1,q1]:=zq;show w6 I1 hN hi hx r1 (λs2 I2=>#[_,H1,I2,q1]) hf
def WA(i:Nat)(te:TE)(ti:Zg):TS:=λD σ H=>∃x,σ[i]?=some^some x/\te σ H λy H1=>ti x y H1 λz H2=>D.nx (σ.set i^some z) H2
def WB{op:Operator}{ti:Zg}(hN:X.N.Nodup)(hi:X.N[i]?=some x)(hx:Loc X.env.scope x)(he:PE X e te)(ho:PIp X op ti)(hf:X.fn x=true\/X.env.scope.names.lookup x=some .local:=by walk_at "or"):
  PS X (.AugAssign (.Name x pos') op e pos)^WA i te ti:=by
 intro u5 s σ H D I h;let#[v,e1,h]:=h;let#[m,hn,hl]:=I.loc;have vis:Vis X.env.scope x:=by rcases hx with k|k;show .inl k;show .inr^.inl k
 let#[u,r,l]:=hl i x v hi e1 vis;show wpAny_AugAssign_Name ?_;have go:wpAny (model X.prog X.w) X.A (eval e X.env) (λw s₂=>wpAny (model X.prog X.w) X.A (inplaceOp op u w) (λr s₃=>wpAny (model X.prog X.w) X.A (storeName X.env x r) (λ_=>SP X u5 D .next) X.xe s₃) X.xe s₂) X.xe s:=by show c9 (he u5 s σ H _ I h) λw s1 zq=>?_;let#[y,H1,I1,r1,q1]:=zq;show c9 (ho u5 s1 σ H1 v y u w _ I1 r r1 q1) λz s2 zq=>?_;let#[zv,H2,I2,r2,q2]:=zq;show w6 I2 hN hi hx r2 (λs3 I3=>#[_,H2,I3,q2]) hf
 rcases l with⟨hk,hm⟩|⟨hk,c,hc,hcell⟩;show wpAny_loadName_local I.ok.kind hk hn hm go;rcases hk with hk|hk;show wpAny_loadName_cell I.ok.kind hk hc hcell go;rcases hx with k|k;have:X.env.scope.names.lookup x=some .free:=hk;rw[k] at this;cases this;have:X.env.scope.names.lookup x=some .free:=hk;rw[k] at this;cases this
def ipI(f:Int->Int->Int):Zg:=λx y H Q=>∃i j,x=.int i/\y=.int j/\Q (.int^f i j) H
def Nr:PIp X .Add (ipI λi j=>i+j):=by intro u5 s σ H x y v u Q I r1 r2 h;let#[i,j,e1,e2,q]:=h;subst e1;subst e2;let#[t,rfl]:=r1;let#[t',rfl]:=r2;show iadd_int #[.int _,H,I.tok _,#[_,rfl],q]
def WC:PIp X .Sub (ipI λi j=>i-j):=by intro u5 s σ H x y v u Q I r1 r2 h;let#[i,j,e1,e2,q]:=h;subst e1;subst e2;let#[t,rfl]:=r1;let#[t',rfl]:=r2;show isub_int #[.int _,H,I.tok _,#[_,rfl],q]
def Nt(c:TT)(tb:TS):TS:=λD σ H=>∃W:Nat->St->Hp->Prop,(∃m,W m σ H)/\∀m σ H,W m σ H ->
 c σ H λb H1=>if b=true then ∃N:St->Hp->Prop,(∀σ' H',N σ' H'->∃m',m'<m/\W m' σ' H')/\tb { D with nx:=N,ct:=N,bk:=D.nx } σ H1 else D.nx σ H1
def kR{tc:TT}(hp:PassesOwn (model X.prog X.w) X.A X.env X.xe)(hc:PT X c tc)(hb:CG X body tb):PS X (.While c body [] pos)^Nt tc tb:=by
 intro u5 s σ H D I h;let#[W,#[m0,w0],turn]:=h;show wpAny_While^codeAny_whileLoop (λn s'=>∃σ' H',Inv X u5 σ' H' s'/\W n σ' H') ?_ m0 #[σ,H,I,w0];rintro n s1 ⟨σ1,H1,I1,w1⟩;show wpAny_passesOwn hp (c9 (hc u5 s1 σ1 H1 _ I1^turn n σ1 H1 w1) λb s2 zq=>?_);let#[H2,I2,q2]:=zq;cases b with
 | true =>
  let#[N,hN,q2]:=q2;rw[if_pos rfl];show wpAny_passesOwn hp (c9 (hb u5 s2 σ1 H2 _ I2 q2) λf s3 q3=>?_);cases f with
  | next =>
   let#[σ3,H3,I3,n3]:=q3;let#[m',hm,w3]:=hN σ3 H3 n3;show#[m',hm,σ3,H3,I3,w3]
  | cont =>
   let#[σ3,H3,I3,n3]:=q3;let#[m',hm,w3]:=hN σ3 H3 n3;show#[m',hm,σ3,H3,I3,w3]
  | brk=>show q3
  | ret v=>show q3
 | false =>
  rw[if_neg lG];show wpAny_execs_nil #[σ1,H2,I2,q2]
end
structure It where
 go:Nat->Hp->Prop
 Na:Nat->Hp->V->Hp->Prop
 stop:Nat->Hp->Prop
def ig(X:Cx)(u5:List (Addr×Obj))(H:Hp)(b:Addr):Prop :=
 H b=none/\b≠X.env.locals/\b∉X.fs/\(b∈X.ex\/X.s₀.heap.objs.size<=b)/\(∀x c,X.env.cells.lookup x=some c->c≠b)/\∀p∈X.pn++u5,p.1≠b
def Inv.qk{σ:St}{H':Hp}(I:Inv X u5 σ H s)(hb:s.heap.objs.size<=b)(hn:H' b=none):ig X u5 H' b:=by show#[hn,kg^cC I.lt hb,I.ZN hb,.inr^bg I.sz hb,λx c e z=>?_,λp hp z=>?_];let#[v,q]:=I.cell x c e;show absurd (cC q.lt (by rw[z];show hb))^eV _;show absurd (cC (aH (I.pin p hp).1) (by rw[z];show hb))^eV _
structure Turn (P:Program) (w:World) (K:az) (tg:Expr) (J:It) (fp:List Addr) (it:Addr) (tn:Nat->Heap->Prop):Prop where
 mem:it∈fp
 obj:∀i h,tn i h->∀b∈fp,∃o,h.get? b=some o/\∀v,o.data≠.cell v
 keep:∀i h h',tn i h->(∀b∈fp,∀o,h.get? b=some o->h'.get? b=some o)->tn i h'
 item:∀(X:Cx),X.prog=P->X.w=w->X.K=K->X.calm=true->∀(i:Nat)(u5:List (Addr×Obj))(s:Shared)(σ:St)(H:Hp)(E:Value->Shared->Prop),Inv X u5 σ H s->(∀b∈fp,ig X u5 H b)->tn i s.heap->J.go i H ->
  wpAny (model P w) X.A (pyNext^.ref it) (λr s1=>∃u,r=some u /\
   wpAny (model P w) X.A (letOwnedTupleGo tg (.ref it) u) (λ_ s2=>∃x H',Inv X u5 σ H' s2/\RelV x u/\J.Na i H x H'/\tn (i+1) s2.heap/\∀b∈fp,H' b=none) E s1) E s
 done:∀(X:Cx),X.prog=P->X.w=w->X.K=K->X.calm=true->∀(i:Nat)(u5:List (Addr×Obj))(s:Shared)(σ:St)(H:Hp)(E:Value->Shared->Prop),Inv X u5 σ H s->(∀b∈fp,ig X u5 H b)->tn i s.heap->J.stop i H ->
  wpAny (model P w) X.A (pyNext^.ref it) (λr s1=>r=none/\Inv X u5 σ H s1) E s
 self:∀(A:Around)(i:Nat)(s:Shared)(Q:Value->Shared->Prop)(E:Value->Shared->Prop),tn i s.heap->Q (.ref it) s->wpAny (model P w) A (pyIter^.ref it) Q E s
abbrev TI:=St->Hp->(It->Hp->Prop)->Prop
def PIE(X:Cx)(u5:List (Addr×Obj))(σ:St)(tg:Expr)(R:It->Hp->Prop)(itv:Value)(s2:Shared):Prop :=
 ∃(it:Addr)(fp:List Addr)(tn:Nat->Heap->Prop)(J:It)(H':Hp),itv=.ref it/\Inv X u5 σ H' s2/\Turn X.prog X.w X.K tg J fp it tn/\tn 0 s2.heap/\(∀b∈fp,ig X u5 H' b)/\R J H'
def PI(X:Cx)(tg iter:Expr)(wi:TI):Prop :=
 ∀(u5:List (Addr×Obj))(s:Shared)(σ:St)(H:Hp)(R:It->Hp->Prop),Inv X u5 σ H s->wi σ H R ->
  wpAny (model X.prog X.w) X.A (eval iter X.env) (λv s1=>wpAny (model X.prog X.w) X.A (pyIter v) (PIE X u5 σ tg R) X.xe s1) X.xe s
def CP{o:Obj}{n:String}{vs:Array Value}(ho:s.heap.get? it=some o)(hc:o.cls=.type n)(hd:o.data=.fields vs)
    (hn:["enumerate", "zip", "dict_itemiterator", "dict_reverseitemiterator", "odict_iterator", "itertools.zip_longest", "itertools.pairwise"].contains n=false)(hQ:Q () s):wpAny M A (letOwnedTupleGo tg (.ref it) u) Q E s:=by
  unfold letOwnedTupleGo;cases tg<;>first
    | show aL hQ
    | (cases u<;>first
        | show aL hQ
        | (show au (wpAny_load ho ?_)
           rw[hc,hd];change wpAny M A (if(["enumerate", "zip", "dict_itemiterator", "dict_reverseitemiterator", "odict_iterator", "itertools.zip_longest", "itertools.pairwise"].contains n&&vs[0]?==some^rawInt _)=true then _ else _) Q E s;rw[if_neg (by intro h;rw[hn,wO] at h;cases h)];show aL hQ))
def Rt(K:az)(a:Addr):It :=
 #[λi H=>∃xs x,bG K H a xs/\xs[i]?=some x,λi H x H'=>H'=H/\∀xs,bG K H a xs->xs[i]?=some x,λi H=>∃xs,bG K H a xs/\xs.length<=i]
def RO(K:az)(a:Addr):It :=
 #[λi H=>∃xs x,dJ K H a xs/\xs[i]?=some x,λi H x H'=>H'=H/\∀xs,dJ K H a xs->xs[i]?=some x,λi H=>∃xs,dJ K H a xs/\xs.length<=i]
def qL(lo:Int)(n:Nat):It:=#[λi _=>i<n,λi H x H'=>H'=H/\x=.int (lo+i),λi _=>n<=i]
theorem Kx(a it:Addr):Turn P w K tg (Rt K a) [it] it (λi h=>h.IsListIter it a i) where
 mem:=by simp
 obj:=λi h st b hb=>by
  have e:b=it:=by simpa using hb
  subst e;let#[o,e,c,d]:=st;show#[o,e,λv z=>by rw[d] at z;cases z]
 keep:=λi h h' st k=>st.at λo e=>k it (by simp) o e
 item:=by intro X hP hw hK hc i u5 s σ H E I hf st hg;subst hP hw hK;let#[xs,x,hq,hx]:=hg;let#[its,rv,p,hz]:=I.list hq;let#[u,hu,ru]:=rv.get hx;let#[f0,f1,f2,f3,f4,f5]:=hf it (by simp);show wpAny_pyNext_list_item st p.isList (x:=u) (by simpa using hu) λh' st' sb=>?_;have I1:Inv X u5 σ H { s with heap:=h' }:=I.turned (t':=s.toks) (λb o hb e=>(sb.2 b hb).trans e) f0 f1 f3 f4 f5;let#[o,e,c,d]:=id st';show#[u,rfl,CP (s:={ s with heap:=h' }) e c d (by decide) #[x,H,I1,ru,#[rfl,λys hy=>by rw[I.Nn hy hq];show hx],st',λb hb=>(hf b hb).1]]
 done:=by intro X hP hw hK hc i u5 s σ H E I hf st hg;subst hP hw hK;let#[xs,hq,hx]:=hg;let#[its,rv,p,hz]:=I.list hq;let#[f0,f1,f2,f3,f4,f5]:=hf it (by simp);have hl:=rv.length;show wpAny_pyNext_list_end (I.ok.hd hc) st p.isList (by simp;lia) λh' eb=>#[rfl,I.turned (t':=s.toks) (λb o hb e=>eb b o hb e) f0 f1 f3 f4 f5]
 self:=λ_ _ _ _ _ st h=>wpAny_pyIter_listiter st h
theorem F2(a it:Addr):Turn P w K tg (RO K a) [it] it (λi h=>h.IsTupleIter it a i) where
 mem:=by simp
 obj:=λi h st b hb=>by
  have e:b=it:=by simpa using hb
  subst e;let#[o,e,c,d]:=st;show#[o,e,λv z=>by rw[d] at z;cases z]
 keep:=λi h h' st k=>st.at λo e=>k it (by simp) o e
 item:=by intro X hP hw hK hc i u5 s σ H E I hf st hg;subst hP hw hK;let#[xs,x,hq,hx]:=hg;let#[its,rv,p,hz]:=I.tuple hq;let#[u,hu,ru]:=rv.get hx;let#[f0,f1,f2,f3,f4,f5]:=hf it (by simp);show wpAny_pyNext_tuple_item st (show s.heap.IsTuple a its.toArray from p) (x:=u) (by simpa using hu) λh' st' sb=>?_;have I1:Inv X u5 σ H { s with heap:=h' }:=I.turned (t':=s.toks) (λb o hb e=>(sb.2 b hb).trans e) f0 f1 f3 f4 f5;let#[o,e,c,d]:=id st';show#[u,rfl,CP (s:={ s with heap:=h' }) e c d (by decide) #[x,H,I1,ru,#[rfl,λys hy=>by rw[I.zW hy hq];show hx],st',λb hb=>(hf b hb).1]]
 done:=by intro X hP hw hK hc i u5 s σ H E I hf st hg;subst hP hw hK;let#[xs,hq,hx]:=hg;let#[its,rv,p,hz]:=I.tuple hq;let#[f0,f1,f2,f3,f4,f5]:=hf it (by simp);have hl:=rv.length;show wpAny_pyNext_tuple_end (I.ok.hd hc) st (show s.heap.IsTuple a its.toArray from p) (by simp;lia) λh' eb=>#[rfl,I.turned (t':=s.toks) (λb o hb e=>eb b o hb e) f0 f1 f3 f4 f5]
 self:=λ_ _ _ _ _ st h=>wpAny_pyIter_tupleiter st h
theorem F3(it:Addr)(lo:Int)(n:Nat):Turn P w K tg (qL lo n) [it] it (λi h=>IsRangeIter h it (lo+(i:Nat)*1) ((n:Int)-(i:Nat)) 1) where
 mem:=by simp
 obj:=λi h st b hb=>by
  have e:b=it:=by simpa using hb
  subst e;show#[_,st,λv z=>by
   have z':Data.fields _=Data.cell v:=z;cases z']
 keep:=λi h h' st k=>k it (by simp) _ st
 item:=by intro X hP hw hK hc i u5 s σ H E I hf st hg;subst hP hw hK;let#[f0,f1,f2,f3,f4,f5]:=hf it (by simp);have W:=Walks.range (prog:=X.prog) (w:=X.w) (I.ok.hd hc) it lo 1 n;show W.item i s _ _ hg st λv h' tk hv st' kk=>?_;let#[t,rfl]:=hv;have I1:Inv X u5 σ H { s with heap:=h',toks:=tk }:=I.turned (λb o hb e=>kk b o (by simpa using hb) e) f0 f1 f3 f4 f5;show#[_,rfl,CP (s:={ s with heap:=h',toks:=tk }) (n := "range_iterator") st' rfl rfl (by decide) #[.int (lo+i),H,I1,#[t,?_],#[rfl,rfl],st',λb hb=>(hf b hb).1]];rw[Int.mul_one]
 done:=by intro X hP hw hK hc i u5 s σ H E I hf st hg;subst hP hw hK;let#[f0,f1,f2,f3,f4,f5]:=hf it (by simp);show wpAny_pyNext_range_end (I.ok.hd hc) st (by have:n<=i:=hg;lia) λh' eb=>#[rfl,I.turned (t':=s.toks) (λb o hb e=>eb b o hb e) f0 f1 f3 f4 f5]
 self:=λ_ _ _ _ _ st h=>wpAny_pyIter_rangeiter st h
section
variable {X:Cx}
def Nu(K:az)(tl:TE):TI:=λσ H R=>tl σ H λx H1=>∃a,x=.ref a/\(∃xs,bG K H1 a xs)/\R (Rt K a) H1
def Z1(K:az)(tl:TE):TI:=λσ H R=>tl σ H λx H1=>∃a,x=.ref a/\(∃xs,dJ K H1 a xs)/\R (RO K a) H1
def bS{l:Expr}{tl:TE}(hl:PE X l tl):PI X tg l^Nu X.K tl:=by
 intro u5 s σ H R I h;show c9 (hl u5 s σ H _ I h) λv s1 zq=>?_;let#[x,H1,I1,r1,q1]:=zq;let#[a,e,#[xs,hq],q]:=q1;subst e;cases r1;let#[its,rv,p,hz]:=I1.list hq;show wpAny_pyIter_list p.isList ?_;show#[s1.heap.objs.size,[s1.heap.objs.size],_,_,H1,rfl,I1.kept (t':=s1.toks) λb o e=>dY _ e,Kx a _,#[_,iI _ rfl,rfl,rfl],λb hb=>?_,q];have e:b=s1.heap.objs.size:=by simpa using hb
 subst e;show I1.qk (av _)^I1.hok.fresh^av _
def F4{l:Expr}{tl:TE}(hl:PE X l tl):PI X tg l^Z1 X.K tl:=by
 intro u5 s σ H R I h;show c9 (hl u5 s σ H _ I h) λv s1 zq=>?_;let#[x,H1,I1,r1,q1]:=zq;let#[a,e,#[xs,hq],q]:=q1;subst e;cases r1;let#[its,rv,p,hz]:=I1.tuple hq;show wpAny_pyIter_tuple (show s1.heap.IsTuple a its.toArray from p) ?_;show#[s1.heap.objs.size,[s1.heap.objs.size],_,_,H1,rfl,I1.kept (t':=s1.toks) λb o e=>dY _ e,F2 a _,#[_,iI _ rfl,rfl,rfl],λb hb=>?_,q];have e:b=s1.heap.objs.size:=by simpa using hb
 subst e;show I1.qk (av _)^I1.hok.fresh^av _
theorem CQ{σ:St}{R:It->Hp->Prop}{lo hi:Int}{t u v:Tok}{tk:Nat}(I:Inv X u5 σ H s)(h1:-(2 ^ 62)<=lo)(h2:lo<2 ^ 62)(h3:-(2 ^ 62)<=hi)(h4:hi<2 ^ 62)
  (q:R (qL lo (hi-lo).toNat) H):wpAny (model X.prog X.w) X.A (pyIter^.ref s.heap.objs.size) (PIE X u5 σ tg R) E { s with heap:=s.heap.push { cls:=.type "range", data:=.fields #v[.int lo t,.int hi u,.int 1 v] },toks:=tk }:=by
 show wpAny_pyIter_range (IsRange.new ..) (small_one h1 h2 h3 h4) ?_;have I1:Inv X u5 σ H { s with heap:=s.heap.push { cls:=.type "range", data:=.fields #v[.int lo t,.int hi u,.int 1 v] },toks:=tk }:=I.kept λb o e=>dY _ e;show#[(s.heap.push { cls:=.type "range", data:=.fields #v[.int lo t,.int hi u,.int 1 v] }).objs.size,[(s.heap.push { cls:=.type "range", data:=.fields #v[.int lo t,.int hi u,.int 1 v] }).objs.size],_,_,H,rfl,
  I1.kept (t':=tk) λb o e=>dY _ e,F3 _ lo (hi-lo).toNat,?_,λb hb=>?_,q]
 .have e1:lo+((0:Nat):Int)*1=lo:=by simp
  have e2:(((hi-lo).toNat:Nat):Int)-((0:Nat):Int)=Builtin.Range.rangeSize lo hi 1:=by rw[rangeSize_one];split<;>lia
  change IsRangeIter _ _ (lo+((0:Nat):Int)*1) ((((hi-lo).toNat:Nat):Int)-((0:Nat):Int)) 1;rw[e1,e2];show iI _ rfl
 .have e:b=(s.heap.push { cls:=.type "range", data:=.fields #v[.int lo t,.int hi u,.int 1 v] }).objs.size:=by simpa using hb
  subst e;show I1.qk (av _)^I1.hok.fresh^av _
def UR(ta:TA):TI:=λσ H R=>ta σ H λvs H1=>∃j:Int,vs=[.int j] /\ -(2 ^ 62)<=j/\j<2 ^ 62/\R (qL 0 j.toNat) H1
def US(ta:TA):TI:=λσ H R=>ta σ H λvs H1=>∃i j:Int,vs=[.int i,.int j]/\(-(2 ^ 62)<=i/\i<2 ^ 62 /\ -(2 ^ 62)<=j/\j<2 ^ 62)/\R (qL i (j-i).toNat) H1
theorem gu{a:Expr}{ta:TA}(hg:Gl X "range")(hm:X.mg "range" = none)(ha:PA X [a] ta)(hs:starEach [a] X.env=[(false,eval a X.env)]):PI X tg (.Call (.Name "range" p) [a] [] pos)^UR ta:=by
 intro u5 s σ H R I h;show Call_^iA I hg hm boot_range^i6 (c9 (ha pos u5 s σ H _ I h) λus s1 zq=>?_) hs rfl;let#[vs,H1,I1,r1,q1]:=zq;let#[j,e,q1,q2,q]:=q1;subst e;cases r1 with
 | cons r rr =>
  cases rr;let#[t,rfl]:=r;show call_range_1 (CQ I1 ∅ ∅ q1 q2 (by simpa using q))
def zX{a b:Expr}{ta:TA}(hg:Gl X "range")(hm:X.mg "range" = none)(ha:PA X [a,b] ta)(hs:starEach [a,b] X.env=[(false,eval a X.env),(false,eval b X.env)])(hs2:starEach [b] X.env=[(false,eval b X.env)]):
  PI X tg (.Call (.Name "range" p) [a,b] [] pos)^US ta:=by
 intro u5 s σ H R I h;show Call_^iA I hg hm boot_range^i6 (c9 (ha pos u5 s σ H _ I h) λus s1 zq=>?_) (by rw[hs,hs2]) (by rw[hs2];rfl);let#[vs,H1,I1,r1,q1]:=zq;let#[i,j,e,#[q1,q2,q3,q4],q]:=q1;subst e;cases r1 with
 | cons r rr =>
  cases rr with
  | cons r' rr =>
   cases rr;let#[t,rfl]:=r;let#[t',rfl]:=r';show call_range_2^CQ I1 q1 q2 q3 q4 q
def Z2(wi:TI)(g:TG)(tb:TS):TS:=λD σ H=>wi σ H λJ H1=>∃W:Nat->Nat->St->Hp->Prop,(∃m,W 0 m σ H1)/\∀i m σ H,W i m σ H ->
 (J.stop i H/\D.nx σ H)\/(J.go i H/\∃N:St->Hp->Prop,(∀σ' H',N σ' H'->∃m',m'<m/\W (i+1) m' σ' H')/\∀x H',J.Na i H x H'->g x σ H' λσ2 H2=>tb { D with nx:=N,ct:=N,bk:=D.nx } σ2 H2)
noncomputable def tF(fp:List Addr)(h:Heap):List (Addr×Obj):=fp.filterMap λb=>(h.get? b).map λo=>(b,o)
def iR{o:Obj}(hb:b∈fp)(e:h.get? b=some o):(b,o)∈tF fp h:=List.mem_filterMap.mpr #[b,hb,by rw[e];rfl]
def zY{p:Addr×Obj}(hp:p∈tF fp h):p.1∈fp/\h.get? p.1=some p.2:=by
 let#[b,hb,e]:=List.mem_filterMap.mp hp;cases q:h.get? b with
 | none=>rw[q] at e;cases e
 | some o =>
  rw[q] at e;have e':(b,o)=p:=Option.some.inj e;subst e';show#[hb,q]
def Inv.pinned{σ:St}(I:Inv X u5 σ H s)(hf:∀b∈fp,ig X u5 H b)(ho:∀b∈fp,∃o,s.heap.get? b=some o/\∀v,o.data≠.cell v):Inv X (u5++tF fp s.heap) σ H s :=
 I.vU λp hp=>(aJ.mp hp).elim (λz=>I.pin p^dZ _ z) λz=>by let#[hb,e]:=zY z;let#[f0,f1,f2,_]:=hf p.1 hb;let#[o,e',d]:=ho p.1 hb;rw[e] at e';cases e';show#[e,f0,f1,f2,d]
def Inv.qQ{pl:List (Addr×Obj)}{σ:St}(I:Inv X (u5++pl) σ H s):Inv X u5 σ H s:=I.vU λp hp=>I.pin p^dZ _^iw _ hp
def dw{iter:Expr}{wi:TI}(hp:PassesOwn (model X.prog X.w) X.A X.env X.xe)(hc:X.calm=true)(hi:PI X tg iter wi)(hg:PG X tg g)(hb:CG X body tb)
  (hs:∀x,foldedSetIterable iter X.env x=pure x:=by walk_at "ir"):PS X (.For tg iter body [] pos)^Z2 wi g tb:=by
 intro u5 s σ H D I h;show wpAny_For (c9 (hi u5 s σ H _ I h) λv s1 h1=>c9 h1 λitv s2 h2=>?_) hs;let#[it,fp,tn,J,H2,e,I2,T,st2,f2,W,#[m0,w0],turn]:=h2;subst e;have F5:∀{H':Hp},(∀b∈fp,H' b=none)->∀b∈fp,ig X u5 H' b:=λhn b hb=>#[hn b hb,(f2 b hb).2];show codeAny_forLoop_any (λn s'=>∃i σ' H',Inv X u5 σ' H' s'/\tn i s'.heap/\(∀b∈fp,H' b=none)/\W i n σ' H') ?_ m0 #[0,σ,H2,I2,st2,λb hb=>(f2 b hb).1,w0];rintro n s3 ⟨i,σ3,H3,I3,st3,Z3,w3⟩;rcases turn i n σ3 H3 w3 with⟨stop,qn⟩|⟨go,N,hN,step⟩
 .show wpAny_passesOwn hp (c9 (T.done X rfl rfl rfl hc i u5 s3 σ3 H3 X.xe I3 (F5 Z3) st3 stop) λr s4 zq=>?_);let#[hr,I4]:=zq;subst hr;show wpAny_execs_nil #[σ3,H3,I4,qn]
 .show wpAny_passesOwn hp (c9 (T.item X rfl rfl rfl hc i u5 s3 σ3 H3 X.xe I3 (F5 Z3) st3 go) λr s4 zq=>?_);let#[u,hr,h4]:=zq;subst hr;show wpAny_passesOwn hp (c9 h4 λ_ s5 zq=>?_);let#[x,H5,I5,r5,y5,RP,fr5]:=zq;have I5':=I5.pinned (F5 fr5)^T.obj _ _ RP;show wpAny_passesOwn hp (c9 (hg _ s5 σ3 H5 x u _ I5' r5^step x H5 y5) λ_ s6 zq=>?_);let#[σ6,H6,I6,q6]:=zq;show wpAny_passesOwn hp (c9 (hb _ s6 σ6 H6 _ I6 q6) λf s7 q7=>?_);have again:∀{σ7:St}{H7:Hp},Inv X (u5++tF fp s5.heap) σ7 H7 s7->N σ7 H7->∃m,m<n/\∃i σ' H',Inv X u5 σ' H' s7/\tn i s7.heap/\(∀b∈fp,H' b=none)/\W i m σ' H':=λ{σ7 H7} I7 n7=>by let#[m',hm,w7]:=hN σ7 H7 n7;show#[m',hm,i+1,σ7,H7,I7.qQ,T.keep _ _ _ RP λb hb o e=>(I7.pin (b,o)^dZ _^dZ _^iR hb e).1,λb hb=>?_,w7];let#[o,e,d]:=T.obj _ _ RP b hb;show(I7.pin (b,o)^dZ _^dZ _^iR hb e).2.1
  cases f with
  | next=>let#[σ7,H7,I7,n7]:=q7;show again I7 n7
  | cont=>let#[σ7,H7,I7,n7]:=q7;show again I7 n7
  | brk=>let#[σ7,H7,I7,q7]:=q7;show#[σ7,H7,I7.qQ,q7]
  | ret v=>let#[x7,σ7,H7,I7,r7,q7]:=q7;show#[x7,σ7,H7,I7.qQ,r7,q7]
end
theorem Nv{σ:St}(Pv:Nat->St->Hp->Prop)(h0:Pv 0 σ H)(hl:∀i σ H,i<=xs.length->Pv i σ H->bG K H a xs)
  (hs:∀i x σ H,xs[i]?=some x->Pv i σ H->g x σ H λσ2 H2=>tb { D with nx:=Pv (i+1),ct:=Pv (i+1),bk:=D.nx } σ2 H2)(hd:∀σ H,Pv xs.length σ H->D.nx σ H):
  ∃W:Nat->Nat->St->Hp->Prop,(∃m,W 0 m σ H)/\∀i m σ H,W i m σ H ->
   ((Rt K a).stop i H/\D.nx σ H)\/((Rt K a).go i H/\∃N:St->Hp->Prop,(∀σ' H',N σ' H'->∃m',m'<m/\W (i+1) m' σ' H')/\∀x H',(Rt K a).Na i H x H'->g x σ H' λσ2 H2=>tb { D with nx:=N,ct:=N,bk:=D.nx } σ2 H2):=by show#[λi m σ H=>m=xs.length-i/\i<=xs.length/\Pv i σ H,#[xs.length,by simp,aM _,h0],?_];rintro i m σ H ⟨rfl,hi,p⟩;have q:=hl i σ H hi p;by_cases hlt:i<xs.length;show .inr #[#[xs,xs[i],q,by simp[hlt]],Pv (i+1),λσ' H' p'=>#[xs.length-(i+1),∅,rfl,hlt,p'],λx H' y=>?_];let#[e,y]:=y;subst e;show hs i x σ _ (y xs q) p;have e:i=xs.length:=∅;subst e;show .inl #[#[xs,q,av _],hd σ H p]
theorem RQ{σ:St}(Pv:Nat->St->Hp->Prop)(h0:Pv 0 σ H)(hl:∀i σ H,i<=xs.length->Pv i σ H->dJ K H a xs)
  (hs:∀i x σ H,xs[i]?=some x->Pv i σ H->g x σ H λσ2 H2=>tb { D with nx:=Pv (i+1),ct:=Pv (i+1),bk:=D.nx } σ2 H2)(hd:∀σ H,Pv xs.length σ H->D.nx σ H):
  ∃W:Nat->Nat->St->Hp->Prop,(∃m,W 0 m σ H)/\∀i m σ H,W i m σ H ->
   ((RO K a).stop i H/\D.nx σ H)\/((RO K a).go i H/\∃N:St->Hp->Prop,(∀σ' H',N σ' H'->∃m',m'<m/\W (i+1) m' σ' H')/\∀x H',(RO K a).Na i H x H'->g x σ H' λσ2 H2=>tb { D with nx:=N,ct:=N,bk:=D.nx } σ2 H2):=by show#[λi m σ H=>m=xs.length-i/\i<=xs.length/\Pv i σ H,#[xs.length,by simp,aM _,h0],?_];rintro i m σ H ⟨rfl,hi,p⟩;have q:=hl i σ H hi p;by_cases hlt:i<xs.length;show .inr #[#[xs,xs[i],q,by simp[hlt]],Pv (i+1),λσ' H' p'=>#[xs.length-(i+1),∅,rfl,hlt,p'],λx H' y=>?_];let#[e,y]:=y;subst e;show hs i x σ _ (y xs q) p;have e:i=xs.length:=∅;subst e;show .inl #[#[xs,q,av _],hd σ H p]
theorem Ky{lo:Int}{σ:St}(Pv:Nat->St->Hp->Prop)(h0:Pv 0 σ H)
  (hs:∀i σ H,i<n->Pv i σ H->g (.int (lo+i)) σ H λσ2 H2=>tb { D with nx:=Pv (i+1),ct:=Pv (i+1),bk:=D.nx } σ2 H2)(hd:∀σ H,Pv n σ H->D.nx σ H):
  ∃W:Nat->Nat->St->Hp->Prop,(∃m,W 0 m σ H)/\∀i m σ H,W i m σ H ->
   ((qL lo n).stop i H/\D.nx σ H)\/((qL lo n).go i H/\∃N:St->Hp->Prop,(∀σ' H',N σ' H'->∃m',m'<m/\W (i+1) m' σ' H')/\∀x H',(qL lo n).Na i H x H'->g x σ H' λσ2 H2=>tb { D with nx:=N,ct:=N,bk:=D.nx } σ2 H2):=by show#[λi m σ H=>m=n-i/\i<=n/\Pv i σ H,#[n,by simp,aM _,h0],?_];rintro i m σ H ⟨rfl,hi,p⟩;by_cases hlt:i<n;show .inr #[hlt,Pv (i+1),λσ' H' p'=>#[n-(i+1),∅,rfl,hlt,p'],λx H' y=>?_];let#[e,y]:=y;subst e y;show hs i σ _ hlt p;have e:i=n:=∅;subst e;show .inl #[av _,hd σ H p]
abbrev R2:=V->V->Hp->VK->Prop
def nu(X:Cx)(f:Value->Value->Sem Value)(r:R2):Prop :=
 ∀(u5:List (Addr×Obj))(s:Shared)(σ:St)(H:Hp)(x y:V)(v u:Value)(Q:VK),Inv X u5 σ H s->RelV x v->RelV y u->r x y H Q ->
  wpAny (model X.prog X.w) X.A (f v u) (EP X u5 σ Q) X.xe s
def UnR(X:Cx)(f:Value->Sem Value)(r:V->Hp->VK->Prop):Prop :=
 ∀(u5:List (Addr×Obj))(s:Shared)(σ:St)(H:Hp)(x:V)(v:Value)(Q:VK),Inv X u5 σ H s->RelV x v->r x H Q ->
  wpAny (model X.prog X.w) X.A (f v) (EP X u5 σ Q) X.xe s
def dP(X:Cx)(f:Value)(r:List V->Hp->VK->Prop):Prop :=
 ∀(u5:List (Addr×Obj))(s:Shared)(σ:St)(H:Hp)(xs:List V)(us:List Value)(Q:VK),Inv X u5 σ H s->Vals xs us->r xs H Q ->
  wpAny (model X.prog X.w) X.A (call f us) (EP X u5 σ Q) X.xe s
def ae0(X:Cx)(r:V->Hp->(Bool->Hp->Prop)->Prop):Prop :=
 ∀(u5:List (Addr×Obj))(s:Shared)(σ:St)(H:Hp)(x:V)(v:Value)(Q:Bool->Hp->Prop),Inv X u5 σ H s->RelV x v->r x H Q ->
  wpAny (model X.prog X.w) X.A (truthy v) (TP X u5 σ Q) X.xe s
def RS(r:R2)(ta tb:TE):TE:=λσ H Q=>ta σ H λx H1=>tb σ H1 λy H2=>r x y H2 Q
def tUn(r:V->Hp->VK->Prop)(ta:TE):TE:=λσ H Q=>ta σ H λx H1=>r x H1 Q
def rI(C:Int->Int->Prop)(g:Int->Int->V):R2:=λx y H Q=>∃i j,x=.int i/\y=.int j/\C i j/\Q (g i j) H
def RT(g:Int->Int->V):R2:=λx y H Q=>∃i j,x=.int i/\y=.int j/\Q (g i j) H
def rU(g:Int->V):V->Hp->VK->Prop:=λx H Q=>∃i,x=.int i/\Q (g i) H
section
variable {X:Cx}{a b:Expr}{ta tb tc:TE}
def WD(ha:PE X a ta)(hb:PE X b tb){σ:St}{R:V->V->Hp->Prop}(I:Inv X u5 σ H s)
  (h:ta σ H λx H1=>tb σ H1 λy H2=>R x y H2){Q:Value->Shared->Prop}
  (hf:∀v u s2 x y H2,Inv X u5 σ H2 s2->RelV x v->RelV y u->R x y H2->wpAny (model X.prog X.w) X.A (f v u) Q X.xe s2):
  wpAny (model X.prog X.w) X.A (eval a X.env) (λv s₁=>wpAny (model X.prog X.w) X.A (eval b X.env) (λu s₂=>wpAny (model X.prog X.w) X.A (f v u) Q X.xe s₂) X.xe s₁) X.xe s:=by show c9 (ha u5 s σ H _ I h) λv s1 zq=>?_;let#[x,H1,I1,r1,q1]:=zq;show c9 (hb u5 s1 σ H1 _ I1 q1) λu s2 zq=>?_;let#[y,H2,I2,r2,q2]:=zq;show hf v u s2 x y H2 I2 r1 r2 q2
def aB{op:Operator}(ho:nu X (binaryOp op) r)(ha:PE X a ta)(hb:PE X b tb):PE X (.BinOp a op b pos)^RS r ta tb:=by intro u5 s σ H Q I h;show wpAny_BinOp (WD ha hb I h λv u s2 x y H2 I2 rx ry q=>ho u5 s2 σ H2 x y v u Q I2 rx ry q)
def Ir{op:UnaryOp}{r:V->Hp->VK->Prop}(ho:UnR X (unaryOp op) r)(ha:PE X a ta):PE X (.UnaryOp op a pos)^tUn r ta:=by intro u5 s σ H Q I h;show UnaryOp_ (c9 (ha u5 s σ H _ I h) λv s1 zq=>?_);let#[x,H1,I1,r1,q1]:=zq;show ho u5 s1 σ H1 x v Q I1 r1 q1
def Z4{C:Int->Int->Prop}{g:Int->Int->Int}
  (rule:∀(i j:Int)(t u:Tok)(s:Shared)(Q:Value->Shared->Prop)(E:Value->Shared->Prop),C i j->Q (.int (g i j) s.toks) { s with toks:=s.toks+1 }->wpAny (model X.prog X.w) X.A (f (.int i t)^.int j u) Q E s):
  nu X f (rI C λi j=>.int^g i j):=by intro u5 s σ H x y v u Q I rx ry h;let#[i,j,rfl,rfl,hc,q]:=h;let#[t,rfl]:=rx;let#[t',rfl]:=ry;show rule i j t t' s _ _ hc #[.int^g i j,H,I.tok _,#[_,rfl],q]
def Z5{g:Int->Int->Int}
  (rule:∀(i j:Int)(t u:Tok)(s:Shared)(Q:Value->Shared->Prop)(E:Value->Shared->Prop),Q (.int (g i j) s.toks) { s with toks:=s.toks+1 }->wpAny (model X.prog X.w) X.A (f (.int i t)^.int j u) Q E s):
  nu X f (RT λi j=>.int^g i j):=by intro u5 s σ H x y v u Q I rx ry h;let#[i,j,rfl,rfl,q]:=h;let#[t,rfl]:=rx;let#[t',rfl]:=ry;show rule i j t t' s _ _ #[.int^g i j,H,I.tok _,#[_,rfl],q]
def RU{g:Int->Int->Bool}
  (rule:∀(i j:Int)(t u:Tok)(s:Shared)(Q:Value->Shared->Prop)(E:Value->Shared->Prop),Q (.bool^g i j) s->wpAny (model X.prog X.w) X.A (f (.int i t)^.int j u) Q E s):
  nu X f (RT λi j=>.bl^g i j):=by intro u5 s σ H x y v u Q I rx ry h;let#[i,j,rfl,rfl,q]:=h;let#[t,rfl]:=rx;let#[t',rfl]:=ry;show rule i j t t' s _ _ #[.bl^g i j,H,I,rfl,q]
def ae1(i j:Int):Prop:=0<j/\j<1073741824
def ae2(i j:Int):Prop:=0<=j/\j<=1000000/\i.natAbs<2 ^ 64
def WE(i j:Int):Prop:=(-(2 ^ 64)<i/\i<2 ^ 64)\/(-(2 ^ 64)<j/\j<2 ^ 64)
def WE.ok{i j:Int}(h:WE i j):IntMulOk i j:=by rcases h with⟨h1,h2⟩|⟨h1,h2⟩;show .of_left^intBits_le_64 h1 h2;show .of_right^intBits_le_64 h1 h2
def cQ:nu X (binaryOp .Add) (RT λi j=>.int (i+j)):=Z5 λ_ _ _ _ _ _ _ q=>add_int q
def kM:nu X (binaryOp .Sub) (RT λi j=>.int (i-j)):=Z5 λ_ _ _ _ _ _ _ q=>sub_int q
def lR:nu X (binaryOp .Mult) (rI WE λi j=>.int (i*j)):=Z4 λ_ _ _ _ _ _ _ hc q=>mul_int q hc.ok
theorem cH:nu X (binaryOp .FloorDiv) (rI ae1 λi j=>.int (i / j)):=Z4 λi j _ _ _ _ _ hc q=>by have h1:(0:Int)<j:=hc.1;have h2:j<1073741824:=hc.2;show floordiv_int ∅ (by rw[Int.fdiv_eq_ediv_of_nonneg i ∅];show q) (.inl (PyProof.noPylong_small ∅))
theorem bH:nu X (binaryOp .Mod) (rI (λ_ j=>0<j) λi j=>.int (i % j)):=Z4 λi j _ _ _ _ _ hc q=>by have h1:(0:Int)<j:=hc;show mod_int' ∅ (by rw[Int.fmod_eq_emod_of_nonneg i ∅];show q)
def F6:nu X (binaryOp .Pow) (rI ae2 λi j=>.int^HPow.hPow i j.toNat):=Z4 λ_ _ _ _ _ _ _ hc q=>pow_int_small hc.1 hc.2.1 hc.2.2 q
def unI{f:Value->Sem Value}{g:Int->Int}
  (rule:∀(i:Int)(t:Tok)(s:Shared)(Q:Value->Shared->Prop)(E:Value->Shared->Prop),Q (.int (g i) s.toks) { s with toks:=s.toks+1 }->wpAny (model X.prog X.w) X.A (f^.int i t) Q E s):
  UnR X f (rU λi=>.int^g i):=by intro u5 s σ H x v Q I rx h;let#[i,rfl,q]:=h;let#[t,rfl]:=rx;show rule i t s _ _ #[.int^g i,H,I.tok _,#[_,rfl],q]
def Bb:UnR X (unaryOp .USub) (rU λi=>.int (-i)):=unI λ_ _ _ _ _ q=>neg_int q
end
noncomputable def Z6:V->V->Bool
 | .eW,.eW=>true|.eW,.int _=>true|.int _,.eW=>true|.eW,.bl _=>true|.bl _,.eW=>true|.eW,.str _=>true|.str _,.eW=>true
 | .int _,.int _=>true|.bl _,.bl _=>true|.str _,.str _=>true|.Kv _,.Kv _=>true
 | .int _,.str _=>true|.str _,.int _=>true|.bl _,.str _=>true|.str _,.bl _=>true
 | _,_=>false
def rEq:R2:=λx y H Q=>Z6 x y=true/\Q (.bl (decide (x=y))) H
def rNe:R2:=λx y H Q=>Z6 x y=true/\Q (.bl (!decide (x=y))) H
def Iu{i j:Int}:decide (V.int i=V.int j)=(i==j):=by rw[Bool.eq_iff_iff];simp
def Nx{i j:Bool}:decide (V.bl i=V.bl j)=(i==j):=by rw[Bool.eq_iff_iff];simp
def Iv{i j:Str}:decide (V.str i=V.str j)=(i==j):=by rw[Bool.eq_iff_iff];simp
def Iw{i j:Array UInt8}:decide (V.Kv i=V.Kv j)=(i.toList==j.toList):=by rw[Bool.eq_iff_iff];cases i;cases j;simp
section
variable {X:Cx}{a b:Expr}{ta tb tc:TE}
def cJ{σ:St}{Q:VK}{k k':Bool}(I:Inv X u5 σ H s)(q:Q (.bl k) H)(e:k=k'):EP X u5 σ Q (.bool k') s:=by subst e;show#[.bl k,H,I,rfl,q]
def fu:nu X (compareOp .Eq) rEq:=by
 intro u5 s σ H x y v u Q I rx ry h;let#[hs,q]:=h;cases x with
 | eW =>
  cases rx;cases y with
  | eW=>cases ry;show PySem.EqNone.eq_none_none (cJ I q^by simp)
  | bl j=>cases ry;show PySem.EqNone.eq_none_bool (cJ I q^by simp)
  | int j=>let#[t',rfl]:=ry;show PySem.EqNone.eq_none_int (cJ I q^by simp)
  | str j=>let#[t',rfl]:=ry;show PySem.EqNone.eq_none_str (cJ I q^by simp)
  | _=>show absurd (show false=true from hs) lG
 | bl i =>
  cases rx;cases y with
  | eW=>cases ry;show PySem.EqNone.eq_bool_none (cJ I q^by simp)
  | bl j=>cases ry;show eq_bool^cJ I q Nx
  | str j=>let#[t',rfl]:=ry;show PySem.EqMixed.eq_bool_str (cJ I q^by simp)
  | _=>show absurd (show false=true from hs) lG
 | int i =>
  let#[t,rfl]:=rx;cases y with
  | eW=>cases ry;show PySem.EqNone.eq_int_none (cJ I q^by simp)
  | int j=>let#[t',rfl]:=ry;show eq_int^cJ I q Iu
  | str j=>let#[t',rfl]:=ry;show PySem.EqMixed.eq_int_str (cJ I q^by simp)
  | _=>show absurd (show false=true from hs) lG
 | str i =>
  let#[t,rfl]:=rx;cases y with
  | eW=>cases ry;show PySem.EqNone.eq_str_none (cJ I q^by simp)
  | bl j=>cases ry;show PySem.EqMixed.eq_str_bool (cJ I q^by simp)
  | int j=>let#[t',rfl]:=ry;show PySem.EqMixed.eq_str_int (cJ I q^by simp)
  | str j=>let#[t',rfl]:=ry;show eq_str^cJ I q Iv
  | _=>show absurd (show false=true from hs) lG
 | Kv i =>
  let#[t,rfl]:=rx;cases y with
  | Kv j=>let#[t',rfl]:=ry;show PySem.W.eq_bytes^cJ I q Iw
  | _=>show absurd (show false=true from hs) lG
 | _=>cases y<;>show absurd (show false=true from hs) lG
def UT:nu X (compareOp .NotEq) rNe:=by
 intro u5 s σ H x y v u Q I rx ry h;let#[hs,q]:=h;cases x with
 | eW =>
  cases rx;cases y with
  | eW=>cases ry;show PySem.EqNone.ne_none_none (cJ I q^by simp)
  | bl j=>cases ry;show PySem.EqNone.ne_none_bool (cJ I q^by simp)
  | int j=>let#[t',rfl]:=ry;show PySem.EqNone.ne_none_int (cJ I q^by simp)
  | str j=>let#[t',rfl]:=ry;show PySem.EqNone.ne_none_str (cJ I q^by simp)
  | _=>show absurd (show false=true from hs) lG
 | bl i =>
  cases rx;cases y with
  | eW=>cases ry;show PySem.EqNone.ne_bool_none (cJ I q^by simp)
  | bl j=>cases ry;show ne_bool^cJ I q^congrArg not Nx
  | str j=>let#[t',rfl]:=ry;show PySem.EqMixed.ne_bool_str (cJ I q^by simp)
  | _=>show absurd (show false=true from hs) lG
 | int i =>
  let#[t,rfl]:=rx;cases y with
  | eW=>cases ry;show PySem.EqNone.ne_int_none (cJ I q^by simp)
  | int j=>let#[t',rfl]:=ry;show ne_int^cJ I q^congrArg not Iu
  | str j=>let#[t',rfl]:=ry;show PySem.EqMixed.ne_int_str (cJ I q^by simp)
  | _=>show absurd (show false=true from hs) lG
 | str i =>
  let#[t,rfl]:=rx;cases y with
  | eW=>cases ry;show PySem.EqNone.ne_str_none (cJ I q^by simp)
  | bl j=>cases ry;show PySem.EqMixed.ne_str_bool (cJ I q^by simp)
  | int j=>let#[t',rfl]:=ry;show PySem.EqMixed.ne_str_int (cJ I q^by simp)
  | str j=>let#[t',rfl]:=ry;show ne_str^cJ I q^congrArg not Iv
  | _=>show absurd (show false=true from hs) lG
 | Kv i =>
  let#[t,rfl]:=rx;cases y with
  | Kv j=>let#[t',rfl]:=ry;show PySem.W.ne_bytes^cJ I q^congrArg not Iw
  | _=>show absurd (show false=true from hs) lG
 | _=>cases y<;>show absurd (show false=true from hs) lG
def xo:nu X (compareOp .Lt) (RT λi j=>.bl (decide (i<j))):=RU λ_ _ _ _ _ _ _ q=>lt_int q
def UU:nu X (compareOp .LtE) (RT λi j=>.bl (decide (i<=j))):=RU λ_ _ _ _ _ _ _ q=>le_int q
def UW:nu X (compareOp .Gt) (RT λi j=>.bl (decide (j<i))):=RU λ_ _ _ _ _ _ _ q=>gt_int q
def Z7:nu X (compareOp .GtE) (RT λi j=>.bl (decide (j<=i))):=RU λ_ _ _ _ _ _ _ q=>ge_int q
def WG:nu X (compareOp .Is) (λx y H Q=>y=.eW/\Q (.bl (decide (x=.eW))) H):=by
 intro u5 s σ H x y v u Q I rx ry h;let#[rfl,q]:=h;cases ry;show is_none_gen^cJ I q ?_;cases x<;>first
  | (cases rx;rfl)
  | (let#[t,rfl]:=rx;rfl)
def Bc(b:Expr)(h:op≠.In:=by decide)(h2:op≠.NotIn:=by decide):behindInMarks op b=false:=by
 have e1:(op==CmpOp.In)=false:=by cases op<;>first|rfl|show absurd rfl h
 have e2:(op==CmpOp.NotIn)=false:=by cases op<;>first|rfl|show absurd rfl h2
 cases b<;>simp[behindInMarks,e1,e2]
def Bd(ho:nu X (compareOp op) r)(ha:PE X a ta)(hb:PE X b tb)(hm:behindInMarks op b=false):PE X (.Compare a [op] [b] pos)^RS r ta tb:=by intro u5 s σ H Q I h;show wpAny_Compare1 (WD ha hb I h λv u s2 x y H2 I2 rx ry q=>ho u5 s2 σ H2 x y v u Q I2 rx ry q) hm
def Iz(t:TE):TT:=λσ H Q=>t σ H λx H'=>∃k,x=.bl k/\Q k H'
def eX(ho:nu X (compareOp op) r)(ha:PE X a ta)(hb:PE X b tb)(hm:behindInMarks op b=false):PT X (.Compare a [op] [b] pos)^Iz^RS r ta tb:=by intro u5 s σ H Q I h;show wpAny_isTrue_Compare1 (c9 (ha u5 s σ H _ I h) λv s1 zq=>?_) hm;let#[x,H1,I1,r1,q1]:=zq;show c9 (hb u5 s1 σ H1 _ I1 q1) λu s2 zq=>?_;let#[y,H2,I2,r2,q2]:=zq;show c9 (ho u5 s2 σ H2 x y v u _ I2 r1 r2 q2) λc s3 zq=>?_;let#[z,H3,I3,r3,k,e,q3]:=zq;subst e;cases r3;show wpAny_truthy_bool #[H3,I3,q3]
def Ny(r r':R2)(ta tb tc:TE):TE:=λσ H Q=>ta σ H λx H1=>tb σ H1 λy H2=>r x y H2 λz H3=>∃k,z=.bl k /\
 (if k=true then tc σ H3 λw' H4=>r' y w' H4 Q else Q (.bl false) H3)
def Nz{op':CmpOp}{r':R2}(ho:nu X (compareOp op) r)(ho':nu X (compareOp op') r')(ha:PE X a ta)(hb:PE X b tb)(hc:PE X c tc)
  (hm:lastMarks [op,op'] [b,c]=false:=by with_unfolding_all rfl):PT X (.Compare a [op,op'] [b,c] pos)^Iz^Ny r r' ta tb tc:=by
 intro u5 s σ H Q I h;show isTrue_chain (c9 (ha u5 s σ H _ I h) λv s1 zq=>?_) hm;let#[x,H1,I1,r1,q1]:=zq;show test_link (c9 (hb u5 s1 σ H1 _ I1 q1) λu s2 zq=>?_);let#[y,H2,I2,r2,q2]:=zq;show c9 (ho u5 s2 σ H2 x y v u _ I2 r1 r2 q2) λd s3 zq=>?_;let#[z,H3,I3,r3,k,e,q3]:=zq;subst e;cases r3;show wpAny_truthy_bool ?_;cases k with
 | false =>
  let#[k',e',q']:=q3;cases e';show ite_ff #[H3,I3,q']
 | true =>
  show ite_tt^test_last (c9 (hc u5 s3 σ H3 _ I3 q3) λw' s4 zq=>?_);let#[z',H4,I4,r4,q4]:=zq;show c9 (ho' u5 s4 σ H4 y z' u w' _ I4 r2 r4 q4) λd' s5 zq=>?_;let#[z2,H5,I5,r5,k2,e2,q5]:=zq;subst e2;cases r5;show wpAny_truthy_bool #[H5,I5,q5]
def RW(K:az)(x:V)(H:Hp)(k:Bool):Prop :=
 match x with
 | .eW=>k=false
 | .bl b=>k=b
 | .int i=>k=(i != 0)
 | .str y=>y.length<=sizeLine/\k=((y.length:Int) != 0)
 | .Kv y=>y.size<=sizeLine/\k=((y.size:Int) != 0)
 | .ref p=>(∃xs,bG K H p xs/\k = !xs.isEmpty)\/(∃xs,dJ K H p xs/\k = !xs.isEmpty)\/∃kvs,H p=some^.dK kvs/\k = !kvs.isEmpty
 | _=>False
def F7{κ:Type}{kvs:List (κ×V)}{vs:List (κ×Value)}(r:KV kvs vs):(!vs.isEmpty) = !kvs.isEmpty:=by cases r<;>rfl
def xq{its:List Value}(r:Vals xs its):(!its.toArray.isEmpty) = !xs.isEmpty:=by cases r<;>simp
def tG:(sizeLine:Nat)<2 ^ 63:=by rw[sizeLine_eq];decide
theorem WH:ae0 X (λx H Q=>∃k,RW X.K x H k/\Q k H):=by
 intro u5 s σ H x v Q I rx h;let#[k,e,q]:=h;have hl:=tG;have hs:sizeLine=16777216:=sizeLine_eq;cases x with
 | eW =>
  cases rx;have e':k=false:=e;subst e';show truthy_none #[H,I,q]
 | bl b =>
  cases rx;have e':k=b:=e;subst e';show wpAny_truthy_bool #[H,I,q]
 | int i =>
  let#[t,rfl]:=rx;have e':k=(i != 0):=e;subst e';show PySem.P.truthy_int #[H,I,q]
 | str y =>
  let#[t,rfl]:=rx;obtain⟨hy,e'⟩:y.length<=sizeLine/\k=((y.length:Int) != 0):=e;subst e';show PySem.P.truthy_str ∅ #[H,I.tok _,q]
 | Kv y =>
  let#[t,rfl]:=rx;obtain⟨hy,e'⟩:y.size<=sizeLine/\k=((y.size:Int) != 0):=e;subst e';show PySem.W.truthy_bytes ∅ #[H,I.tok _,q]
 | ref p =>
  cases rx;have e':(∃xs,bG X.K H p xs/\k = !xs.isEmpty)\/(∃xs,dJ X.K H p xs/\k = !xs.isEmpty)\/∃kvs,H p=some^.dK kvs/\k = !kvs.isEmpty:=e;rcases e' with⟨xs,hx,e'⟩|⟨xs,hx,e'⟩|⟨kvs,hx,e'⟩
  .subst e';let#[its,r,pl,hz]:=I.list hx;have hlen:=r.length;show wpAny_truthy_list pl.isList (by erw[aZ];lia) #[H,I.tok _,by rw[xq r];show q]
  .subst e';let#[its,r,pl,hz]:=I.tuple hx;have hlen:=r.length;show truthy_tuple pl (by erw[aZ];lia) #[H,I.tok _,by rw[xq r];show q]
  .subst e';obtain⟨hz,hS,vs,r,m⟩:kvs.length<=sizeLine/\(p==sysModules)=false/\∃vs,KV kvs vs/\s.heap.DictOf (bO X.prog X.w) p vs:=I.hok p _ hx;have hlen:kvs.length=vs.length:=kh r;show wpAny_truthy_dict hS m ∅ #[H,I.tok _,by rw[F7 r];show q]
 | _=>show(show False from e).elim
def NB(ha:PE X a ta)(he:∀whole,isTrue a X.env whole=(do let v <- whole;standAt a.pos;holding [v]^truthy v)):
  PT X a (λσ H Q=>ta σ H λx H'=>∃k,RW X.K x H' k/\Q k H'):=by intro u5 s σ H Q I h;show isTrue_plain (c9 (ha u5 s σ H _ I h) λv s1 zq=>?_)^he _;let#[x,H1,I1,r1,q1]:=zq;show WH u5 s1 σ H1 x v Q I1 r1 q1
def vals1{x:V}(r:Vals [x] us):∃u,us=[u]/\RelV x u:=by
 cases r with
 | cons r1 r2=>cases r2;show#[_,rfl,r1]
def vals2{x y:V}(r:Vals [x,y] us):∃u w',us=[u,w']/\RelV x u/\RelV y w':=by
 cases r with
 | cons r1 r2 =>
  cases r2 with
  | cons r3 r4=>cases r4;show#[_,_,rfl,r1,r3]
def Kz(hc:X.calm=true):dP X (.builtin "min") (λxs H Q=>∃i j,xs=[.int i,.int j]/\Q (.int (if j<i then j else i)) H):=by intro u5 s σ H xs us Q I r h;let#[i,j,rfl,q]:=h;let#[u,w',rfl,#[t,rfl],#[t',rfl]]:=vals2 r;show min_two_ints (I.ok.hd hc) λh' tk k=>#[_,H,I.kept k,?_,q];by_cases hj:j<i;rw[if_pos hj,if_pos hj];show#[_,rfl];rw[if_neg hj,if_neg hj];show#[_,rfl]
def KA:dP X (.type "int") (λxs H Q=>(∃i,xs=[.int i]/\Q (.int i) H)\/∃k,xs=[.bl k]/\Q (.int (if k then 1 else 0)) H):=by
 intro u5 s σ H xs us Q I r h;rcases h with⟨i,rfl,q⟩|⟨k,rfl,q⟩
 .let#[u,rfl,t,rfl]:=vals1 r;show call_int_int #[.int i,H,I,#[_,rfl],q]
 .let#[u,rfl,r1]:=vals1 r;cases r1;show call_int_bool #[.int (if k then 1 else 0),H,I.tok _,#[_,rfl],q]
end
structure WI (h:Heap) (x dx C:Addr) (mA:Str->Option Value):Prop where
 obj:h.get? x=some^PySem.W.instObj C dx
 ns:h.Ns1 dx mA
 ne:dx≠x
def KC{mA:Str->Option Value}(n:h.Ns1 dx mA):∃od,h.get? dx=some od/\∀name,PySem.W.lookIn name od=some^mA name:=by
 let#[o,es,ep,ho,hd,hk,_,hm]:=n;show#[o,ho,λname=>?_];have e:=hm name;unfold nsFind findBy at e;rw[<- Array.find?_toList] at e;unfold PySem.W.lookIn;rw[hd];dsimp only;split;rename_i y q;rw[q] at e;show congrArg some e
 .rename_i q;rw[q] at e;have a:es.toList.any (·.refKey)=false:=by rw[List.any_eq_false];intro y hy;let#[z,t,hkey]:=hk y^Array.mem_toList_iff.mp hy;simp[DictEntry.refKey,hkey]
  have a':¬es.toList.any (·.refKey)=true:=by rw[a];show lG
  rw[if_neg a'];show congrArg some e
def WI.look{h:Heap}{x dx C:Addr}{mA:Str->Option Value}(I:WI h x dx C mA):∃od,PySem.W.InstAt h x (PySem.W.instObj C dx) C^some od/\∀name,PySem.W.lookIn name od=some (mA name) :=
 let⟨od,ho,hl⟩:=KC I.ns
 #[od,#[I.obj,rfl,rfl,ho],hl]
section
variable {x f:Addr}{mA:Str->Option Value}{v:Value}
end
def pN.some_of{o:Option Value}(r:pN (some v) o):∃u,o=some u/\RelV v u:=by
 cases o with
 | none=>show(show False from r).elim
 | some u=>show#[u,rfl,r]
section
variable {H H':Hp}{fs fs':List (Str×V)}
def RX(hok:nB P w H h)(e:H a=some^.ins C dx fs):∃mA,WI h a dx C mA/\(∀f,pN (fs.lookup f)^mA f)/\PySem.Within mA^fs.map (·.1)/\fs.length<=1000/\H dx=some^.own a:=by let#[d,z,ne,ob,mA,n,r,q]:=(show dj P w H h a^.ins C dx fs from hok a _ e);show#[mA,#[ob,n,ne],r,q,z,d]
end
structure Cls (K:az) (C:Addr):Prop where
 pg:PySem.W.plainGet K C Str.empty=true
 hd:PySem.W.hasDictIn K C=true
 po:PySem.W.plainOver K C=true
 sa:PySem.W.findIn K (.ref C) "__setattr__" = some^some^.builtin "object.__setattr__"
def Cls.get{C:Addr}(c:Cls K C)(f:Str):PySem.W.plainGet K C f=true:=c.pg
section
variable {X:Cx}{σ:St}{H:Hp}{fs:List (Str×V)}{f:Str}{v:V}
end
def Z8(X:Cx)(op:Operator)(rd:V->V->Hp->VK->Prop):Prop :=
 ∀(u5:List (Addr×Obj))(s:Shared)(σ:St)(H:Hp)(x y:V)(u v:Value)(Q:VK),Inv X u5 σ H s->RelV x u->RelV y v->rd x y H Q->wpAny (model X.prog X.w) X.A (inplaceOp op u v) (EP X u5 σ Q) X.xe s
section
variable {X:Cx}{o:Expr}{f:Str}{ta tv:TE}
def Z9:V->V->Hp->VK->Prop:=λx y H Q=>∃i j,x=.int i/\y=.int j/\Q (.int (i-j)) H
def WJ:Z8 X .Sub Z9:=by rintro u5 s σ H x y u v Q I rx ry ⟨i,j,rfl,rfl,q⟩;let#[t,rfl]:=(show ∃t,u=Value.int i t from rx);let#[t',rfl]:=(show ∃t',v=Value.int j t' from ry);show PyProof.Rows.isub_int #[.int (i-j),H,I.tok _,#[_,rfl],q]
end
section
variable {X:Cx}{σ:St}{H:Hp}{Q:Value->Shared->Prop}{c:Value}{b:Bool}
inductive pO (K:az) (H:Hp):V->Value->Prop where
 | eW:pO K H .eW^.type "NoneType"
 | bl (x:Bool):pO K H (.bl x)^.type "bool"
 | int (i:Int):pO K H (.int i)^.type "int"
 | str (x:Str):pO K H (.str x)^.type "str"
 | Zd (x:UInt64):pO K H (.Zd x)^.type "float"
 | lst {a:Addr} {xs:List V} (e:H a=some^.lst xs):pO K H (.ref a)^.type "list"
 | CF {a:Addr} {o:Obj} {xs:List V} (e:H a=some^.CF o^.lst xs):pO K H (.ref a)^.type "list"
 | tup {a:Addr} {xs:List V} (e:H a=some^.tup xs):pO K H (.ref a)^.type "tuple"
 | dK {a:Addr} {kvs:List (Key×V)} (e:H a=some^.dK kvs):pO K H (.ref a)^.type "dict"
 | dT {a:Addr} {kvs:List (List Key×V)} (e:H a=some^.dT kvs):pO K H (.ref a)^.type "dict"
 | ins {a C dx:Addr} {fs:List (Str×V)} (e:H a=some^.ins C dx fs) (cl:Cls K C) (ha:PySem.W.findIn K (.ref C) "__class__" = some^some^.builtin "object.__class__")
   (hn:PySem.W.specialIn K (.builtin "object.__class__") "__get__" = some^some^.builtin "getset_descriptor.__get__") (htk:PySem.W.takesIn K^.builtin "object.__class__"=some true)
   (hm:PySem.W.mroIn K C^.type "object"=some true):pO K H (.ref a)^.ref C
def KD{x:V}{t:Value}(I:Inv X u5 σ H s)(rx:RelV x u)(ty:pO X.K H x t)(e:PySem.W.kitOne X.K t c=some b)(h:∀tk,Q (.bool b) { s with toks:=tk }):
  wpAny (model X.prog X.w) A (call (.builtin "isinstance") [u,c]) Q E s:=by
 cases ty with
 | eW=>cases(show u=Value.none from rx);show gK PySem.W.kitx_none I.zB iz e (λz=>nomatch z) h
 | bl y=>cases(show u=Value.bool y from rx);show gK PySem.W.kitx_bool I.zB iz e (λz=>nomatch z) h
 | int i=>let#[t,q]:=(show ∃t,u=Value.int i t from rx);cases q;show gK PySem.W.kitx_int I.zB iz e (λz=>nomatch z) h
 | str y=>let#[t,q]:=(show ∃t,u=Value.str y t from rx);cases q;show gK PySem.W.kitx_str I.zB iz e (λz=>nomatch z) h
 | Zd y=>let#[t,q]:=(show ∃t,u=Value.float y t from rx);cases q;show gK PySem.W.kitx_float I.zB iz e (λz=>nomatch z) h
 | @lst a xs ea =>
  cases(show u=Value.ref a from rx);let#[_,_,n,_,h1]:=(show dj X.prog X.w H s.heap a^.lst xs from I.hok a _ ea);show gK PySem.W.kitx_list I.zB #[_,h1,rfl] e (λz=>nomatch z) h
 | @CF a ob xs ea =>
  cases(show u=Value.ref a from rx);let#[_,_,_,n,_,h1]:=(show dj X.prog X.w H s.heap a^.CF ob^.lst xs from I.hok a _ ea);show gK PySem.W.kitx_list I.zB #[_,h1,rfl] e (λz=>nomatch z) h
 | @tup a xs ea =>
  cases(show u=Value.ref a from rx);let#[_,_,_,p]:=(show dj X.prog X.w H s.heap a^.tup xs from I.hok a _ ea);let#[o,h1,h2,_]:=p;show gK PySem.W.kitx_tuple I.zB #[o,h1,h2] e (λz=>nomatch z) h
 | @dK a kvs ea =>
  cases(show u=Value.ref a from rx);let#[_,_,vs,_,p]:=(show dj X.prog X.w H s.heap a^.dK kvs from I.hok a _ ea);let#[o,es,ep,h1,h2,_]:=p;show gK PySem.W.kitx_dict I.zB #[o,h1,h2.1] e (λz=>nomatch z) h
 | @dT a kvs ea =>
  cases(show u=Value.ref a from rx);let#[_,_,xs,_,o,es,ep,h1,h2,_]:=(show dj X.prog X.w H s.heap a^.dT kvs from I.hok a _ ea);show gK PySem.W.kitx_dict I.zB #[o,h1,h2.1] e (λz=>nomatch z) h
 | @ins a C dx fs ea cl ha hn htk hm =>
  cases(show u=Value.ref a from rx);let#[mA,O,_]:=RX I.hok ea;let#[od,J,_]:=O.look;show gK (PySem.W.kitx_own (cl.get _) cl.hd ha hn htk hm) I.zB J e (λz=>nomatch z) h
end
structure jd (k:Nat) (A:Around):Prop where
 hd:A.handled=none
 dp:A.depth+3*k+5<recursionLimit
 un:A.units+16*k+200<cLine
theorem jd.mono{j k:Nat}{A:Around}(r:jd k A)(h:j<=k):jd j A:=#[r.hd,by have:=r.dp;lia,by have:=r.un;lia]
theorem jd.deeper(r:jd (k+1) A)(env:Env):jd k (A.deeper env) :=
 #[r.hd,by have:=r.dp;change A.depth+1+3*k+5<_;lia,by have:=r.un;change A.units+3+16*k+200<_;lia]
theorem jd.in1(r:jd (k+1) A):jd k A.in1 :=
 #[r.hd,by have:=r.dp;change A.depth+3*k+5<_;lia,by have:=r.un;change A.units+1+16*k+200<_;lia]
theorem jd.depth(r:jd k A):A.depth<recursionLimit:=by have:=r.dp;lia
theorem jd.units(r:jd k A):A.units+64<cLine:=by have:=r.un;lia
def aaa:TA:=λ_ H Q=>Q [] H
def UX(ta:TE)(tr:TA):TA:=λσ H Q=>ta σ H λx H1=>tr σ H1 λxs H2=>Q (x::xs) H2
section
variable {X:Cx}{te:TE}{t:TA}
def af:PA X [] aaa:=λ_ _ _ _ H Q I h=>lH #[[],H,I,.nil,h]
def aa(ha:PE X e te)(hr:PA X es t)(hs:starEach (e::es) X.env=(false,eval e X.env)::starEach es X.env:=by rfl):PA X (e::es)^UX te t:=by intro pos u5 s σ H Q I h;rw[hs];change wpAny _ _ (spliced ((false,eval e X.env)::backTo pos^starEach es X.env)) _ _ s;show jQ (c9 (ha u5 s σ H _ I h) λu s1 zq=>?_);let#[x,H1,I1,r1,q1]:=zq;show c9 (hr pos u5 s1 σ H1 _ I1 q1) λus s2 zq=>?_;let#[xs,H2,I2,r2,q2]:=zq;show#[x::xs,H2,I2,.cons r1 r2,q2]
def aab(t:TA):TE:=λσ H Q=>t σ H λxs H1=>xs.length<=sizeLine/\∀p,H1 p=none->Q (.ref p)^upd H1 p^.tup xs
def aac(t:TA):TE:=λσ H Q=>t σ H λxs H1=>xs.length<=sizeLine/\∀p,H1 p=none->Q (.ref p)^upd H1 p^.lst xs
def aT{x1}(h:PA X es t):PE X (.Tuple es x1 pos)^aab t:=by intro u5 s σ H Q I hq;show wpAny_Tuple_spliced (c9 (h pos u5 s σ H _ I hq) λus s1 zq=>?_);let#[xs,H1,I1,r,z,q]:=zq;show #[by rw[<- r.length];show z,?_];have hf:H1 s1.heap.objs.size=none:=I1.hok.fresh^av _;show#[.ref s1.heap.objs.size,upd H1 s1.heap.objs.size^.tup xs,I1.laid (t':=s1.toks) (λb u e=>dY _ e) (av _) ?_,rfl,q _ hf];show#[z,us,r,#[_,iI _ rfl,rfl,_,rfl]]
def cO(h:PA X es t):PE X (.List es pos)^aac t:=by intro u5 s σ H Q I hq;show wpAny_List_spliced (c9 (h pos u5 s σ H _ I hq) λus s1 zq=>?_);let#[xs,H1,I1,r,z,q]:=zq;show #[by rw[<- r.length];show z,?_];have hf:H1 s1.heap.objs.size=none:=I1.hok.fresh^av _;show#[.ref s1.heap.objs.size,upd H1 s1.heap.objs.size^.lst xs,I1.laid (t':=s1.toks) (λb u e=>dY _ e) (av _) ?_,rfl,q _ hf];show#[z,us,0,r,iI _ rfl]
end
abbrev Sp:=List V->Hp->VK->XK->Prop
abbrev KH:=List Env->Hp->Shared->XK->Value->Shared->Prop
structure NC (P:Program) (w:World) (K:az) (mg:Str->Option Value) (base:Heap) (A:Around) (outer:List Env) (s:Shared) (H:Hp):Prop where
 frames:A.frames=some outer
 mod:Mod K mg base
 bs:∀b o,base.get? b=some o->s.heap.get? b=some o/\H b=none
 RL:base.objs.size<=s.heap.objs.size
 vE:s.heap.FunFrames base outer
 Wt:∀b∈frs outer,H b=none
 hok:nB P w H s.heap
 bare:AllBare s.gens
def CE(outer:List Env)(P:Program)(w:World)(H:Hp)(s:Shared)(Q:VK)(u:Value)(s':Shared):Prop :=
 ∃v H',s'.os=s.os/\AllBare s'.gens/\Un (frs outer) [] H H' s.heap s'.heap/\nB P w H' s'.heap/\RelV v u/\Q v H'
def CR(CX:KH)(outer:List Env)(P:Program)(w:World)(H:Hp)(s:Shared)(Q:VK)(E:XK)(r:Result)(s':Shared):Prop :=
 match r with
 | .ok (.ret u)=>CE outer P w H s Q u s'
 | .ok _=>False
 | .error e=>CX outer H s E e s'
structure cA (P:Program) (w:World) (K:az) (mg:Str->Option Value) (base:Heap) (CX:KH) (k:Nat) (f:Addr) (fd:FuncData) (ps:List Str) (sp:Sp):Prop where
 len:∀vs H Q E,sp vs H Q E->vs.length=ps.length
 run:∀(A:Around)(outer:List Env)(s:Shared)(H:Hp)(args:Args)(us:List Value)(vs:List V)(Q:VK)(E:XK),jd k A->NC P w K mg base A outer s H->BindsTo s fd args^ps.zip us->Vals vs us->sp vs H Q E ->
  codeAny (model P w) A (.call (.ref f) args) (CR CX outer P w H s Q E) s
def cA.imp{f:Addr}{sp sp':Sp}(F:cA P w K mg base CX k f fd ps sp)
  (h:∀vs H Q E,sp' vs H Q E->sp vs H Q E):cA P w K mg base CX k f fd ps sp' :=
 #[λvs H Q E q=>F.len vs H Q E^h _ _ _ _ q,λA outer s H args us vs Q E hr he hb hv hs=>F.run A outer s H args us vs Q E hr he hb hv^h _ _ _ _ hs]
section
variable {X:Cx}{σ:St}{H:Hp}{s':Shared}
def Inv.ae6(I:Inv X u5 σ H s):NC X.prog X.w X.K X.mg X.base X.A X.stack s H :=
 #[I.ok.frames,I.ok.mod,I.bs,bg I.ok.RL I.sz,I.stack,I.A9,I.hok,I.bare]
def Inv.after{Q:VK}(I:Inv X u5 σ H s)(h:CE X.stack X.prog X.w H s Q u s'):EP X u5 σ Q u s':=by let#[v,H',os,bare,un,hok,r,q]:=h;let#[hh,g,d,t,os']:=s';obtain rfl:os'=s.os:=os;show#[v,H',I.call (h':=hh) (g':=g) (d':=d) (t':=t) (ch:=[]) un hok bare (λb z=>absurd z^by simp),r,q]
end
def ND(sp:Sp)(UY:List V)(E:XK)(t:TA):TE:=λσ H Q=>t σ H λvs H1=>sp (vs++UY) H1 Q E
def Binds(K:az)(fd:FuncData)(ps:List Str)(ds:List Value):Prop :=
 ∀(s:Shared)(us:List Value),K.In s.heap->(us++ds).length=ps.length->BindsTo s fd #[us,[]]^ps.zip (us++ds)
def Binds.all(h:∀us:List Value,us.length=ps.length->bindArgs fd #[us,[]]=pure^ps.zip us):Binds K fd ps []:=λs us _ hl=>by rw[fH] at hl ⊢;show .of_eq^h us hl
def Passes(CX:KH)(X:Cx)(E:XK):Prop:=∀(u5:List (Addr×Obj))(σ:St)(H:Hp)(s:Shared)(e:Value)(s':Shared),Inv X u5 σ H s->CX X.stack H s E e s'->X.xe e s'
section
variable {X:Cx}{CX:KH}{f:Addr}{ps:List Str}{sp:Sp}{UY:List V}{ds:List Value}{E:XK}{o:Expr}{ta:TE}{t:TA}
def WL{σ:St}{Q:VK}{vs:List V}(F:cA X.prog X.w X.K X.mg X.base CX k f fd ps sp)(hr:jd k X.A)(hb:Binds X.K fd ps ds)(hd:Vals UY ds)(hx:Passes CX X E)
  (I:Inv X u5 σ H s)(r:Vals vs us)(h:sp (vs++UY) H Q E):wpAny (model X.prog X.w) X.A (call (.ref f) us) (EP X u5 σ Q) X.xe s:=by
 have r2:Vals (vs++UY) (us++ds):=r.append hd;have hl:(us++ds).length=ps.length:=by rw[<- r2.length];show F.len _ _ _ _ h
 show wpAny_call (codeAny_mono (F.run X.A X.stack s H #[us,[]] (us++ds) (vs++UY) Q E hr I.ae6 (hb s us I.zB hl) r2 h) λr s' hq=>?_);cases r with
 | error e=>show hx u5 σ H s e s' I hq
 | ok fl =>
  cases fl with
  | ret u=>show I.after hq
  | next=>show False.elim hq
  | brk=>show False.elim hq
  | cont=>show False.elim hq
def RY(F:cA X.prog X.w X.K X.mg X.base CX k f fd ps sp)(hr:jd k X.A)(hg:Gl X x)(hm:X.mg x=some^.ref f)(hk:PySem.W.keepIn X.K^.ref f=true)(hb:Binds X.K fd ps ds)(hd:Vals UY ds)(hx:Passes CX X E)
  (ha:PA X (e::es) t)(hdb:(x==("__debug__" : Str))=false:=by decide)(he:starEach (e::es) X.env=(false,eval e X.env)::starEach es X.env:=by rfl)(hpl:(backTo pos^starEach es X.env).any (·.1)=false:=by rfl):
  PE X (.Call (.Name x p) (e::es) [] pos)^ND sp UY E t:=by intro u5 s σ H Q I h;show wpAny_Call_Name_kw^Io I hg hm ?_ hdb;show PySem.W.callWith_K (h₀:=X.base) I.ok.mod.Zf hk (c9 (ha pos u5 s σ H _ I h) λus s1 zq=>?_) he hpl;let#[vs,H1,I1,r,q]:=zq;show#[I1.zB,?_];show WL F hr hb hd hx I1 r q
end
section
variable {X:Cx}{CX:KH}{f:Addr}{ps ks:List Str}{sp:Sp}{E:XK}{kpos:Pos}{o:Expr}{kws:List Keyword}{te ta:TE}{t tk:TA}{nm:Option Str}
variable {g:List Value->List Value->List Value}{gV:List V->List V->List V}
end
structure aK (N P:List Str) (sc:Scope):Prop where
 kind:sc.kind=.function
 co:sc.isCoroutine=false
 gen:sc.isGenerator=false
 nd:N.Nodup
 pre:N.take P.length=P
 par:∀x∈P,sc.names.lookup x=some .local\/sc.names.lookup x=some .cell
 WM:∀y∈sc.names,y.2≠.free
theorem zZ{kindOf:Str->Option NameKind}{x:Str}:∀{binds:List (Str×Value)}{m:Str->Option Value},(∀v,(x,v)∉binds)->bindL kindOf binds m x=m x
 | [],_,_=>rfl
 | (n,v)::r,m,h=>by
  unfold bindL;rw[zZ λw hw=>h w^cM _ hw];split
  .have:x≠n:=by rintro rfl;show h v iP
   simp[this]
  .rfl
theorem z6{kindOf:Str->Option NameKind}{x:Str}:∀{binds:List (Str×Value)}{m:Str->Option Value},(∀v,(x,v)∉binds)->bindC kindOf binds m x=m x
 | [],_,_=>rfl
 | (n,v)::r,m,h=>by
  unfold bindC;rw[z6 λw hw=>h w^cM _ hw];split;rfl
  .have:x≠n:=by rintro rfl;show h v iP
   simp[this]
theorem z7{kindOf:Str->Option NameKind}{x:Str}{v:Value}:∀{P:List Str}{vs:List Value}{i:Nat}{m:Str->Option Value},P.Nodup->P[i]?=some x->vs[i]?=some v->kindOf x=some .local ->
  bindL kindOf (P.zip vs) m x=some v
 | [],_,_,_,_,h,_,_=>by simp at h
 | _::_,[],_,_,_,_,h,_=>by simp at h
 | p::P,w::vs,0,m,nd,h1,h2,hk=>by
  simp at h1 h2;subst h1;subst h2;change bindL kindOf ((p,w)::P.zip vs) m p=_;unfold bindL;rw[zZ λv hv=>(jv.mp nd).1 (List.of_mem_zip hv).1,if_pos hk];simp
 | p::P,w::vs,i+1,m,nd,h1,h2,hk=>by change bindL kindOf ((p,w)::P.zip vs) m x=_;unfold bindL;show z7 (i:=i) (jv.mp nd).2 (by simpa using h1) (by simpa using h2) hk
theorem z8{kindOf:Str->Option NameKind}{x:Str}{v:Value}:∀{P:List Str}{vs:List Value}{i:Nat}{m:Str->Option Value},P.Nodup->P[i]?=some x->vs[i]?=some v->kindOf x≠some .local ->
  bindC kindOf (P.zip vs) m x=some v
 | [],_,_,_,_,h,_,_=>by simp at h
 | _::_,[],_,_,_,_,h,_=>by simp at h
 | p::P,w::vs,0,m,nd,h1,h2,hk=>by
  simp at h1 h2;subst h1;subst h2;change bindC kindOf ((p,w)::P.zip vs) m p=_;unfold bindC;rw[z6 λv hv=>(jv.mp nd).1 (List.of_mem_zip hv).1,if_neg hk];simp
 | p::P,w::vs,i+1,m,nd,h1,h2,hk=>by change bindC kindOf ((p,w)::P.zip vs) m x=_;unfold bindC;show z8 (i:=i) (jv.mp nd).2 (by simpa using h1) (by simpa using h2) hk
noncomputable def start(N:List Str)(vs:List V):St:=vs.map some++List.replicate (N.length-vs.length) none
noncomputable def CS(CX:KH)(P:Program)(w:World)(K:az)(mg:Str->Option Value)(base:Heap)(N:List Str)(qual:Str)(scope:Scope)(f:Addr)(cd:Value)(A:Around)(outer:List Env)(s:Shared)(H:Hp)(E:XK):Cx where
 prog:=P
 w:=w
 K:=K
 mg:=mg
 base:=base
 A:=A.deeper (envOfC qual scope s.heap.objs.size f cd)
 N:=N
 s₀:=s
 H₀:=H
 env:=envOfC qual scope s.heap.objs.size f cd
 outer:=outer
 stack:=envOfC qual scope s.heap.objs.size f cd::outer
 ex:=[]
 calm:=true
 fn:=λ_=>true
 pn:=[]
 xe:=λe s'=>wpAny (model P w) (A.deeper^envOfC qual scope s.heap.objs.size f cd) (leaving (envOfC qual scope s.heap.objs.size f cd) e) (λ_ s''=>CX outer H s E e s'') (λe' s''=>CX outer H s E e' s'') s'
def CU{sc:Scope}(h:sc.names.lookup x=some .cell):∃c,(cellsFrom n sc.names []).lookup x=some c:=by have q:=PySem.W.cellsFrom_some sc.names n []^.inl h;show Option.isSome_iff_exists.mp q
theorem KI{f:Addr}{cd:Value}{outer:List Env}{s1:Shared}{E:XK}{vs:List V}
  (S:aK N ps scope)(hd:A.handled=none)(e0:NC P w K mg base A outer s H)(hl:vs.length=ps.length)(r:Vals vs us)
  (x:InCallC s s.heap.objs.size (bindL (envOfC qual scope s.heap.objs.size f cd).kindOf (ps.zip us) λ_=>none) (cellsFrom (s.heap.objs.size+1) scope.names []) (bindC (envOfC qual scope s.heap.objs.size f cd).kindOf (ps.zip us) λ_=>none) s1):
  Inv (CS CX P w K mg base N qual scope f cd A outer s H E) [] (start N vs) H s1:=by
 have hpl:ps.length<=N.length:=by have:=congrArg List.length S.pre;rw[cu] at this;lia
 let#[h1,tk,rfl,hk]:=x.done;have noA:∀b:Addr,b∉(CS CX P w K mg base N qual scope f cd A outer s H E).ex:=λb z=>absurd (show b∈([]:List Addr) from z) (by simp);show#[#[e0.mod,S.kind,rfl,rfl,av _,λy z c h1 h2=>?_,λy hy=>?_,λy c _ h=>?_,λ_=>hd,Around.frames_deeper e0.frames,.inr #[rfl,rfl],λb z=>absurd z^noA b,e0.bs,e0.RL,λb _ _=>noA b,λb z=>absurd z^noA b,e0.vE,e0.Wt],
  rfl,e0.bare,Un.kept hk,#[_,x.toInCall.ns,λi y v h1 h2 h3=>?_],λy c h=>#[_,x.cell y c h],e0.hok.fresh^av _,λy c h=>?_,λp hp=>absurd (show p∈([]:List (Addr×Obj)) from hp)^by simp,e0.hok.kept hk,?_]
 .show name_of_addr x.apart (iy h1)^iy h2
 .have hy:scope.names.lookup y=some .cell\/scope.names.lookup y=some .free:=hy;rcases hy with hy|hy;show CU hy;show absurd rfl^S.WM _^iy hy
 .show iZ^x.above y c^iy h
 .have hi:i<vs.length:=by unfold start at h2;by_cases hi:i<vs.length;show hi;rw[kJ^by simpa using hi] at h2;rw[List.getElem?_replicate] at h2;split at h2<;>cases h2
  have ha:vs[i]?=some v:=by
   unfold start at h2;rw[jR^by simpa using hi,aV] at h2;cases e:vs[i]? with
   | none=>rw[e] at h2;cases h2
   | some a=>rw[e] at h2;cases h2;rfl
  let#[u,hu,rv]:=r.get ha;have hp:ps[i]?=some y:=by rw[<- S.pre,sV ∅];show h1
  have ndP:ps.Nodup:=by rw[<- S.pre];show S.nd.sublist^List.take_sublist _ _
  show#[u,rv,?_];rcases S.par y^gq hp with k|k;show .inl #[k,z7 ndP hp hu k]
  .let#[c,e]:=CU (n:=s.heap.objs.size+1) k;show .inr #[.inl k,c,e,?_];have q:=x.cell y c e;rw[z8 ndP hp hu (by change scope.names.lookup y≠_;rw[k];decide)] at q;show q
 .show e0.hok.fresh^iZ^x.above y c^iy h
 .unfold start;change _=N.length;rw[aF,ao,List.length_replicate];lia
def UZ{f:Addr}{params:Arguments}{dV kV doc cdv ct oc:Value}{an od:Option Addr}
  {osl:Array^Option Value}{sp:Sp}(lk:K.lookup f=some #[oc,od,.func^PySem.W.fnOf name qual params body scope dV kV doc pm an cdv ct,osl])(hcd:PySem.W.codeIn K cdv qual=true)(S:aK N ps scope)
  (len:∀vs H Q E,sp vs H Q E->vs.length=ps.length)
  (hbody:∀(A:Around)(outer:List Env)(s:Shared)(H:Hp)(vs:List V)(Q:VK)(E:XK),jd k^A.deeper^envOfC qual scope s.heap.objs.size f cdv->sp vs H Q E ->
   ∃t,CG (CS CX P w K mg base N qual scope f cdv A outer s H E) body t/\t { nx:=λ_ H'=>Q .eW H',rt:=Q } (start N vs) H):
  cA P w K mg base CX (k+1) f (PySem.W.fnOf name qual params body scope dV kV doc pm an cdv ct) ps sp:=by
 show#[len,λA outer s H args us vs Q E hr e0 hb r IA=>?_];have hl:=len _ _ _ _ IA;have KX:K.In s.heap:=e0.mod.Zf.keeps λb o e=>(e0.bs b o e).1;have lim:s.heap.NoLimit:=e0.mod.nolimit.keeps λb o e=>(e0.bs b o e).1;have hkind:∀y∈ps.zip us,scope.names.lookup y.1=some .local\/(scope.names.lookup y.1=some .cell/\((cellsFrom (s.heap.objs.size+1) scope.names []).lookup y.1).isSome=true):=λ⟨n,v⟩ hy=>by rcases S.par n (List.of_mem_zip hy).1 with q|q;show .inl q;show .inr #[q,PySem.W.cellsFrom_some _ _ _^.inl q]
 show codeAny_call_function hr.depth (KX _ _ lk) rfl S.co S.gen rfl (PySem.W.codeRec_of KX hcd)^hb _ _ _ _ ?_;show wpAny_newFunctionEnv_cells S.kind hkind λenv he s1 x=>?_;subst he;show#[lim.keeps x.toInCall.keep,codeAny_func ?_];let#[t,ht,hq]:=hbody A outer s H vs Q E (hr.deeper _) IA;have I:Inv (CS CX P w K mg base N qual scope f cdv A outer s H E) [] (start N vs) H s1:=KI S hr.hd e0 hl r x;show wpAny_mono (ht [] s1 (start N vs) H _ I hq) (λfl s' hs=>?_) λe s' hs=>hs;have fin:∀{σ':St}{H':Hp}{v:V}{u:Value},Inv (CS CX P w K mg base N qual scope f cdv A outer s H E) [] σ' H' s'->RelV v u->Q v H'->CE outer P w H s Q u s' :=
  λ{σ' H' v u} J rv q=>#[v,H',J.os,J.bare,J.base,J.hok,rv,q]
 cases fl with
 | ret u =>
  let#[v,σ',H',J,rv,q]:=hs;show fin J rv q
 | next =>
  let#[σ',H',J,q]:=hs;show fin (v:=V.eW) (u:=Value.none) J rfl q
 | brk =>
  let#[_,_,_,q]:=hs;show False.elim q
 | cont =>
  let#[_,_,_,q]:=hs;show False.elim q
section
variable {X:Cx}{t:TA}{id:String}{r:List V->Hp->VK->Prop}
def tCB(r:List V->Hp->VK->Prop)(t:TA):TE:=λσ H Q=>t σ H λvs H1=>r vs H1 Q
def aO(hc:dP X (.builtin id) r)(hg:Gl X x)(hm:X.mg x=none)(hv:bootBuiltins x=some^.builtin id)(ha:PA X (e::es) t)(hn:x ≠ "__name__" := by decide)(hdb:(x==("__debug__" : Str))=false:=by decide)
  (he:starEach (e::es) X.env=(false,eval e X.env)::starEach es X.env:=by rfl)(hpl:(backTo pos^starEach es X.env).any (·.1)=false:=by rfl):PE X (.Call (.Name x p) (e::es) [] pos)^tCB r t:=by intro u5 s σ H Q I h;show wpAny_Call_Name_kw^iA I hg hm hv ?_ hn hdb;show PyProof.Rows.callWith_builtin1 (c9 (ha pos u5 s σ H _ I h) λus s1 zq=>?_) he hpl;let#[vs,H1,I1,r1,q1]:=zq;show hc u5 s1 σ H1 vs us Q I1 r1 q1
def dG(hc:dP X (.type T) r)(hg:Gl X x)(hm:X.mg x=none)(hv:bootBuiltins x=some^.type T)(ha:PA X (e::es) t)(hn:x ≠ "__name__" := by decide)(hdb:(x==("__debug__" : Str))=false:=by decide)
  (he:starEach (e::es) X.env=(false,eval e X.env)::starEach es X.env:=by rfl)(hpl:(backTo pos^starEach es X.env).any (·.1)=false:=by rfl):PE X (.Call (.Name x p) (e::es) [] pos)^tCB r t:=by intro u5 s σ H Q I h;show wpAny_Call_Name_kw^iA I hg hm hv ?_ hn hdb;show i6 (c9 (ha pos u5 s σ H _ I h) λus s1 zq=>?_) he hpl;let#[vs,H1,I1,r1,q1]:=zq;show hc u5 s1 σ H1 vs us Q I1 r1 q1
end
end L2
variable {H H':L2.Hp}{Q rt:L2.VK}{X:L2.Cx}{g:L2.TG}{ks:Nat->L2.Key}{kvs:List (L2.Key×L2.V)}{r:L2.V->List L2.V->L2.Hp->L2.VK->Prop}{sp:L2.Sp}{ta tb tc td te tl to tv tx:L2.TE}{tt:L2.TT}{v y:L2.V}{xs:List L2.V}
namespace HT
open PySem PyProof.Rows
section
open PySem.SeqAt
open PySem.AutoSeq1 (wpAny_loadPart')
open PySem.MeetsSeq PySem.MeetsSeq2 PySem.MeetsSeq3
end
def RZ{t:Addr}{ws:List Value}{Q:Value->Shared->Prop}(ht:IsTup s.heap t vs.toArray)(hb:IsTup s.heap b ws.toArray)(hv:vs≠[])
  (h1:ws=[]->Q (.ref t) s)(h2:ws≠[]->Q (.ref s.heap.objs.size) { s with heap:=s.heap.push { cls:=.type "tuple", data:=.seq (vs++ws).toArray } })
  (hsz:vs.length+ws.length<=sizeLine):wpAny (model prog w) A (binaryOp .Add (.ref t)^.ref b) Q E s:=by
 let#[#[cls,dd,data,sl],ho,hc,n,hd]:=id ht;let#[#[ae8,dd2,data2,sl2],ho2,hc2,n2,hd2]:=id hb;simp only at hc hd hc2 hd2;subst hc hd hc2 hd2;have e:vs.toArray++ws.toArray=(vs++ws).toArray:=by simp
 by_cases hw:ws=[]
 .show concat_meets #[_,ho,rfl] #[_,ho2,rfl] noFill_tuple_add seq_tuple_add PySem.F.slot_tuple_add PySem.F.entry_tuple_add (PySem.F.args_tuple_add_2 _ _)
   (tuple_addW1 t b vs.toArray ws.toArray n n2 dd dd2 sl sl2 (by simpa using hv)^by simp[hw]) #[ho,ho2,h1 hw]
 .show concat_meets #[_,ho,rfl] #[_,ho2,rfl] noFill_tuple_add seq_tuple_add PySem.F.slot_tuple_add PySem.F.entry_tuple_add (PySem.F.args_tuple_add_2 _ _)
   (tuple_addW2 t b vs.toArray ws.toArray n n2 dd dd2 sl sl2 (by simpa using hv) (by simpa using hw) (by rw[aZ,aZ];show hsz)) #[ho,ho2,?_]
  rw[e];show h2 hw
noncomputable def fz(n d:Nat):Option Int->Nat
 | none=>d
 | some v=>if v<0 then(v+(n:Int)).toNat else min v.toNat n
def xr(n d:Nat):fz n d none=d:=rfl
theorem IB(n d k:Nat):fz n d^some (k:Int)=min k n:=by change(if(k:Int)<0 then((k:Int)+(n:Int)).toNat else min (k:Int).toNat n)=min k n;rw[if_neg ∅,jo]
theorem WN(n d:Nat)(hd:d<=n)(o:Option Int):fz n d o<=n:=by
 cases o with
 | none=>show hd
 | some v =>
  change(if v<0 then(v+(n:Int)).toNat else min v.toNat n)<=n;by_cases hv:v<0;rw[if_pos hv];lia;rw[if_neg hv];show Nat.min_le_right _ _
theorem IC(v:Int)(n d:Nat):(if v<0 then max (v+(n:Int)) 0 else min v (n:Int))=((fz n d^some v:Nat):Int):=by change(if v<0 then max (v+(n:Int)) 0 else min v (n:Int))=(((if v<0 then(v+(n:Int)).toNat else min v.toNat n):Nat):Int);by_cases hv:v<0;erw[if_pos hv];lia;erw[if_neg hv];lia
theorem F8(lo hi:Option Int)(n:Nat):Builtin.Slice.sliceAdjust lo hi 1 (n:Int)=(((fz n 0 lo:Nat):Int),((fz n n hi:Nat):Int)):=by
 have h1:¬((1:Int)<0):=∅;unfold Builtin.Slice.sliceAdjust;erw[h1,if_false];show Prod.ext ?_ ?_
 .cases lo with
  | none=>rfl
  | some v=>show IC v n 0
 .cases hi with
  | none=>rfl
  | some v=>show IC v n n
theorem F9(i j:Nat):Builtin.Slice.slicePlaces (i:Int) (j:Int) 1=j-i:=by unfold Builtin.Slice.slicePlaces;have h1:(1:Int)>0:=∅;erw[h1,if_true,Int.ediv_one];split<;>lia
def xw{v:Value}{o:Option Int}{Q:Option Int->Shared->Prop}(p:IsPart v o)(h:Q o s):wpAny (model prog w) A (Builtin.Slice.slicePartIndex v) Q E s:=by
 cases p with
 | none=>show slicePart_none h
 | int i t=>show slicePart_int h
def kT{sl:Addr}{vl vu:Value}{lo hi:Option Int}{Q:Int×Int×Nat->Shared->Prop}(hs:s.heap.IsSliceOf sl vl vu .none)(pl:IsPart vl lo)(pu:IsPart vu hi)
  (h:Q (((fz n 0 lo:Nat):Int),1,fz n n hi-fz n 0 lo) s):wpAny (model prog w) A (Builtin.Slice.sliceApplied (.ref sl)^pure (n:Int)) Q E s:=by let#[os,hos,hcs,hds]:=id hs;unfold Builtin.Slice.sliceApplied Builtin.Slice.sliceFields;show au^au^wpAny_field hos hds (x:=vl) rfl^au^wpAny_field hos hds (x:=vu) rfl^au^wpAny_field hos hds (x:=.none) rfl^aL ?_;show au^slicePart_none ?_;change wpAny _ _ (if((1:Int)==0)=true then _ else _) _ _ s;rw[if_neg^by decide];show au^xw pl^au^xw pu^au^aL ?_;change wpAny _ _ (match Builtin.Slice.sliceAdjust lo hi 1 (n:Int) with|(lo,hi)=>pure (lo,(1:Int),Builtin.Slice.slicePlaces lo hi 1)) _ _ s;rw[F8 lo hi n];change wpAny _ _ (pure (((fz n 0 lo:Nat):Int),(1:Int),Builtin.Slice.slicePlaces ((fz n 0 lo:Nat):Int) ((fz n n hi:Nat):Int) 1)) _ _ s;rw[F9];show aL h
theorem NF(xs:Array Value)(i k:Nat):((List.range k).filterMap λ(m:Nat)=>xs[((i:Int)+(m:Int)*1).toNat]?).toArray=((xs.toList.drop i).take k).toArray:=by
 have e:(λ(m:Nat)=>xs[((i:Int)+(m:Int)*1).toNat]?)=λm=>xs[i+m]?:=by funext m;have:((i:Int)+(m:Int)*1).toNat=i+m:=∅;rw[this]
 rw[e];have:=pick_run xs i k;rw[List.filterMap_map] at this;have e2:((λx=>xs[x]?)∘λx=>i+x)=λm=>xs[i+m]?:=rfl;rw[e2] at this;rw[this]
theorem qR{t sl:Addr}{items:Array Value}{vl vu:Value}{lo hi:Option Int}{Q:Value->Shared->Prop}(ht:IsTup s.heap t items)(hs:s.heap.IsSliceOf sl vl vu .none)(pl:IsPart vl lo)(pu:IsPart vu hi)
  (hw:¬(fz items.size 0 lo=0/\fz items.size items.size hi=items.size))
  (h:Q (.ref s.heap.objs.size) { s with heap:=s.heap.push { cls:=.type "tuple", data:=.seq ((items.toList.drop (fz items.size 0 lo)).take (fz items.size items.size hi-fz items.size 0 lo)).toArray } })
  (hsz:items.size<=sizeLine):wpAny (model prog w) A (getItem (.ref t)^.ref sl) Q E s:=by
 have ID:sizeOk^.seq ((items.toList.drop^fz items.size 0 lo).take (fz items.size items.size hi-fz items.size 0 lo)).toArray:=by change((items.toList.drop^fz items.size 0 lo).take (fz items.size items.size hi-fz items.size 0 lo)).toArray.size<=sizeLine;rw[aZ,cu,wZ,dB];omega
 have hj:fz items.size items.size hi<=items.size:=WN _ _ (av _) hi;let#[os,hos,hcs,hds]:=id hs;have hTs:s.TypeIs (.ref sl) "slice" := #[os,hos,hcs];unfold getItem
 try with_reducible show wpAny_holding ?_
 first|show au (aL ?_)|skip
 show au^wpAny_sequenceKey ht.typeIs (by decide) ?_;show au (wpAny_callSpecial?_slot (name:=Str.ofString "__getitem__") ht.typeIs vP
  (wpAny_call_entry vP ht.typeIs entry_tuple_getitem ?_^args_tuple_getitem _ _))
 change wpAny _ _ (Builtin.Tuple.tupleItemsOf (.ref t) >>= _) _ _ s;show au^tupleItemsOf_ ht ?_;show au^wpAny_typeOf hTs ?_;rw[if_pos^by decide];show au^kT hs pl pu ?_;have hno:¬((((fz items.size 0 lo:Nat):Int)==0&&(1:Int)==1&&(fz items.size items.size hi-fz items.size 0 lo)==items.size)=true):=by intro q;rw[zU,zU] at q;have q1:((fz items.size 0 lo:Nat):Int)=0:=eq_of_beq q.1.1;have q2:fz items.size items.size hi-fz items.size 0 lo=items.size:=eq_of_beq q.2;show hw #[by omega,by omega]
 change wpAny _ _ (if(((fz items.size 0 lo:Nat):Int)==0&&(1:Int)==1&&(fz items.size items.size hi-fz items.size 0 lo)==items.size)=true then _ else _) _ _ s;rw[if_neg hno,NF]
 first
  | show au (m:=Builtin.Tuple.tupleExact _)^wpAny_newObj_type (aL #[_,rfl,aL h]) ID
  | show au (m:=Builtin.Tuple.tupleExact _)^wpAny_newObj_type (au^aL^aL #[_,rfl,aL h]) ID
  | show au^au (m:=Builtin.Tuple.tupleExact _)^wpAny_newObj_type (aL^aL #[_,rfl,aL h]) ID
  | show au^au (m:=Builtin.Tuple.tupleExact _)^wpAny_newObj_type (aL #[_,rfl,aL h]) ID
end HT
namespace L2
variable {its:List Value}{x:V}{v:Value}{o:Option V}{kvs:List (List Key×V)}{Q:Value->Shared->Prop}
abbrev TO:=St->Hp->(Option Int->Hp->Prop)->Prop
def PO(X:Cx)(e:Option Expr)(t:TO):Prop :=
 ∀(u5:List (Addr×Obj))(s:Shared)(σ:St)(H:Hp)(Q:Option Int->Hp->Prop),Inv X u5 σ H s->t σ H Q ->
  wpAny (model X.prog X.w) X.A (evalPart e X.env) (λu s'=>∃o H',Inv X u5 σ H' s'/\IsPart u o/\Q o H') X.xe s
def IE:TO:=λ_ H Q=>Q none H
def U0(t:TE):TO:=λσ H Q=>t σ H λx H1=>∃i,x=.int i/\Q (some i) H1
def intsAre_of:∀{us:List Value},Vals (ns.map V.int) us->IntsAre us ns:=by
 induction ns with
 | nil=>intro us r;rw[List.map_nil] at r;cases r;show .nil
 | cons n ns ih =>
  intro us r;rw[bR] at r;cases r with
  | cons r1 r2 =>
   let#[t,e]:=r1;subst e;show .cons n t^ih r2
section
variable {lo hi:Option Expr}{tl th:TO}{p2:Pos}
def gM:PO X none IE:=by intro u5 s σ H Q I h;rw[evalPart_none];show aL #[none,H,I,.none,h]
def fQ(h:PE X e te):PO X (some e)^U0 te:=by intro u5 s σ H Q I hw;rw[evalPart_some];show c9 (h u5 s σ H _ I hw) λu s1 zq=>?_;let#[x,H1,I1,r1,q1]:=zq;let#[i,rfl,q]:=q1;let#[t,rfl]:=r1;show#[some i,H1,I1,.int i t,q]
def SlR(X:Cx)(r:V->Option Int->Option Int->Hp->VK->Prop):Prop :=
 ∀(u5:List (Addr×Obj))(s:Shared)(σ:St)(H:Hp)(x:V)(v vl vu:Value)(lo hi:Option Int)(sl:Addr)(Q:VK),Inv X u5 σ H s->RelV x v->s.heap.IsSliceOf sl vl vu .none->IsPart vl lo->IsPart vu hi->r x lo hi H Q ->
  ∃T id,typeLookup (.type T) "__getitem__" = pure^some^.builtin id/\s.TypeIs v T/\wpAny (model X.prog X.w) X.A (getItem v^.ref sl) (EP X u5 σ Q) X.xe s
def tSl(r:V->Option Int->Option Int->Hp->VK->Prop)(te:TE)(tl th:TO):TE:=λσ H Q=>te σ H λx H1=>tl σ H1 λl H2=>th σ H2 λu H3=>r x l u H3 Q
def fB{r:V->Option Int->Option Int->Hp->VK->Prop}(hr:SlR X r)(he:PE X e te)(hl:PO X lo tl)(hu:PO X hi th):PE X (.Subscript e (.Slice lo hi none p2) pos)^tSl r te tl th:=by intro u5 s σ H Q I h;show Subscript_ (c9 (he u5 s σ H _ I h) λv s1 zq=>?_);let#[x,H1,I1,r1,q1]:=zq;show wpAny_Slice (c9 (hl u5 s1 σ H1 _ I1 q1) λvl s2 zq=>?_);let#[l,H2,I2,pl,q2]:=zq;show c9 (hu u5 s2 σ H2 _ I2 q2) λvu s3 zq=>?_;let#[u,H3,I3,pu,q3]:=zq;rw[evalPart_none];show aL ?_;have I4:Inv X u5 σ H3 { s3 with heap:=s3.heap.push { cls:=.type "slice", data:=.fields #v[vl,vu,.none] } }:=I3.kept (t':=s3.toks) λb ob q=>dY _ q;let#[T,id,hT,ht,hg]:=hr u5 { s3 with heap:=s3.heap.push { cls:=.type "slice", data:=.fields #v[vl,vu,.none] } } σ H3 x v vl vu l u s3.heap.objs.size Q I4 r1 (Heap.IsSliceOf.new ..) pl pu q3;change wpAny (model X.prog X.w) X.A (subscriptTail e (.Slice lo hi none p2) v^.ref s3.heap.objs.size) (EP X u5 σ Q) X.xe { s3 with heap:=s3.heap.push { cls:=.type "slice", data:=.fields #v[vl,vu,.none] } };show tail_any (ops:=[.ref s3.heap.objs.size,v]) ht hT hg (by with_unfolding_all rfl)
noncomputable def gc(xs:List V)(lo hi:Option Int):List V:=(xs.drop^HT.fz xs.length 0 lo).take (HT.fz xs.length xs.length hi-HT.fz xs.length 0 lo)
theorem nL(xs:List V)(lo hi:Option Int):(gc xs lo hi).length<=xs.length:=by unfold gc;rw[cu,wZ];lia
def aae(K:az):V->Option Int->Option Int->Hp->VK->Prop:=λx lo hi H Q=>∃a xs,x=.ref a/\dJ K H a xs /\
 ¬(HT.fz xs.length 0 lo=0/\HT.fz xs.length xs.length hi=xs.length)/\∀p,H p=none->Q (.ref p)^upd H p^.tup^gc xs lo hi
def lS:SlR X^aae X.K:=by
 intro u5 s σ H x v vl vu lo hi sl Q I rx hs pl pu h;let#[a,xs,rfl,hx,hw,q]:=h;cases rx;let#[its,r,ht,hz]:=I.tuple hx;have hlen:its.toArray.size=xs.length:=by rw[aZ];show r.length.symm
 show#["tuple", _,PyProof.Rows.slot_tuple_getitem.lookup,ht.typeIs,?_];show HT.qR ht hs pl pu (by rw[hlen];show hw) ?_ (by rw[hlen];show hz);rw[hlen];show#[.ref s.heap.objs.size,_,I.laid (t':=s.toks) (o:=.tup^gc xs lo hi) (λb ob q=>dY _ q) (av _) ?_,rfl,q _^I.hok.fresh^av _];show#[bg (nL xs lo hi) hz,_,(r.drop^HT.fz xs.length 0 lo).take (HT.fz xs.length xs.length hi-HT.fz xs.length 0 lo),IsTup.new _ _]
def U1(K:az):R2:=λx y H Q=>∃a b xs ys,x=.ref a/\y=.ref b/\dJ K H a xs/\dJ K H b ys/\xs≠[]/\xs.length+ys.length<=sizeLine /\
 (ys=[]->Q (.ref a) H)/\(ys≠[]->∀p,H p=none->Q (.ref p)^upd H p^.tup (xs++ys))
def Vals.vV(r:Vals xs us):us=[]↔xs=[]:=by
 cases r with
 | nil=>simp
 | cons _ _=>simp
def lT:nu X (binaryOp .Add)^U1 X.K:=by intro u5 s σ H x y v u Q I rx ry h;let#[a,b,xs,ys,rfl,rfl,ha,hb,hx,hz,q1,q2]:=h;cases rx;cases ry;let#[its,r1,p1,_]:=I.tuple ha;let#[its2,r2,p2,_]:=I.tuple hb;show HT.RZ p1 p2 (λz=>hx^r1.vV.mp z) (λz=>#[.ref a,H,I,rfl,q1^r2.vV.mp z]) (λz=>?_) (by rw[<- r1.length,<- r2.length];show hz);show#[.ref s.heap.objs.size,_,I.laid (t':=s.toks) (o:=.tup (xs++ys)) (λb ob q=>dY _ q) (av _) ?_,rfl,q2 (λw=>z^r2.vV.mpr w) _^I.hok.fresh^av _];show#[by rw[aF];show hz,_,r1.append r2,IsTup.new _ _]
end
noncomputable def NG(n:Nat)(i:Int):Option Nat:=if 0<=i then(if i<n then some i.toNat else none) else if -(n:Int)<=i then some (i+n).toNat else none
noncomputable def tH{α:Type}(xs:List α)(i:Int):Option α:=(NG xs.length i).bind λj=>xs[j]?
theorem IF{i:Int}(h:NG n i=some j):seqIndex? i n=some j/\j<n /\ -(n:Int)<=i/\i<n:=by unfold NG at h;by_cases h0:0<=i;rw[if_pos h0] at h;by_cases h1:i<n;rw[if_pos h1] at h;have e:i.toNat=j:=Option.some.inj h;show#[by rw[seqIndex_of h0 h1,e],∅,∅,h1];rw[if_neg h1] at h;cases h;rw[if_neg h0] at h;by_cases h1:-(n:Int)<=i;rw[if_pos h1] at h;have e:(i+n).toNat=j:=Option.some.inj h;show#[by rw[seqIndex_neg ∅ h1,e],∅,h1,∅];rw[if_neg h1] at h;cases h
def Be{α:Type}{xs:List α}{i:Int}{v:α}(h:tH xs i=some v):∃j,seqIndex? i xs.length=some j/\xs[j]?=some v/\j<xs.length /\ -(xs.length:Int)<=i/\i<xs.length:=by
 unfold tH at h;cases e:NG xs.length i with
 | none=>rw[e] at h;cases h
 | some j =>
  rw[e] at h;let#[h1,h2,h3,h4]:=IF e;show#[j,h1,h,h2,h3,h4]
theorem fR{α:Type}{xs:List α}{v:α}(h:xs[j]?=some v):tH xs (j:Int)=some v:=by
 have hj:j<xs.length:=(e9 h).1;have e:NG xs.length (j:Int)=some j:=by unfold NG;rw[if_pos ∅,if_pos ∅];simp
 unfold tH;rw[e];show h
def IG(b:Expr):Prop:=∀o i,subscripted b false o i=operate [o,i]^getItem o i
def WO(X:Cx)(r:R2):Prop :=
 ∀(value slice:Expr)(u5:List (Addr×Obj))(s:Shared)(σ:St)(H:Hp)(x y:V)(v u:Value)(Q:VK),Inv X u5 σ H s->RelV x v->RelV y u->r x y H Q ->
  subscripted slice false v u=operate [v,u]^getItem v u->wpAny (model X.prog X.w) X.A (subscriptTail value slice v u) (EP X u5 σ Q) X.xe s
def MtR(X:Cx)(id:String)(r:V->List V->Hp->VK->Prop):Prop :=
 ∀(u5:List (Addr×Obj))(s:Shared)(σ:St)(H:Hp)(x:V)(xs:List V)(v:Value)(us:List Value)(Q:VK),Inv X u5 σ H s->RelV x v->Vals xs us->r x xs H Q ->
  wpAny (model X.prog X.w) X.A (call (.builtin id) (v::us)) (EP X u5 σ Q) X.xe s
section
variable {a b:Expr}
def aag{r:R2}(hr:WO X r)(ha:PE X a ta)(hb:PE X b tb)(hs:IG b):PE X (.Subscript a b pos)^RS r ta tb:=by intro u5 s σ H Q I h;show Subscript_ (WD ha hb I h λv u s2 x y H2 I2 rx ry q=>hr a b u5 s2 σ H2 x y v u Q I2 rx ry q^hs _ _)
def WQ(K:az):R2:=λx y H Q=>∃p xs i v,x=.ref p/\y=.int i/\bG K H p xs/\tH xs i=some v/\Q v H
def WR(K:az):R2:=λx y H Q=>∃p xs i v,x=.ref p/\y=.int i/\dJ K H p xs/\tH xs i=some v/\Q v H
def aah:R2:=λx y H Q=>∃z i c,x=.str z/\y=.int i/\z.length<=sizeLine/\tH z.cps.toList i=some c/\Q (.str #[#v[c]]) H
theorem b8:WO X^WQ X.K:=by
 intro value slice u5 s σ H x y v u Q I rx ry h hs;let#[p,xs,i,z,rfl,rfl,hq,he,q]:=h;cases rx;let#[t,rfl]:=ry;let#[its,r,pl,hz]:=I.list hq;let#[j,h1,h2,h3,h4,h5]:=Be he;let#[w,ew,rw']:=r.get h2;have hl:=r.length;have hn:=tG;have fin:EP X u5 σ Q w s:=#[z,H,I,rw',q];by_cases h0:0<=i
 .have hj:i.toNat=j:=by rw[seqIndex_of h0 h5] at h1;show Option.some.inj h1
  show item_listR pl.isList h0 ∅ (by rw[hj];simpa using ew) fin hs
 .have hj:(i+(its.toArray.size:Int)).toNat=j:=by rw[seqIndex_neg ∅ h4] at h1;rw[aZ,<- hl];show Option.some.inj h1
  show subscriptTail_builtinR (x:=w) pl.isList.typeIs slot_list_getitem.lookup
   (wpAny_getItem_list_neg (Q:=λr s'=>r=w/\EP X u5 σ Q r s') pl.isList ∅ (by rw[aZ]<;>lia) ∅ (by rw[hj];simpa using ew) #[rfl,fin]) hs
theorem aR:WO X^WR X.K:=by
 intro value slice u5 s σ H x y v u Q I rx ry h hs;let#[p,xs,i,z,rfl,rfl,hq,he,q]:=h;cases rx;let#[t,rfl]:=ry;let#[its,r,pl,hz]:=I.tuple hq;let#[j,h1,h2,h3,h4,h5]:=Be he;let#[w,ew,rw']:=r.get h2;have hl:=r.length;have hn:=tG;have fin:EP X u5 σ Q w s:=#[z,H,I,rw',q];show subscriptTail_builtinR (x:=w) pl.typeIs slot_tuple_getitem.lookup
  (getItem_tuple (j:=j) (Q:=λr s'=>r=w/\EP X u5 σ Q r s') pl ∅ ∅ (by rw[aZ,<- hl];show h1) (by simpa using ew) #[rfl,fin]) hs
theorem xy:WO X aah:=by
 intro value slice u5 s σ H x y v u Q I rx ry h hs;let#[z,i,c,rfl,rfl,hz,he,q]:=h;let#[t,rfl]:=rx;let#[t',rfl]:=ry;let#[j,h1,h2,h3,h4,h5]:=Be he;have hl:z.cps.toList.length=z.length:=by simp[Str.length]
 rw[hl] at h1 h4 h5;have hn:=tG;show tail_any (typeIs_str s z t) slot_str_getitem.lookup (getItem_str (c:=c) (by
  have e1:decide (i < -(2 ^ 63:Int))=false:=decide_eq_false ∅;have e2:decide (i>=2 ^ 63)=false:=decide_eq_false ∅;rw[e1,e2,Bool.or_false]) (by rw[h1];simpa using h2) #[.str #[#v[c]],H,I.tok _,#[_,rfl],q]) hs
def Ga(its:List Value)(n j:Nat)(u:Value):Obj.mapSeq (·.setIfInBounds j u) { cls:=.type "list", data:=.seq its.toArray n }={ cls:=.type "list", data:=.seq (its.set j u).toArray n }:=by simp[Obj.mapSeq]
theorem Inv.lst{u5:List (Addr×Obj)}{σ:St}{H:Hp}{s:Shared}{p:Addr}{xs:List V}(I:Inv X u5 σ H s)(h:H p=some^.lst xs):
  ∃(its:List Value)(n:Nat),Vals xs its/\s.heap.get? p=some { cls:=.type "list", data:=.seq its.toArray n }/\xs.length<=sizeLine:=by let#[z,its,n,r,e]:=I.hok p _ h;show#[its,n,r,e,z]
def Inv.WT{σ:St}{p:Addr}{ys:List V}{its':List Value}{n':Nat}{f:Obj->Obj}(I:Inv X u5 σ H s)(h:H p=some^.lst xs)
  (ho:s.heap.get? p=some { cls:=.type "list", data:=.seq its.toArray n })(hf:f { cls:=.type "list", data:=.seq its.toArray n }={ cls:=.type "list", data:=.seq its'.toArray n' })(r:Vals ys its')(hz:ys.length<=sizeLine)(t:Nat):
  Inv X u5 σ (upd H p^.lst ys) { s with heap:=s.heap.update p f,toks:=t }:=by
 have e:(s.heap.update p f).get? p=some { cls:=.type "list", data:=.seq its'.toArray n' }:=by rw[fj f ho (by rw[hf]<;>rfl),hf]
 show I.write (x:=p) (e:=p) (by rw[h];trivial) (.inl rfl) (λb u hb q=>(fZ _ _^aQ hb).trans q) #[_,e] ?_;show#[hz,its',n',r,e]
def U3:V->V->V->Hp->(Hp->Prop)->Prop:=λo i v H Q=>∃p xs k j,o=.ref p/\i=.int k/\H p=some^.lst xs/\NG xs.length k=some j/\Q^upd H p^.lst^xs.set j v
theorem set_list:ZY X U3:=by
 intro u5 s σ H o i v ov iv u Q I ro ri rv h;let#[p,xs,k,j,rfl,rfl,hp,hj,q]:=h;cases ro;let#[t,rfl]:=ri;let#[its,n,r,ho,hz]:=I.lst hp;let#[h1,h2,h3,h4]:=IF hj;have hl:=r.length;have hn:=tG;have I':Inv X u5 σ (upd H p^.lst^xs.set j v) { s with heap:=s.heap.update p (Obj.mapSeq (·.setIfInBounds j u)) } :=
  I.WT hp ho (Ga its n j u) (r.set rv j) (by rw[qf];show hz) s.toks
 by_cases h0:0<=k
 .have hk:k.toNat=j:=by rw[seqIndex_of h0 h4] at h1;show Option.some.inj h1
  show PySem.W.ki_setAt ho h0 ∅ (by rw[aZ,<- hl];show h4) (by rw[hk];show#[_,I',q])
 .have hk:(k+(its.toArray.size:Int)).toNat=j:=by rw[seqIndex_neg ∅ h3] at h1;rw[aZ,<- hl];show Option.some.inj h1
  show PySem.W.ki_setBack ho ∅ (by rw[aZ,<- hl];show h3) ∅ (by rw[hk];show#[_,I',q])
theorem Bf(lo hi:Option Int)(n:Nat):(sliceBounds lo hi none n).1=((HT.fz n 0 lo:Nat):Int)/\(sliceBounds lo hi none n).2.1=((HT.fz n n hi:Nat):Int)/\(sliceBounds lo hi none n).2.2=1:=by
 show#[?_,?_,rfl]
 .cases lo with
  | none=>simp[sliceBounds,HT.fz]
  | some i =>
   erw[sliceBounds,HT.fz,Option.getD_none,show(1:Int)>0 by decide,if_true];by_cases h:i<0;erw[h,if_true]<;>lia;erw[h,if_false]<;>lia
 .cases hi with
  | none=>simp[sliceBounds,HT.fz]
  | some i =>
   erw[sliceBounds,HT.fz,Option.getD_none,show(1:Int)>0 by decide,if_true];by_cases h:i<0;erw[h,if_true]<;>lia;erw[h,if_false]<;>lia
def zC(its:List Value)(lo hi:Option Int):slicePick its.toArray lo hi none=((its.drop^HT.fz its.length 0 lo).take (HT.fz its.length its.length hi-HT.fz its.length 0 lo)).toArray:=by let#[h1,h2,h3]:=Bf lo hi its.toArray.size;unfold slicePick;rw[h1,h2,h3];erw[sliceRange_one,pick_run,aZ]<;>rfl
def aai(K:az):V->Option Int->Option Int->Hp->VK->Prop:=λx lo hi H Q=>∃a xs,x=.ref a/\bG K H a xs/\∀p,H p=none->Q (.ref p)^upd H p^.lst^gc xs lo hi
theorem vW:SlR X^aai X.K:=by intro u5 s σ H x v vl vu lo hi sl Q I rx hs pl pu h;let#[a,xs,rfl,hx,q]:=h;cases rx;let#[its,r,ht,hz]:=I.list hx;have hlen:=r.length;show#["list", _,slot_list_getitem.lookup,ht.isList.typeIs,?_];show wpAny_getItem_list_slice ht.isList hs pl pu .none (by simp) ?_ (by rw[aZ]<;>lia);rw[zC,<- hlen];show#[.ref s.heap.objs.size,_,I.laid (t':=s.toks) (o:=.lst^gc xs lo hi) (λb ob q=>dY _ q) (av _) ?_,rfl,q _^I.hok.fresh^av _];show#[bg (nL xs lo hi) hz,_,0,(r.drop^HT.fz xs.length 0 lo).take (HT.fz xs.length xs.length hi-HT.fz xs.length 0 lo),iI _ rfl]
noncomputable def kU:V->Bool
 | .eW=>true
 | .bl _=>true
 | .int _=>true
 | .str _=>true
 | _=>false
noncomputable def R3:V->V->Bool
 | .eW,.eW=>true
 | .bl a,.bl b=>a==b
 | .bl a,.int b=>(if a then 1 else 0)==b
 | .int a,.bl b=>a==(if b then 1 else 0)
 | .int a,.int b=>a==b
 | .str a,.str b=>a==b
 | _,_=>false
def WU(ry:RelV y u)(rx:RelV x v)(fy:kU y=true)(fx:kU x=true):SeqAt.EqAt A s u v^R3 y x:=by
 cases y with
 | eW =>
  cases ry;cases x with
  | eW=>cases rx;show SeqAt.EqAt.same _
  | bl b=>cases rx;show SeqAt.EqAt.none_bool b
  | int b=>let#[t,rfl]:=rx;show SeqAt.EqAt.none_int b t
  | str b=>let#[t,rfl]:=rx;show SeqAt.EqAt.none_str b t
  | _=>show absurd (show false=true from fx) lG
 | bl a =>
  cases ry;cases x with
  | eW=>cases rx;show SeqAt.EqAt.bool_none a
  | bl b=>cases rx;show SeqAt.EqAt.bool_bool a b
  | int b=>let#[t,rfl]:=rx;show SeqAt.EqAt.bool_int a b t
  | str b=>let#[t,rfl]:=rx;show SeqAt.EqAt.bool_str a b t
  | _=>show absurd (show false=true from fx) lG
 | int a =>
  let#[t',rfl]:=ry;cases x with
  | eW=>cases rx;show SeqAt.EqAt.int_none a t'
  | bl b=>cases rx;show SeqAt.EqAt.int_bool a t' b
  | int b=>let#[t,rfl]:=rx;show SeqAt.EqAt.int_int a t' b t
  | str b=>let#[t,rfl]:=rx;show SeqAt.EqAt.int_str a t' b t
  | _=>show absurd (show false=true from fx) lG
 | str a =>
  let#[t',rfl]:=ry;cases x with
  | eW=>cases rx;show SeqAt.EqAt.str_none a t'
  | bl b=>cases rx;show SeqAt.EqAt.str_bool a t' b
  | int b=>let#[t,rfl]:=rx;show SeqAt.EqAt.str_int a t' b t
  | str b=>let#[t,rfl]:=rx;show SeqAt.EqAt.str_str a t' b t
  | _=>show absurd (show false=true from fx) lG
 | _=>show absurd (show false=true from fy) lG
noncomputable def Gb(x:V)(u:Value):Bool:=match u with
 | .none=>R3 .eW x
 | .bool b=>R3 (.bl b) x
 | .int i _=>R3 (.int i) x
 | .str z _=>R3 (.str z) x
 | _=>false
def NH(r:RelV y u)(f:kU y=true):Gb x u=R3 y x:=by
 cases y with
 | eW=>cases r;rfl
 | bl b=>cases r;rfl
 | int i=>let#[t,rfl]:=r;rfl
 | str z=>let#[t,rfl]:=r;rfl
 | _=>show absurd (show false=true from f) lG
def vX:∀{xs:List V}{us:List Value},Vals xs us->xs.all kU=true->us.any^Gb x=xs.any λy=>R3 y x:=by
 intro xs us h f;induction h with
 | nil=>rfl
 | cons r t ih =>
  rw[List.all_cons,zU] at f;rw[kI,kI,NH r f.1,ih f.2]
def qS(rx:RelV x v)(fx:kU x=true):∀{xs:List V}{us:List Value},Vals xs us->xs.all kU=true->∀u∈us,SeqAt.EqAt A s u v^Gb x u:=by
 intro xs us h f;induction h with
 | nil=>show λu hu=>nomatch hu
 | cons r t ih =>
  rw[List.all_cons,zU] at f;intro u hu;rcases aG.mp hu with rfl|hu;rw[NH r f.1];show WU r rx f.1 fx;show ih f.2 u hu
noncomputable def uI(x:V)(xs:List V):Bool:=xs.any λy=>R3 y x
def rIn(K:az)(neg:Bool):R2:=λx y H Q=>∃p xs,y=.ref p/\(bG K H p xs\/dJ K H p xs)/\kU x=true/\xs.all kU=true/\Q (.bl (if neg then !uI x xs else uI x xs)) H
def iS:nu X (compareOp .In)^rIn X.K false:=by
 intro u5 s σ H x y v u Q I rx ry h;let#[p,xs,rfl,hq,fx,fs,q]:=h;cases ry;rcases hq with hq|hq
 .let#[its,r,pl,hz]:=I.list hq;show SeqAt.in_listAt (Gb x) pl.isList (λw hw=>qS rx fx r fs w^by simpa using hw) #[.bl _,H,I,rfl,?_];rw[show its.toArray.any^Gb x=its.any (Gb x) by simp,vX r fs];show q
 .let#[its,r,pl,hz]:=I.tuple hq;show SeqAt.in_tupleAt (Gb x) pl (λw hw=>qS rx fx r fs w^by simpa using hw) #[.bl _,H,I,rfl,?_];rw[show its.toArray.any^Gb x=its.any (Gb x) by simp,vX r fs];show q
def lU:nu X (compareOp .NotIn)^rIn X.K true:=by
 intro u5 s σ H x y v u Q I rx ry h;let#[p,xs,rfl,hq,fx,fs,q]:=h;cases ry;rcases hq with hq|hq
 .let#[its,r,pl,hz]:=I.list hq;show SeqAt.notIn_listAt (Gb x) pl.isList (λw hw=>qS rx fx r fs w^by simpa using hw) #[.bl _,H,I,rfl,?_];rw[show its.toArray.any^Gb x=its.any (Gb x) by simp,vX r fs];show q
 .let#[its,r,pl,hz]:=I.tuple hq;show SeqAt.notIn_tupleAt (Gb x) pl (λw hw=>qS rx fx r fs w^by simpa using hw) #[.bl _,H,I,rfl,?_];rw[show its.toArray.any^Gb x=its.any (Gb x) by simp,vX r fs];show q
theorem Bg:dP X (.builtin "len") (λxs H Q=>∃p ys,xs=[.ref p]/\(bG X.K H p ys\/dJ X.K H p ys)/\Q (.int ys.length) H):=by
 intro u5 s σ H xs us Q I r h;let#[p,ys,rfl,hq,q]:=h;let#[u,rfl,rx]:=vals1 r;cases rx;have hn:=tG;rcases hq with hq|hq
 .let#[its,r',pl,hz]:=I.list hq;have hlen:=r'.length;show Calls.call_len_list pl.isList (by erw[aZ]<;>lia) #[.int ys.length,H,I.tok _,#[s.toks+1,by rw[aZ,hlen]],q]
 .let#[its,r',pl,hz]:=I.tuple hq;have hlen:=r'.length;show len_tuple pl (by erw[aZ]<;>lia) #[.int ys.length,H,I.tok _,#[s.toks+1,by rw[aZ,hlen]],q]
theorem Bh:dP X (.type "list") (λxs H Q=>∃p ys,xs=[.ref p]/\(bG X.K H p ys\/dJ X.K H p ys)/\∀l,H l=none->Q (.ref l)^upd H l^.lst ys):=by
 intro u5 s σ H xs us Q I r h;let#[p,ys,rfl,hq,q]:=h;let#[u,rfl,rx]:=vals1 r;cases rx;have fin:∀(its:List Value),Vals ys its->ys.length<=sizeLine->∀(h':Heap)(c':Nat),(∀b o',s.heap.get? b=some o'->h'.get? b=some o') ->
   h'.get? s.heap.objs.size=some { cls:=.type "list", dict:=none,data:=.seq its.toArray c',slots:=#[] }->EP X u5 σ Q (.ref s.heap.objs.size) { s with heap:=h' }:=λits r' hz h' c' kp e =>
  #[.ref s.heap.objs.size,_,I.laid (t':=s.toks) kp (av _)^show dj X.prog X.w _ h' _^.lst ys from#[hz,its,c',r',e],rfl,q _^I.hok.fresh^av _]
 rcases hq with hq|hq;let#[its,r',pl,hz]:=I.list hq;have hlen:=r'.length;let#[o,ho,hc,n,hd]:=pl.isList;show call_list_seq p (.inl rfl) ho hc hd (λh' c' kp e=>fin its r' hz h' c' kp e) (by erw[aZ]<;>lia);let#[its,r',pl,hz]:=I.tuple hq;have hlen:=r'.length;let#[o,ho,hc,n,hd]:=pl;show call_list_seq p (.inr rfl) ho hc hd (λh' c' kp e=>fin its r' hz h' c' kp e) (by erw[aZ]<;>lia)
theorem zD:dP X (.type "tuple") (λxs H Q=>∃p ys,xs=[.ref p]/\((bG X.K H p ys/\∀l,H l=none->Q (.ref l)^upd H l^.tup ys)\/(dJ X.K H p ys/\Q (.ref p) H))):=by
 intro u5 s σ H xs us Q I r h;let#[p,ys,rfl,h]:=h;let#[u,rfl,rx]:=vals1 r;cases rx;rcases h with⟨hq,q⟩|⟨hq,q⟩
 .let#[its,r',pl,hz]:=I.list hq;have hlen:=r'.length;show call_tuple_list pl.isList (λh' kp=>?_) (by erw[aZ]<;>lia);have I1:Inv X u5 σ H { s with heap:=h' }:=I.kept (t':=s.toks) kp;have I2:Inv X u5 σ (upd H h'.objs.size^.tup ys) { s with heap:=h'.push { cls:=.type "tuple", data:=.seq its.toArray } } :=
   I1.laid (t':=s.toks) (λb o e=>dY _ e) (av _) (show dj X.prog X.w _ _ _^.tup ys from#[hz,its,r',IsTup.new _ _])
  show#[.ref h'.objs.size,_,I2,rfl,q _^I1.hok.fresh^av _]
 .let#[its,r',pl,hz]:=I.tuple hq;show call_tuple_same pl #[.ref p,H,I,rfl,q]
def Zh(K:az)(T:String)(x:V)(H:Hp):Prop:=match x with
 | .str _=>T = "str"
 | .int _=>T = "int"
 | .ref p=>(T = "list" /\ ∃xs,bG K H p xs)\/(T = "tuple" /\ ∃o,K.lookup p=some o/\o.cls=.type "tuple" /\ o.dict=none) \/
   (T = "dict" /\ ((∃kvs,H p=some^.dK kvs)\/∃kvs,H p=some^.dT kvs))\/(T = "set" /\ ∃S n,H p=some^.set S n)
 | _=>False
def NI{σ:St}(I:Inv X u5 σ H s)(r:RelV x v)(ty:Zh X.K T x H):
  s.TypeIs v T/\∀a,v=.ref a->∃ob,s.heap.get? a=some ob/\ob.dict=none:=by
 cases x with
 | str z =>
  let#[t,rfl]:=r;cases(show T = "str" from ty);show#[typeIs_str s z t,λ_ e=>nomatch e]
 | int i =>
  let#[t,rfl]:=r;cases(show T = "int" from ty);show#[typeIs_int s i t,λ_ e=>nomatch e]
 | ref p =>
  cases r;rcases ty with⟨rfl,xs,hq⟩|⟨rfl,o,hk,hc,hd⟩|⟨rfl,hk⟩|⟨rfl,S,n,hk⟩
  .let#[its,_,pl,_]:=I.list hq;show#[pl.isList.typeIs,λa e=>?_];cases e;let#[o,n,e,c,hd,_]:=pl;show#[o,e,hd]
  .show#[#[o,I.zB p o hk,hc],λa e=>?_];cases e;show#[o,I.zB _ o hk,hd]
  .have z:∃o,s.heap.get? p=some o/\o.ExactDict:=by rcases hk with⟨kvs,hk⟩|⟨kvs,hk⟩;let#[_,_,_,_,o,_,_,e,ex,_]:=I.hok p _ hk;show#[o,e,ex];let#[_,_,_,_,o,_,_,e,ex,_]:=I.hok p _ hk;show#[o,e,ex]
   let#[o,e,ex]:=z;show#[#[o,e,ex.1],λa e2=>?_];cases e2;show#[o,e,ex.2.1]
  .let#[o,_,_,_,e,ex,_]:=I.hok p _ hk;show#[#[o,e,ex.1],λa e2=>?_];cases e2;show#[o,e,ex.2.1]
 | _=>show False.elim ty
def aak(K:az)(T:String)(r:V->List V->Hp->VK->Prop)(to:TE):TE:=λσ H Q=>to σ H λx H1=>Zh K T x H1/\r x [] H1 Q
def tBM(K:az)(T:String)(r:V->List V->Hp->VK->Prop)(to:TE)(t:TA):TE:=λσ H Q=>to σ H λx H1=>Zh K T x H1/\t σ H1 λxs H2=>r x xs H2 Q
variable {o:Expr}{t:TA}{id:String}
def Bj(pa:PlainAttrs T)(slot:Slot T name id)(hty:typeOf^.builtin id=pure^.type "method_descriptor")(hm:MtR X id r)(ho:PE X o to)(hbase:attributeBase o name X.env^eval o X.env=eval o X.env)(hline:(apos.endLine==cpos.line)=true):PE X (.Call (.Attribute o name apos) [] [] cpos)^aak X.K T r to:=by intro u5 s σ H Q I h;show wpAny_Call_method0_late hbase hline (c9 (ho u5 s σ H _ I h) λv s1 zq=>?_);let#[x,H1,I1,r1,ty,q1]:=zq;let#[h1,h2]:=NI I1 r1 ty;show#[T,id,pa,slot,hty,h1,h2,sP rfl^PySem.evalArgs_none^hm u5 s1 σ H1 x [] v [] Q I1 r1 .nil q1]
def gf(pa:PlainAttrs T)(slot:Slot T name id)(hty:typeOf^.builtin id=pure^.type "method_descriptor")(hm:MtR X id r)(ho:PE X o to)(ha:PA X (e::es) t)
  (hbase:attributeBase o name X.env^eval o X.env=eval o X.env:=by rfl)
  (hfew:((backTo cpos^starEach (e::es) X.env).all (λx=>!x.1)&&(backToKw cpos^keywordEach [] X.env).all (λx=>x.1.isSome)
   && decide ((e::es).length+([]:List Keyword).length+(if([]:List Keyword).isEmpty then 0 else 1)<30))=true:=by rfl)
  (hline:(apos.endLine==cpos.line)=true:=by rfl)(hs:starEach (e::es) X.env=(false,eval e X.env)::starEach es X.env:=by rfl)(hplain:(backTo cpos^starEach es X.env).any (·.1)=false:=by rfl):
  PE X (.Call (.Attribute o name apos) (e::es) [] cpos)^tBM X.K T r to t:=by intro u5 s σ H Q I h;show wpAny_Call_method_late hbase hfew hline rfl (c9 (ho u5 s σ H _ I h) λv s1 zq=>?_);let#[x,H1,I1,r1,ty,q1]:=zq;let#[h1,h2]:=NI I1 r1 ty;show#[T,id,pa,slot,hty,h1,h2,?_];have hA:=ha cpos u5 s1 σ H1 _ I1 q1;rw[hs] at hA ⊢;show sP (by change(false||(backTo cpos^starEach es X.env).any (·.1))=false;rw[hplain]<;>rfl)^Calls.evalArgs_plain ?_;show c9 hA λus s2 zq=>?_;let#[vs,H2,I2,r2,q2]:=zq;show hm u5 s2 σ H2 x vs v us Q I2 r1 r2 q2
end
def MtM(X:Cx)(id:String)(r:V->List V->Hp->VK->Prop):Prop :=
 ∀(u5:List (Addr×Obj))(s:Shared)(σ:St)(H:Hp)(x:V)(xs:List V)(v:Value)(us:List Value)(Q:VK),Inv X u5 σ H s->RelV x v->Vals xs us->r x xs H Q ->
  wpAny (model X.prog X.w) X.A (call (.builtin id) (v::us)) (EP X u5 σ Q) X.xe s
theorem Vals.one(h:Vals [x] us):∃u,us=[u]/\RelV x u:=by cases h with | cons r t=>cases t;show#[_,rfl,r]
theorem Vals.zero:∀{us:List Value},Vals [] us->us=[]
 | _,.nil=>rfl
theorem Vals.dropLast(h:Vals xs us):Vals xs.dropLast us.dropLast:=by
 induction h with
 | nil=>show .nil
 | cons r t ih =>
  cases t with
  | nil=>show .nil
  | cons q t'=>show .cons r ih
theorem Vals.reverse(h:Vals xs us):Vals xs.reverse us.reverse:=by
 induction h with
 | nil=>show .nil
 | cons r t ih=>rw[qi,qi];show Vals.append ih^.cons r .nil
theorem Gd{α:Type}(l:List α):l.eraseIdx (l.length-1)=l.dropLast:=by
 induction l with
 | nil=>rfl
 | cons a r ih =>
  cases r with
  | nil=>rfl
  | cons b r =>
   have e:(a::b::r).length-1=((b::r).length-1)+1:=by have h1:(a::b::r).length=r.length+2:=rfl;have h2:(b::r).length=r.length+1:=rfl;lia
   rw[e,List.eraseIdx_cons_succ,ih]
   all_goals rfl
section
variable {σ:St}{ys zs:List V}
def Inv.WV{its':List Value}{f:Array Value->Array Value}(I:Inv X u5 σ H s)(hH:H l=some^.lst xs)
  (e:s.heap.get? l=some { cls:=.type "list", data:=.seq its.toArray n })(hf:f its.toArray=its'.toArray)(hv:Vals ys its')(hz:ys.length<=sizeLine):
  Inv X u5 σ (upd H l^.lst ys) { s with heap:=s.heap.update l (Obj.mapSeq f),toks:=t' }:=by have q:=PySem.IsL.update e f;rw[hf] at q;show I.write (x:=l) (e:=l) (by rw[hH];show trivial) (.inl rfl) (λb' u hb hu=>(fZ s.heap (Obj.mapSeq f)^aQ hb).trans hu) #[_,q] ?_;show#[hz,its',_,hv,q]
def Inv.afc(I:Inv X u5 σ H s)(hv:Vals ys its)(hz:ys.length<=sizeLine):
  Inv X u5 σ (upd H s.heap.objs.size^.lst ys) { s with heap:=s.heap.push { cls:=.type "list", data:=.seq its.toArray },toks:=t' } :=
 I.laid (λ_ _ q=>dY _ q) (av _) #[hz,its,0,hv,iI _ rfl]
theorem Inv.fresh(I:Inv X u5 σ H s):H s.heap.objs.size=none:=I.hok.fresh^av _
def Inv.KJ(I:Inv X u5 σ H s)(hH:H l=some^.lst xs):xs.length<=sizeLine/\∃(its:List Value)(n:Nat),Vals xs its/\xs.length=its.length/\s.heap.get? l=some { cls:=.type "list", data:=.seq its.toArray n }:=by let#[z,its,n,r,e]:=I.hok l _ hH;show#[z,its,n,r,r.length,e]
theorem NJ(h:n<=sizeLine):Builtin.List.listTooLong n=false:=by unfold Builtin.List.listTooLong;show decide_eq_false ∅
end
def II:V->List V->Hp->VK->Prop:=λx vs H Q=>∃l xs y,x=.ref l/\vs=[y]/\H l=some^.lst xs/\xs.length<sizeLine/\Q .eW^upd H l^.lst (xs++[y])
theorem dH:MtM X "list.append" II:=by intro u5 s σ H x vs v us Q I rx rv h;let#[l,xs,y,rfl,rfl,hH,hz,q]:=h;cases rx;let#[u,rfl,ru]:=rv.one;let#[z,its,n,r,hl,e]:=I.KJ hH;show call_meets F.slot_list_append #[_,e,rfl] F.entry_list_append (F.args_list_append_2 _ _) (PySem.list_append l its.toArray n u (by rw[aZ];lia)) #[e,?_];show#[.eW,_,I.WV (its':=its++[u]) hH e (by simp) (r.append^.cons ru .nil) ?_,rfl,q];rw[aF,gF];lia
def IJ:V->List V->Hp->VK->Prop:=λx vs H Q=>∃l b xs zs,x=.ref l/\vs=[.ref b]/\H l=some^.lst xs/\H b=some^.lst zs/\xs.length+zs.length<=sizeLine/\Q .eW^upd H l^.lst (xs++zs)
theorem gY:MtM X "list.extend" IJ:=by
 intro u5 s σ H x vs v us Q I rx rv h;let#[l,b,xs,zs,rfl,rfl,hH,hB,hz,q]:=h;cases rx;let#[u,rfl,ru]:=rv.one;cases ru;let#[z,its,n,r,hl,e]:=I.KJ hH;let#[z2,its2,n2,r2,hl2,e2]:=I.KJ hB;have hsz:its.toArray.size+its2.toArray.size<=sizeLine:=by rw[aZ,aZ];lia
 have aal:¬(!its.toArray.isEmpty&&Builtin.List.listTooLong (its.toArray.size+its2.toArray.size))=true:=by rw[NJ hsz,Bool.and_false];show lG
 show call_meets F.slot_list_extend #[_,e,rfl] F.entry_list_extend (F.args_list_extend_2 _ _)
  (AutoSeq1.list_extend_list_list_0 l its.toArray n b its2.toArray n2 aal (by rw[aZ];lia) ∅) #[e,e2,?_]
 show#[.eW,_,I.WV (its':=its++its2) hH e (by simp) (r.append r2) ?_,rfl,q];rw[aF];lia
def aam:V->List V->Hp->VK->Prop:=λx vs H Q=>∃l xs y,x=.ref l/\vs=[]/\H l=some^.lst xs/\xs[xs.length-1]?=some y/\Q y^upd H l^.lst xs.dropLast
theorem Bk:MtM X "list.pop" aam:=by
 intro u5 s σ H x vs v us Q I rx rv h;let#[l,xs,y,rfl,rfl,hH,hy,q]:=h;cases rx;have oZ:=rv.zero;subst oZ;let#[z,its,n,r,hl,e]:=I.KJ hH;let#[u,hu,ru]:=r.get hy;have hy':its.toArray[its.toArray.size-1]?=some u:=by change its.toArray[its.length-1]?=some u;rw[<- fY,<- hl];show hu
 show call_meets F.slot_list_pop #[_,e,rfl] F.entry_list_pop (F.args_list_pop_1 _) (MeetsSeq.list_pop_last l its.toArray n u hy' (by rw[aZ];lia)) #[e,?_];show#[y,_,I.WV (its':=its.dropLast) hH e ?_ r.dropLast ?_,ru,q];change its.toArray.eraseIdxIfInBounds (its.toArray.size-1)=its.dropLast.toArray;rw[aZ,List.eraseIdxIfInBounds_toArray,Gd];rw[List.length_dropLast];lia
def aan:R2:=λx y H Q=>∃l b xs zs,x=.ref l/\y=.ref b/\H l=some^.lst xs/\H b=some^.lst zs/\xs.length+zs.length<=sizeLine/\∀p,H p=none->Q (.ref p)^upd H p^.lst (xs++zs)
theorem Bl:nu X (binaryOp .Add) aan:=by
 intro u5 s σ H x y v u Q I rx ry h;let#[l,b,xs,zs,rfl,rfl,hH,hB,hz,q]:=h;cases rx;cases ry;let#[z,its,n,r,hl,e]:=I.KJ hH;let#[z2,its2,n2,r2,hl2,e2]:=I.KJ hB;show PySem.P.add_list e e2 ?_ (by rw[aZ,aZ];lia);have ea:its.toArray++its2.toArray=(its++its2).toArray:=by simp
 rw[ea];show#[.ref _,_,I.afc (t':=s.toks) (r.append r2) (by rw[aF];lia),rfl,q _ I.fresh]
section
variable {κ:Type} [DecidableEq κ]
noncomputable def eG(kvs:List (κ×V))(k:κ):Option V:=(kvs.find? λkv=>decide (kv.1=k)).map (·.2)
noncomputable def putK(kvs:List (κ×V))(k:κ)(v:V):List (κ×V) :=
 if(kvs.any λkv=>decide (kv.1=k))=true then kvs.map (λkv=>if kv.1=k then(kv.1,v) else kv) else kvs++[(k,v)]
def gh{p:κ×V}{r:List (κ×V)}{k:κ}(e:p.1=k):eG (p::r) k=some p.2:=by simp[eG,iN,e]
def gj{p:κ×V}{r:List (κ×V)}{k:κ}(e:¬p.1=k):eG (p::r) k=eG r k:=by simp[eG,iN,e]
theorem jU(k:κ):∀kvs:List (κ×V),(kvs.any λkv=>decide (kv.1=k))=(eG kvs k).isSome
 | []=>rfl
 | p::r=>by rw[kI];by_cases e:p.1=k;erw[gh e,decide_eq_true e,Bool.true_or,Option.isSome_some];rw[gj e,decide_eq_false e,Bool.false_or];show jU k r
theorem CV(k j:κ)(y:V):∀kvs:List (κ×V),eG (kvs.map λkv=>if kv.1=k then(kv.1,y) else kv) j=(eG kvs j).map λx=>if j=k then y else x
 | []=>rfl
 | p::r=>by have ih:=CV k j y r;rw[bR];by_cases h:p.1=k;rw[if_pos h];by_cases e:p.1=j;rw[gh (p:=(p.1,y)) e,gh e,Option.map_some,if_pos^e.symm.trans h];rw[gj (p:=(p.1,y)) e,gj e,ih];rw[if_neg h];by_cases e:p.1=j;rw[gh (p:=p) e,gh e,Option.map_some,if_neg (λz=>h^e.trans z)];rw[gj (p:=p) e,gj e,ih]
theorem z9(k j:κ)(y:V):∀kvs:List (κ×V),eG kvs k=none->eG (kvs++[(k,y)]) j=if j=k then some y else eG kvs j
 | [],_=>by
  by_cases e:k=j;rw[if_pos e.symm];show gh (p:=(k,y)) e;rw[if_neg (λz=>e z.symm)];show gj (p:=(k,y)) e
 | p::r,hn=>by
  rw[nE];have hk:¬p.1=k:=λz=>by rw[gh z] at hn;cases hn
  rw[gj hk] at hn;have ih:=z9 k j y r hn;by_cases e:p.1=j;rw[gh e,gh e,if_neg (λz=>hk^e.trans z)];rw[gj e,gj e,ih]
def xA(kvs:List (κ×V))(k j:κ)(y:V):eG (putK kvs k y) j=if j=k then some y else eG kvs j:=by
 unfold putK;by_cases a:(kvs.any λkv=>decide (kv.1=k))=true
 .rw[if_pos a,CV];rw[jU] at a;by_cases e:j=k;let#[x,hx]:=Option.isSome_iff_exists.mp a;rw[if_pos e,e,hx,Option.map_some,if_pos rfl]
  .rw[if_neg e];cases eG kvs j with
   | none=>rfl
   | some x=>rw[Option.map_some,if_neg e]
 .rw[if_neg a];show z9 k j y kvs ?_;rw[jU] at a;cases q:eG kvs k with
  | none=>rfl
  | some x=>rw[q] at a;show(a rfl).elim
theorem nM(kvs:List (κ×V))(k:κ)(v:V):(putK kvs k v).length<=kvs.length+1:=by unfold putK;split;rw[ao];lia;rw[aF,ck,sW];lia
def NK{kvs:List (κ×V)}{k:κ}(v:V)(h:eG kvs k=none):putK kvs k v=kvs++[(k,v)]:=by unfold putK;rw[jU,h];show if_neg (by decide)
def pN.jI{u:Option Value}(r:pN o u):o.isSome=u.isSome:=by
 cases o with
 | none=>cases u with
  | none=>rfl
  | some _=>show(show False from r).elim
 | some _=>cases u with
  | none=>show(show False from r).elim
  | some _=>rfl
theorem pN.getD{u:Option Value}{d:V}{d':Value}(r:pN o u)(rd:RelV d d'):RelV (o.getD d)^u.getD d':=by
 cases o with
 | none=>cases u with
  | none=>show rd
  | some _=>show(show False from r).elim
 | some _=>cases u with
  | none=>show(show False from r).elim
  | some _=>show r
def KV.val{kvs:List (κ×V)}{vs:List (κ×Value)}(r:KV kvs vs)(k:κ):pN (eG kvs k)^valueAt vs k:=by
 unfold KV at r;induction r with
 | nil=>show iz
 | @cons p q ps qs h t ih =>
  let#[h1,h2]:=h;by_cases e:p.1=k
  .have e':q.1=k:=h1.symm.trans e;have b:valueAt (q::qs) k=some q.2:=by simp[valueAt,iN,e']
   rw[gh e,b];show h2
  .have e':¬q.1=k:=λz=>e^h1.trans z;have b:valueAt (q::qs) k=valueAt qs k:=by simp[valueAt,iN,e']
   rw[gj e,b];show ih
theorem KV.any{kvs:List (κ×V)}{vs:List (κ×Value)}(r:KV kvs vs)(k:κ):(kvs.any λkv=>decide (kv.1=k))=vs.any λkv=>decide (kv.1=k):=by
 unfold KV at r;induction r with
 | nil=>rfl
 | cons h t ih=>rw[kI,kI,ih,h.1]
def KV.repl{kvs:List (κ×V)}{vs:List (κ×Value)}(r:KV kvs vs)(k:κ)(ry:RelV y u):
  KV (kvs.map λkv=>if kv.1=k then(kv.1,y) else kv) (vs.map λkv=>if kv.1=k then(kv.1,u) else kv):=by
 unfold KV at r ⊢;induction r with
 | nil=>show .nil
 | @cons p q ps qs h t ih =>
  rw[bR,bR];show .cons ?_ ih;let#[h1,h2]:=h;by_cases e:p.1=k;rw[if_pos e,if_pos^h1.symm.trans e];show#[h1,ry];rw[if_neg e,if_neg (λz=>e^h1.trans z)];show#[h1,h2]
def KV.put{kvs:List (κ×V)}{vs:List (κ×Value)}(r:KV kvs vs)(k:κ)(ry:RelV y u):KV (putK kvs k y)^stored vs k u:=by unfold putK stored;rw[r.any k];by_cases e:(vs.any λkv=>decide (kv.1=k))=true;rw[if_pos e,if_pos e];show r.repl k ry;rw[if_neg e,if_neg e];show dD r #[rfl,ry]
theorem KV.length{kvs:List (κ×V)}{vs:List (κ×Value)}(r:KV kvs vs):kvs.length=vs.length:=kh r
end
def qT{k:Key}(r:RelV (kV k) u):(bO P w).is k u=true:=by
 cases k with
 | inl i=>let#[t,e]:=(show ∃t,u=Value.int i t from r);subst e;show CN P w i t
 | inr x=>let#[t,e]:=(show ∃t,u=Value.str x t from r);subst e;show nJ P w x t
theorem Aa{P:Program}{w:World}:∀{ks:List Key}{us:List Value},Vals (ks.map kV) us->ItemsAre (bO P w) ks us
 | [],_,r=>by rw[List.map_nil] at r;cases r;show .nil
 | k::ks,_,r=>by
  rw[bR] at r;cases r with
  | cons h t=>show .cons (qT h)^Aa t
abbrev KT(H:Hp):List (List Key×V)->List (List Key×Addr×Value)->Prop:=Paired λp q=>p.1=q.1/\H q.2.1=some^.tup^p.1.map kV/\RelV p.2 q.2.2
def KT.val{xs:List (List Key×Addr×Value)}(r:KT H kvs xs)(k:List Key):pN (eG kvs k)^(atKey xs k).map (·.2):=by
 induction r with
 | nil=>show iz
 | @cons p q ps qs h t ih =>
  let#[h1,_,h2]:=h;by_cases e:p.1=k
  .have e':q.1=k:=h1.symm.trans e;have b:atKey (q::qs) k=some q.2:=by simp[atKey,iN,e']
   rw[gh e,b];show h2
  .have e':¬q.1=k:=λz=>e^h1.trans z;have b:atKey (q::qs) k=atKey qs k:=by simp[atKey,iN,e']
   rw[gj e,b];show ih
def KT.repl{xs:List (List Key×Addr×Value)}(r:KT H kvs xs)(k:List Key)(ry:RelV y u):
  KT H (kvs.map λkv=>if kv.1=k then(kv.1,y) else kv)^xs.map^putAt k u:=by
 induction r with
 | nil=>show .nil
 | @cons p q ps qs h t ih =>
  rw[bR,bR];show .cons ?_ ih;let#[h1,h2,h3]:=h;unfold putAt;by_cases e:p.1=k;rw[if_pos e,if_pos^h1.symm.trans e];show#[h1,h2,ry];rw[if_neg e,if_neg (λz=>e^h1.trans z)];show#[h1,h2,h3]
def KT.put{xs:List (List Key×Addr×Value)}(r:KT H kvs xs)(k:List Key)(hb:H b=some^.tup^k.map kV)(ry:RelV y u):
  KT H (putK kvs k y)^storedH xs k b u:=by
 have e:(kvs.any λkv=>decide (kv.1=k))=(atKey xs k).isSome:=by rw[jU,(r.val k).jI,Option.isSome_map]
 unfold putK storedH;rw[e];by_cases q:(atKey xs k).isSome=true;rw[if_pos q,if_pos q];show r.repl k ry;rw[if_neg q,if_neg q];show dD r #[rfl,hb,ry]
def KT.keeps{xs:List (List Key×Addr×Value)}(r:KT H kvs xs)(ht:∀b ys,H b=some^.tup ys->H' b=some^.tup ys):KT H' kvs xs :=
 Paired.Kw r λ_ _ z=>#[z.1,ht _ _ z.2.1,z.2.2]
def U4{u:HO}(ok:nB P w H h)(e:Rd H a u):dj P w H h a u:=e.ok ok
def uJ{kvs:List (Key×V)}(ok:nB P w H h)(e:Rd H a^.dK kvs):kvs.length<=sizeLine/\(a==sysModules)=false/\∃vs,KV kvs vs/\h.DictOf (bO P w) a vs :=
 show dj P w H h a^.dK kvs from U4 ok e
def U5{kvs:List (Key×V)}(ok:nB P w H h)(e:H a=some^.dK kvs):kvs.length<=sizeLine/\(a==sysModules)=false/\∃vs,KV kvs vs/\h.DictOf (bO P w) a vs:=uJ ok^.inl e
def tK{ks:List Key}(ok:nB P w H h)(e:H a=some^.tup^ks.map kV):(tupleKind^bO P w).is h ks a:=by let#[_,its,r,o,h1,h2,n,h3]:=(show dj P w H h a^.tup^ks.map kV from ok a _ e);show#[o,its.toArray,n,h1,h2,h3,by simpa using Aa r]
def xB(ok:nB P w H h)(e:Rd H a^.dT kvs):kvs.length<=sizeLine/\(a==sysModules)=false /\
  ∃xs,KT H kvs xs/\h.DictOfH (tupleKind^bO P w) a xs:=by
 let#[z,y,xs,r,o,es,ep,h1,h2,h3,h4,h5]:=(show dj P w H h a^.dT kvs from U4 ok e);show#[z,y,xs,r,o,es,ep,h1,h2,h3,h4,λx hx=>?_,h5];have all:∀{l:List (List Key×V)}{m:List (List Key×Addr×Value)},KT H l m->∀x∈m,(tupleKind^bO P w).is h x.1 x.2.1:=by
  intro l m q;induction q with
  | nil=>intro x hx;show nomatch hx
  | @cons p q ps qs hq t ih =>
   intro x hx;rcases aG.mp hx with e|hx
   .subst e;show tK ok (by rw[<- hq.1];show hq.2.1)
   .show ih x hx
 show all r x hx
def aao(ok:nB P w H h)(e:H a=some^.dT kvs):kvs.length<=sizeLine/\(a==sysModules)=false /\
  ∃xs,KT H kvs xs/\h.DictOfH (tupleKind^bO P w) a xs:=xB ok^.inl e
def qU(H:Hp)(a:Addr)(y:V)(r:Option V):Prop :=
 (∃kvs k,Rd H a^.dK kvs/\y=kV k/\r=eG kvs k)\/∃kvs k b,Rd H a^.dT kvs/\y=.ref b/\H b=some^.tup^k.map kV/\r=eG kvs k
def KL(H:Hp)(a:Addr)(y v:V)(H':Hp):Prop :=
 (∃kvs k,H a=some^.dK kvs/\y=kV k/\kvs.length<sizeLine/\H'=upd H a^.dK^putK kvs k v) \/
 ∃kvs k b,H a=some^.dT kvs/\y=.ref b/\H b=some^.tup^k.map kV/\kvs.length<sizeLine/\H'=upd H a^.dT^putK kvs k v
def KL.t{k:List Key}{v:V}(e:H a=some^.dT kvs)(eb:H b=some^.tup^k.map kV)(hl:kvs.length<sizeLine):
  KL H a (.ref b) v^upd H a^.dT^putK kvs k v:=.inr #[kvs,k,b,e,rfl,eb,hl,rfl]
section
variable {σ:St}{v:V}{r:Value}{o:Option V}
def Inv.big(I:Inv X u5 σ H s):sysModules<s.heap.objs.size:=by have h:mainGlobals<s.heap.objs.size:=(I.mod.glob.keeps I.bk).lt;show Nat.lt_trans (by decide) h
def KN(hu:A.units+1<cLine)(I:Inv X u5 σ H s)(g:qU H a y^some v)(ry:RelV y u)(h:∀w' s',Inv X u5 σ H s'->RelV v w'->Q w' s'):
  wpAny (model X.prog X.w) A (getItem (.ref a) u) Q E s:=by rcases g with⟨kvs,k,e,ey,l⟩|⟨kvs,k,b,e,ey,eb,l⟩;subst ey;let#[z,hd,vs,rel,dd]:=uJ I.hok e;let#[w',hw,rw']:=pN.some_of (v:=v) (o:=valueAt vs k) (by rw[l];show rel.val k);show wpAny_getItem_of (qT ry) dd.mapOf hw^h w' _ (I.tok _) rw';subst ey;cases(show u=Value.ref b from ry);let#[z,hd,xs,rel,dd]:=xB I.hok e;let#[w',hw,rw']:=pN.some_of (v:=v) (o:=(atKey xs k).map (·.2)) (by rw[l];show rel.val k);let#[p,hp,hp2]:=cG.mp hw;show wpAny_getItem_heap (tupleKind_room_in1 hu) (tK I.hok eb) dd hp ?_;rw[hp2];show h w' _ (I.tok _) rw'
def afd(hu:A.units+1<cLine)(I:Inv X u5 σ H s)(g:qU H a y o)(ry:RelV y u)(h:∀s',Inv X u5 σ H s'->Q (.bool o.isSome) s'):
  wpAny (model X.prog X.w) A (compareOp .In u^.ref a) Q E s:=by rcases g with⟨kvs,k,e,ey,l⟩|⟨kvs,k,b,e,ey,eb,l⟩;subst ey;let#[z,hd,vs,rel,dd]:=uJ I.hok e;show wpAny_in_of (qT ry) hd dd.mapOf ?_;rw[<- (rel.val k).jI,<- l];show h _^I.tok _;subst ey;cases(show u=Value.ref b from ry);let#[z,hd,xs,rel,dd]:=xB I.hok e;show wpAny_in_heap (tupleKind_room_in1 hu) (tK I.hok eb) hd dd ?_;have q:=(rel.val k).jI;rw[Option.isSome_map] at q;rw[<- q,<- l];show h _^I.tok _
def R4(hu:A.units+1<cLine)(I:Inv X u5 σ H s)(g:qU H a y o)(ry:RelV y u)(h:∀s',Inv X u5 σ H s'->Q (.bool (!o.isSome)) s'):
  wpAny (model X.prog X.w) A (compareOp .NotIn u^.ref a) Q E s:=by rcases g with⟨kvs,k,e,ey,l⟩|⟨kvs,k,b,e,ey,eb,l⟩;subst ey;let#[z,hd,vs,rel,dd]:=uJ I.hok e;show wpAny_notIn_of (qT ry) hd dd.mapOf ?_;rw[<- (rel.val k).jI,<- l];show h _^I.tok _;subst ey;cases(show u=Value.ref b from ry);let#[z,hd,xs,rel,dd]:=xB I.hok e;show wpAny_notIn_heap (tupleKind_room_in1 hu) (tK I.hok eb) hd dd ?_;have q:=(rel.val k).jI;rw[Option.isSome_map] at q;rw[<- q,<- l];show h _^I.tok _
def Bm{ob:HO}(I:Inv X u5 σ H s)(mu:ZK^H a)(hs:Heap.SameBut a s.heap h')(he:∃q,h'.get? a=some q)(new:dj X.prog X.w (upd H a ob) h' a ob):
  Inv X u5 σ (upd H a ob) { s with heap:=h',toks:=t' } :=
 I.write (x:=a) (e:=a) mu (.inl rfl) (λb q hb z=>(hs.2 b hb).trans z) he new
def WW{kvs:List (Key×V)}{vs:List (Key×Value)}(z:kvs.length<=sizeLine)(hd:(a==sysModules)=false)(rel:KV kvs vs)(dd:h'.DictOf (bO P w) a vs):
  dj P w H' h' a^.dK kvs:=#[z,hd,vs,rel,dd]
theorem KO{Q:Unit->Shared->Prop}(hu:A.units+1<cLine)(I:Inv X u5 σ H s)(g:KL H a y v H')(ry:RelV y u)(rv:RelV v r)(h:∀s',Inv X u5 σ H' s'->Q () s'):
  wpAny (model X.prog X.w) A (setItem (.ref a) u r) Q E s:=by
 rcases g with⟨kvs,k,e,ey,l,eH⟩|⟨kvs,k,b,e,ey,eb,l,eH⟩
 .subst ey eH;let#[z,hd,vs,rel,dd]:=U5 I.hok e;have hz:vs.length<=sizeLine:=by rw[<- rel.length];show z
  have hl:(putK kvs k v).length<=sizeLine:=by have:=nM kvs k v;lia
  show wpAny_setItem_pairs (hsz:=hz) (qT ry) dd λh' Zi hs=>h _ ?_;have he:∃q,h'.get? a=some q:=let⟨q,_,_,hq,_⟩:=Zi;#[q,hq];show Bm I (by rw[e];show iz) hs he^WW hl hd (rel.put k rv) Zi
 .subst ey eH;cases(show u=Value.ref b from ry);let#[z,hd,xs,rel,dd]:=aao I.hok e;have hz:xs.length<=sizeLine:=by rw[<- kh rel];show z
  have hl:(putK kvs k v).length<=sizeLine:=by have:=nM kvs k v;lia
  show wpAny_setItem_heap (hsz:=hz) (tupleKind_room_in1 hu) (tK I.hok eb) dd λh' Zi hs=>h _ ?_;let#[q,es,ep,hq,h2,h3,h4,_,h5]:=Zi;show Bm I (by rw[e];show iz) hs #[q,hq] #[hl,hd,_,(rel.put k eb rv).keeps λc ys ec=>?_,q,es,ep,hq,h2,h3,h4,h5];rw[bI^iJ ec e (λz=>nomatch z)];show ec
end
section
variable {σ:St}{kvs:List (Key×V)}{k:Key}
theorem aap(I:Inv X u5 σ H s)(e:Rd H a^.dK kvs)(h:∀t s',Inv X u5 σ H s'->Q (.int kvs.length t) s'):wpAny (model X.prog X.w) A (call (.builtin "len") [.ref a]) Q E s:=by let#[z,hd,vs,rel,dd]:=uJ I.hok e;show call_len_dict hd dd (by rw[<- rel.length];rw[sizeLine_eq] at z;lia) ?_;rw[<- rel.length];show h _ _^I.tok _
end
def NL(i:Expr):Prop:=∀ov iv,subscripted i false ov iv=operate [ov,iv]^getItem ov iv
def Bo{env:Env}{slice:Expr}{id:String}
  (hl:typeLookup (.type T) "__getitem__" = pure^some^.builtin id)(hs:NL slice)
  (h:wpAny (model prog w) A (eval value env) (λo s₁=>wpAny (model prog w) A (eval slice env) (λi s₂=>s₂.TypeIs o T/\wpAny (model prog w) A (getItem o i) Q E s₂) E s₁) E s):
  wpAny (model prog w) A (eval (.Subscript value slice pos) env) Q E s:=by
 show Subscript_ (wpAny_mono h (λo s₁ h₁=>wpAny_mono h₁ (λi s₂ h₂=>?_) λ_ _ x=>x) λ_ _ x=>x);let#[hT,h₂]:=h₂;unfold subscriptTail;show au ?_;rw[getitemInPython_of_ne hT.not_modules];show au^wpAny_specialOf hT hl ?_;have fin:wpAny (model prog w) A (subscripted slice false o i) (λr s₃=>wpAny (model prog w) A (letTemporaryGo value o r >>= λ_=>pure r) Q E s₃) E s₂:=by rw[hs o i];show wpAny_operating (wpAny_mono h₂ (λr s₃ h₃=>au^wpAny_letTemporaryGo^aL h₃) λ_ _ x=>x)
 first
  | show aL^au fin
  | show au^aL^au fin
  | show au fin
def CW{σ:St}(I:Inv X u5 σ H s)(g:qU H a y o):s.TypeIs (.ref a) "dict" := by rcases g with⟨kvs,k,e,_,_⟩|⟨kvs,k,b,e,_,_,_⟩;let#[_,_,vs,_,dd]:=uJ I.hok e;show dd.typeIs;let#[_,_,xs,_,dd]:=xB I.hok e;show dd.typeIs
def U6(td ty:TE):TE:=λσ H Q=>td σ H λx H1=>ty σ H1 λy H2=>∃a v,x=.ref a/\qU H2 a y^some v/\Q v H2
def aaq(ty td:TE):TE:=λσ H Q=>ty σ H λy H1=>td σ H1 λx H2=>∃a o,x=.ref a/\qU H2 a y o/\Q (.bl o.isSome) H2
def IK(ty td:TE):TE:=λσ H Q=>ty σ H λy H1=>td σ H1 λx H2=>∃a o,x=.ref a/\qU H2 a y o/\Q (.bl (!o.isSome)) H2
def U7(td ty tv:TE):TS:=λD σ H=>tv σ H λv H1=>td σ H1 λx H2=>ty σ H2 λy H3=>∃a H4,x=.ref a/\KL H3 a y v H4/\D.nx σ H4
section
variable {o i:Expr}{ty:TE}
def i7(hu:X.A.units+1<cLine)(ho:PE X o td)(hi:PE X i ty)(hs:NL i):PE X (.Subscript o i pos)^U6 td ty:=by intro u5 s σ H Q I h;show Bo PySem.F.slot_dict_getitem.lookup hs (c9 (ho u5 s σ H _ I h) λu s1 zq=>?_);let#[x,H1,I1,rx,q1]:=zq;show c9 (hi u5 s1 σ H1 _ I1 q1) λiv s2 zq=>?_;let#[y,H2,I2,ry,a,v,ex,g,q2]:=zq;subst ex;obtain rfl:u=Value.ref a:=rx;show#[CW I2 g,KN hu I2 g ry λw' s3 I3 rw'=>#[v,H2,I3,rw',q2]]
def NN(hu:X.A.units+1<cLine)(hi:PE X i ty)(ho:PE X o td):PC X .In i o^aaq ty td:=by intro u5 s σ H Q I h;show c9 (hi u5 s σ H _ I h) λiv s1 zq=>?_;let#[y,H1,I1,ry,q1]:=zq;show c9 (ho u5 s1 σ H1 _ I1 q1) λu s2 zq=>?_;let#[x,H2,I2,rx,a,ov,ex,g,q2]:=zq;subst ex;obtain rfl:u=Value.ref a:=rx;show afd hu I2 g ry λs3 I3=>#[.bl ov.isSome,H2,I3,rfl,q2]
def KP(hu:X.A.units+1<cLine)(hi:PE X i ty)(ho:PE X o td):PC X .NotIn i o^IK ty td:=by intro u5 s σ H Q I h;show c9 (hi u5 s σ H _ I h) λiv s1 zq=>?_;let#[y,H1,I1,ry,q1]:=zq;show c9 (ho u5 s1 σ H1 _ I1 q1) λu s2 zq=>?_;let#[x,H2,I2,rx,a,ov,ex,g,q2]:=zq;subst ex;obtain rfl:u=Value.ref a:=rx;show R4 hu I2 g ry λs3 I3=>#[.bl (!ov.isSome),H2,I3,rfl,q2]
def o4(hu:X.A.units+1<cLine)(ho:PE X o td)(hi:PE X i ty)(hv:PE X value tv)(hs:swapsWith value (some^.Subscript o i pos') pos.line X.env=pure false):
  PS X (.Assign [.Subscript o i pos'] value pos)^U7 td ty tv:=by intro u5 s σ H D I h;show wpAny_Assign_Subscript (c9 (hv u5 s σ H _ I h) λr s1 zq=>?_) hs;let#[v,H1,I1,rv,q1]:=zq;show c9 (ho u5 s1 σ H1 _ I1 q1) λu s2 zq=>?_;let#[x,H2,I2,rx,q2]:=zq;show c9 (hi u5 s2 σ H2 _ I2 q2) λiv s3 zq=>?_;let#[y,H3,I3,ry,a,H4,ex,g,q3]:=zq;subst ex;obtain rfl:u=Value.ref a:=rx;show KO hu I3 g ry rv λs4 I4=>#[σ,H4,I4,q3]
end
def NO(h:Heap)(hb:sysModules<h.objs.size):dj P w H (h.push { cls:=.type "dict", data:=.dict #[] }) h.objs.size (.dK []) :=
 #[aM _,beq_eq_false_iff_ne.mpr^aQ^aN hb,[],.nil,Heap.DictOf.new h]
def NP(h:Heap)(hb:sysModules<h.objs.size):dj P w H (h.push { cls:=.type "dict", data:=.dict #[] }) h.objs.size (.dT []) :=
 #[aM _,beq_eq_false_iff_ne.mpr^aQ^aN hb,[],.nil,_,#[],0,iI _ rfl,#[rfl,rfl,rfl],rfl,rfl,lM]
def NQ:TE:=λ_ H Q=>∀p,H p=none->Q (.ref p)^upd H p^.dK []
def NR:TE:=λ_ H Q=>∀p,H p=none->Q (.ref p)^upd H p^.dT []
def xC:PE X (.Dict [] [] pos) NQ:=λu5 s σ H Q I h =>
 wpAny_Dict_empty #[.ref s.heap.objs.size,_,I.laid (a:=s.heap.objs.size) (o:=.dK []) (t':=s.toks) (λ_ _ q=>dY _ q) (av _)^NO s.heap I.big,rfl,h _^I.hok.fresh^av _]
def NS:PE X (.Dict [] [] pos) NR:=λu5 s σ H Q I h =>
 wpAny_Dict_empty #[.ref s.heap.objs.size,_,I.laid (a:=s.heap.objs.size) (o:=.dT []) (t':=s.toks) (λ_ _ q=>dY _ q) (av _)^NP s.heap I.big,rfl,h _^I.hok.fresh^av _]
structure M2 (X:Cx) (o:Expr) (m:Str) (apos:Pos) (e f:Expr) (cpos:Pos):Prop where
 base:attributeBase o m X.env^eval o X.env=eval o X.env
 few:((backTo cpos^starEach [e,f] X.env).all (λx=>!x.1)&&(backToKw cpos^keywordEach [] X.env).all (λx=>x.1.isSome)
  && decide (([e,f]:List Expr).length+([]:List Keyword).length+(if([]:List Keyword).isEmpty then 0 else 1)<30))=true
 line:(apos.endLine==cpos.line)=true
 trees:backTo cpos^starEach [e,f] X.env=[(false,eval e X.env),(false,eval f X.env)]
def IsD(H:Hp)(a:Addr):Prop:=(∃kvs,Rd H a^.dK kvs)\/∃kvs,Rd H a^.dT kvs
def WX{σ:St}(I:Inv X u5 σ H s)(d:IsD H a):
  s.TypeIs (.ref a) "dict" /\ (∀b,Value.ref a=.ref b->∃ob,s.heap.get? b=some ob/\ob.dict=none)/\(a==sysModules)=false:=by rcases d with⟨kvs,e⟩|⟨kvs,e⟩;let#[_,hd,vs,_,dd]:=uJ I.hok e;show#[dd.typeIs,λb q=>?_,hd];cases q;let#[ob,_,_,h1,h2,_]:=dd;show#[ob,h1,h2.2.1];let#[_,hd,xs,_,dd]:=xB I.hok e;show#[dd.typeIs,λb q=>?_,hd];cases q;let#[ob,_,_,h1,h2,_]:=dd;show#[ob,h1,h2.2.1]
section
variable {σ:St}{d:V}{r:Value}{o:Option V}
def WY(hu:A.units+1<cLine)(I:Inv X u5 σ H s)(g:qU H a y o)(ry:RelV y u)(rd:RelV d r)(h:∀w' s',Inv X u5 σ H s'->RelV (o.getD d) w'->Q w' s'):
  wpAny (model X.prog X.w) A (call (.builtin "dict.get") [.ref a,u,r]) Q E s:=by rcases g with⟨kvs,k,e,ey,l⟩|⟨kvs,k,b,e,ey,eb,l⟩;subst ey;let#[z,hd,vs,rel,dd]:=uJ I.hok e;show call_meetsIn lQ dd.typeIs vR (vQ _ _ _) (meets_dict_get_default (bO X.prog X.w) a (qT ry) hd r) #[_,dd.mapOf,h _ _ (I.tok _) ?_];rw[l];show(rel.val k).getD rd;subst ey;cases(show u=Value.ref b from ry);let#[z,hd,xs,rel,dd]:=xB I.hok e;show call_meetsIn lQ dd.typeIs vR (vQ _ _ _) (meetsH_dict_get_default (tupleKind^bO X.prog X.w) a b hd r) #[tupleKind_room_in1 hu,k,xs,tK I.hok eb,dd,h _ _ (I.tok _) ?_];rw[l];show(rel.val k).getD rd
end
def NT(td ty tx:TE):TE:=λσ H Q=>td σ H λx H1=>∃a,x=.ref a/\IsD H1 a/\ty σ H1 λy H2=>tx σ H2 λz H3=>∃o,qU H3 a y o/\Q (o.getD z) H3
section
variable {o f:Expr}{ty:TE}
def NU(hu:X.A.units+1<cLine)(ho:PE X o td)(he:PE X e ty)(hf:PE X f tx)(m:M2 X o "get" apos e f cpos):PE X (.Call (.Attribute o "get" apos) [e,f] [] cpos)^NT td ty tx:=by intro u5 s σ H Q I h;show wpAny_Call_method m.base m.few m.line vS lQ PySem.F.type_dict_get (c9 (ho u5 s σ H _ I h) λu s1 zq=>?_);let#[x,H1,I1,rx,a,ex,d,q1]:=zq;subst ex;obtain rfl:u=Value.ref a:=rx;let#[t1,t2,_]:=WX I1 d;show#[t1,t2,?_];rw[m.trees];show sP rfl^Calls.evalArgs_plain^jQ (c9 (he u5 s1 σ H1 _ I1 q1) λiv s2 zq=>?_);let#[y,H2,I2,ry,q2]:=zq;show jQ (c9 (hf u5 s2 σ H2 _ I2 q2) λfv s3 zq=>?_);let#[z,H3,I3,rz,ov,g,q3]:=zq;show lH ?_;show WY hu I3 g ry rz λw' s4 I4 rw'=>#[_,H3,I4,rw',q3]
end
section
variable {σ:St}{kvs:List (Key×V)}
end
section
variable {σ:St}
end
end L2
namespace Att
open PySem PySem.W PySem.Calls PyProof.Rows
def vF{P:Params}:∀(ns:List Int)(vs:List Value),WellAll P h vs^ns.map WData.int->IntsAre vs ns:=by
 intro ns;induction ns with
 | nil =>
  intro vs w;rw[List.map_nil] at w;cases w;show .nil
 | cons n ns ih =>
  intro vs w;rw[bR] at w;cases w with
  | cons a b =>
   cases a;show .cons _ _^ih _ b
theorem KQ{l:OpenLaw}(hn:l.most=some n){P:Params}{args:List WData}{vals:List Value}
  (hpre:l.row.toRowW.claim.pre args=true)(hwl:WellAll P h vals args):
  ∃a vs ns,vals=[Value.ref a]/\args=[WData.list^ns.map WData.int]/\h.get? a=some { cls:=.type "list", data:=.seq vs.toArray }/\IntsAre vs ns/\ns.length<=n:=by
 have hsh:WShape.hasAll [] args [.list .int]=true:=(pre_splitW hpre).1;have hc:l.pre.holds [] { args:=args }=true:=(pre_splitW hpre).2;let#[d,r,rfl,h1,h2]:=hasAllW_cons hsh;obtain rfl:=hasAllW_nil h2;let#[xs,rfl,h3]:=hasW_list h1;let#[ns,rfl]:=items_int h3;have hlen:ns.length<=n:=by
  unfold OpenLaw.pre at hc;have h4:(WTm.not^.lt (.lit^.int (n:Int))^.len^.arg 0).holds [] { args:=[.list^ns.map .int] }=true:=by have h4:=(holds_andW hc).1;rw[hn] at h4;show h4
  have h5:=condW_of h4^w_not^w_lt w_lit^w_len_list^w_arg rfl;rw[ao] at h5;show Nat.le_of_not_lt λq=>?_;have q':(n:Int)<((ns.length:Nat):Int):=∅
  first
   | (rw[decide_eq_true q'] at h5;show absurd h5^by decide)
   | (simp at h5;lia)
 cases hwl with
 | cons w1 w2 =>
  cases w2;cases w1 with
  | list ho hall=>show#[_,_,ns,rfl,rfl,ho,vF ns _ hall,hlen]
def KR(l:OpenLaw)(args:List WData):l.row.toRowW.claim.post args (.bool true) args=true :=
 postW_of (r:=l.row.toRowW) (X:=(true==true))
  (show WShape.has [] (.bool true) .bool=true by first|rfl|decide|simp[WShape.has,WShape.arms,WShape.armsAll])
  (show(WTm.eq .res^.lit^.bool true).value [] { args:=args,res:=some^.bool true,after:=args }=some^.bool (true==true) from w_eq_bool (w_res rfl) w_lit) rfl
def uK{l:OpenLaw}{q:Program}{loose:List Str}{XP:(Str->Option Value)->Heap->Prop}{YP:World->Heap->Prop}{d:DefRec}
  (hn:l.most=some n)(hdf:d.params.defaults=[])
  (call:∀(w:World)(s₀ s₁:Shared)(mg mb:Str->Option Value)(fa:Addr)(o:Obj)(pm cd doc:Value)(a:Addr)(vs:List Value)(ns:List Int),
   Ground q loose [] XP w s₀ mg mb s₁.heap->YP w s₁.heap ->
   s₁.heap.get? fa=some o->o.data=.func^docDef d.name d.params d.body d.scope pm cd doc->s₁.heap.CodeRec cd d.name->mg d.name=some (.ref fa) ->
   s₁.heap.get? a=some { cls:=.type "list", data:=.seq vs.toArray }->IntsAre vs ns->ns.length<=n->s₁.gens=#[] ->
   codeAny (model l.prog w) callerA (.call (.ref fa) #[[.ref a],[]]) (λr s'=>r=.ok^.ret^.bool true/\OldK s₁.heap s'.heap/\s'.os=s₁.os/\AllBare s'.gens) s₁):
  WalkO q loose XP YP l.row.toRowW d [] (λf vs=>PySem.call f vs):=by intro w s₀ s₁ mg mb G Y fa o pm cd doc dV kV ho hd hcd hD hmg hg args vals as hpre hlay hrd hwl hlo;obtain rfl:dV=.none:=Dflts.none hD hdf;obtain rfl:kV=.none:=Dflts.noKw hD;let#[a,vs,ns,rfl,rfl,hobj,hints,hlen]:=KQ hn hpre hwl;show enter_call (codeAny_mono (call w s₀ s₁ mg mb fa o pm cd doc a vs ns G Y ho (fd_plain hd) hcd hmg hobj hints hlen hg) λr s' hq=>?_);let#[rfl,h2,h3,h4]:=hq;show#[.inl #[.bool true,.bool true,[],rfl,λ_=>rfl,.bool true,KR l _,λ_=>#[List.Pairwise.nil,λ_ hm=>(nomatch hm)]],h2,h3,h4]
section
variable {K:Frag}
end
end Att
namespace L2
def tL:∀{vs:List Value}{ns:List Int},IntsAre vs ns->Vals (ns.map V.int) vs:=by
 intro vs ns h;induction h with
 | nil=>show .nil
 | cons n t h ih=>show .cons #[t,rfl] ih
def WZ(H:Hp):Prop:=∀b,H b=none\/∃o xs,H b=some^.CF o^.lst xs
def NV{mb:Str->Option Value}{CX:KH}{fa:Addr}{s₁:Shared}
  (KX:K.In s₁.heap)(hns:s₁.heap.Ns mainGlobals mg)(hb:s₁.heap.Ns builtinsNs mb)(hbb:∀x:Str,x ≠ "__name__" -> mb x=bootBuiltins x)(hlim:s₁.heap.NoLimit)(hg:s₁.gens=#[])
  (ha:s₁.heap.get? a=some { cls:=.type "list", data:=.seq vs.toArray })(hi:IntsAre vs ns)(hl:ns.length<=sizeLine)(hr:jd k callerA)
  (F:∀base:Heap,K.In base->base.Ns mainGlobals mg->cA P w K mg base CX k fa fd [x] sp)(hbind:∀(s:Shared)(u:Value),BindsTo s fd #[[u],[]] [(x,u)])
  (IA:∀H:Hp,WZ H->bG K H a^ns.map V.int->sp [.ref a] H (λv _=>v=.bl true) λ_ _ _=>False)
  (hCX:∀H e s',CX [] H s₁ (λ_ _ _=>False) e s'->False):
  codeAny (model P w) callerA (.call (.ref fa) #[[.ref a],[]]) (λr s'=>r=.ok^.ret^.bool true/\OldK s₁.heap s'.heap/\s'.os=s₁.os/\AllBare s'.gens) s₁:=by
 have rv:=tL hi;have afi:=hi.length;have core:∀H:Hp,WZ H->bG K H a^ns.map V.int->nB P w H s₁.heap->(∀b,H b≠none->b=a)->(H a≠none->K.lookup a=none) ->
   codeAny (model P w) callerA (.call (.ref fa) #[[.ref a],[]]) (λr s'=>r=.ok^.ret^.bool true/\OldK s₁.heap s'.heap/\s'.os=s₁.os/\AllBare s'.gens) s₁:=by
  intro H hO hS hok hA hK;have IL:∀{b:Addr}{o:Obj},s₁.heap.get? b=some o->H b=none->(sX s₁.heap H).get? b=some o:=λe n=>qN e n;have noA:∀{b:Addr}{o:Obj}{es:Array DictEntry}{ep:Nat},s₁.heap.get? b=some o->o.data=.dict es ep->H b=none:=λ{b o es ep} e d=>by
   cases q:H b with
   | none=>rfl
   | some u =>
    have e':b=a:=hA b (by rw[q];simp);subst e';rw[ha] at e;cases e;have d':Data.seq vs.toArray _=Data.dict es ep:=d;cases d'
  have nsK:∀{b:Addr}{m:Str->Option Value},s₁.heap.Ns b m->(sX s₁.heap H).Ns b m:=λ{b m} ⟨o,es,ep,e,d,r⟩=>#[o,es,ep,IL e^noA e d,d,r];have hKb:K.In^sX s₁.heap H:=λb o e=>IL (KX b o e) (by
   cases q:H b with
   | none=>rfl
   | some u =>
    have e':b=a:=hA b (by rw[q];simp);subst e';rw[hK (by rw[q];simp)] at e;cases e)
  have hM:Mod K mg^sX s₁.heap H:=#[hKb,nsK hns,#[mb,nsK hb,hbb],let⟨mc,h1,h2⟩:=hlim;#[mc,nsK h1,h2]];have e0:NC P w K mg (sX s₁.heap H) callerA [] s₁ H:=#[rfl,hM,λb o e=>Im e,Nat.le_of_eq^zV _ _,trivial,λb hb=>absurd (show b∈([]:List Addr) from hb)^by simp,hok,.of_eq hg];show codeAny_mono ((F _ hKb^nsK hns).run callerA [] s₁ H #[[.ref a],[]] [.ref a] [.ref a] _ _ hr e0 (hbind s₁^.ref a) (.cons rfl .nil)^IA H hO hS) λr s' h=>?_;cases r with
  | error e=>show(hCX H e s' h).elim
  | ok fl =>
   cases fl with
   | next=>show False.elim h
   | brk=>show False.elim h
   | cont=>show False.elim h
   | ret u =>
    let#[v,H',os,bare,un,R5,r',q]:=h;have q':v=.bl true:=q;subst q';obtain rfl:u=Value.bool true:=r';show#[rfl,OldK.of_keep λb o e=>?_,os,bare];cases q:H b with
    | none=>show un.keep b o e q (by intro z;show absurd (show b∈([]:List Addr) from z)^by simp) (by simp)
    | some u =>
     rcases hO b with z|⟨ob,xs,z⟩;rw[q] at z;cases z;have z2:=un.zA b ob _ z;let#[e1,_]:=hok b _ z;let#[e2,_]:=R5 b _ z2;rw[e] at e1;cases e1;show e2
 cases hk:K.lookup a with
 | some o =>
  have e:=KX a o hk;rw[ha] at e;cases e;show core (λ_=>none) (λ_=>.inl rfl) (.inr #[_,vs.toArray,_,hk,rfl,rfl,rfl,by rw[aZ,afi];show hl,by simpa using rv]) (λb u z=>by have z':(none:Option HO)=some u:=z;cases z') (λb z=>absurd rfl z) λz=>absurd rfl z
 | none =>
  show core (λb=>if b=a then some (.CF { cls:=.type "list", data:=.seq vs.toArray } (.lst^ns.map V.int)) else none) (λb=>?_) (.inl^.inr #[{ cls:=.type "list", data:=.seq vs.toArray },if_pos rfl]) (λb u z=>?_) (λb z=>?_) λ_=>hk;by_cases hb:b=a;show .inr #[_,_,if_pos hb];show .inl^if_neg hb;by_cases hb:b=a;have z':=(if_pos hb).symm.trans z;cases z';subst hb;show#[ha,by rw[ao];show hl,vs,_,rv,ha];have z':=(if_neg hb).symm.trans z;cases z';by_cases hb:b=a;show hb;show absurd (if_neg hb) z
noncomputable abbrev KOf(_:K.In h):az:=K
def adS{l:PySem.W.OpenLaw}{q:Program}{loose:List Str}{XP:(Str->Option Value)->Heap->Prop}{YP:World->Heap->Prop}{d:DefRec}{K:Params->az}{CX:World->KH}{sp:World->Sp}
  (hn:l.most=some n)(hn2:n<=sizeLine)(hdf:d.params.defaults=[])(hr:jd k callerA)
  (hY:∀(w:World)(h:Heap),YP w h->(K w.params).In h)
  (F:∀(w:World)(mg:Str->Option Value)(fa:Addr)(h:Heap),(K w.params).In h->h.Ns mainGlobals mg->mg d.name=some (.ref fa) ->
   ∃fd:FuncData,(∀(s:Shared)(u:Value),BindsTo s fd #[[u],[]] [(x,u)]) /\
    ∀base:Heap,(K w.params).In base->base.Ns mainGlobals mg->cA l.prog w (K w.params) mg base (CX w) k fa fd [x]^sp w)
  (IA:∀(w:World)(H:Hp)(a:Addr)(ns:List Int),ns.length<=n->WZ H->bG (K w.params) H a^ns.map V.int->sp w [.ref a] H (λv _=>v=.bl true) λ_ _ _=>False)
  (hCX:∀(w:World)(H:Hp)(s:Shared)(e:Value)(s':Shared),CX w [] H s (λ_ _ _=>False) e s'->False):
  PySem.W.WalkO q loose XP YP l.row.toRowW d [] (λf vs=>PySem.call f vs):=by show Att.uK hn hdf λw s₀ s₁ mg mb fa o pm cd doc a vs ns G Y ho hd hcd hmg hobj hints hlen hg=>?_;have KX:=hY w _ Y;let#[fd,hb,hF]:=F w mg fa _ KX G.T.g hmg;show NV KX G.T.g G.T.b G.T.builtins G.T.nolimit hg hobj hints (bg hlen hn2) hr hF hb (λH hO hS=>IA w H a ns hlen hO hS) λH e s'=>hCX w H s₁ e s'
noncomputable def lV(s:Stmt):Arguments:=match s with
 | .FunctionDef _ a _ _ _ _ _ _ _ _=>a
 | _=>{ posonlyargs:=[],args:=[],vararg:=none,kwonlyargs:=[],kw_defaults:=[],kwarg:=none,defaults:=[] }
noncomputable def jA(s:Stmt):List Stmt:=match s with
 | .FunctionDef _ _ b _ _ _ _ _ _ _=>b
 | _=>[]
noncomputable def aC(s:Stmt):Scope:=match s with
 | .FunctionDef _ _ _ _ _ _ sc _ _ _=>sc
 | _=>{ kind:=.function,names:=[],isGenerator:=false,isCoroutine:=false }
abbrev ir:KH:=λ_ _ _ _ _ _=>False
abbrev E0:XK:=λ_ _ _=>False
def aas:Passes ir X E0:=λ_ _ _ _ _ _ _ h=>h.elim
structure U8 (K:az) (x qual:Str) (st:Stmt) (f:Addr) (fd:FuncData):Prop where
 ex:∃(oc:Value)(od:Option Addr)(kV doc pm:Value)(an:Option Addr)(cdv ct:Value)(osl:Array^Option Value),
  fd=PySem.W.fnOf x qual (lV st) (jA st) (aC st) .none kV doc pm an cdv ct/\K.lookup f=some #[oc,od,.func fd,osl]/\PySem.W.codeIn K cdv qual=true
 kp:PySem.W.keepIn K^.ref f=true
def U8.ok{N ps:List Str}(F:U8 K x qual st f fd)(S:aK N ps^aC st)(len:∀vs H Q E,sp vs H Q E->vs.length=ps.length)
  (hbody:∀(cdv:Value)(A:Around)(outer:List Env)(s:Shared)(H:Hp)(vs:List V)(Q:VK)(E:XK),jd k^A.deeper^envOfC qual (aC st) s.heap.objs.size f cdv->sp vs H Q E ->
   ∃t,CG (CS ir P w K mg base N qual (aC st) f cdv A outer s H E).Wx (jA st) t/\t { nx:=λ_ H'=>Q .eW H',rt:=Q } (start N vs) H):cA P w K mg base ir (k+1) f fd ps sp:=by let#[oc,od,kV,doc,pm,an,cdv,ct,osl,rfl,lk,hcd]:=F.ex;show UZ lk hcd S len λA outer s H vs Q E hr IA=>?_;let#[t,h,q]:=hbody cdv A outer s H vs Q E hr IA;show#[t,h.Wx,q]
def U8.binds{ps:List Str}(F:U8 K x qual st f fd)
  (h:∀(kV doc pm:Value)(an:Option Addr)(cdv ct:Value)(us:List Value),us.length=ps.length->bindArgs (PySem.W.fnOf x qual (lV st) (jA st) (aC st) .none kV doc pm an cdv ct) #[us,[]]=pure^ps.zip us):Binds K fd ps []:=by let#[oc,od,kV,doc,pm,an,cdv,ct,osl,rfl,lk,hcd]:=F.ex;show .all^h kV doc pm an cdv ct
def NW{oc:Value}{od an:Option Addr}{osl:Array^Option Value}{kV doc cdv ct:Value}(l:K.lookup f=some #[oc,od,.func^PySem.W.fnOf x qual (lV st) (jA st) (aC st) .none kV doc pm an cdv ct,osl])
  (c:PySem.W.codeIn K cdv qual=true)(k:PySem.W.keepIn K^.ref f=true):U8 K x qual st f^PySem.W.fnOf x qual (lV st) (jA st) (aC st) .none kV doc pm an cdv ct:=#[#[oc,od,kV,doc,pm,an,cdv,ct,osl,rfl,l,c],k]
def gZ(hr:jd k A):A.units+1<cLine:=j9 (Nat.add_le_add_left (by decide:1<=64) _) hr.units
def pv(i:Nat)(hN:X.N[i]?=some x:=by rfl)(hv:Vis X.env.scope x:=by first|exact Or.inl rfl|exact Or.inr (Or.inl rfl)|exact Or.inr (Or.inr rfl))(hd:(x==("__debug__" : Str))=false:=by decide)
  (hcd:(x==("__classdict__" : Str))=false:=by decide):PE X (.Name x pos)^qj i:=Wv hN hv hd hcd
def afj{A B:Prop}(h:B):if false=true then A else B:=by rw[if_neg lG];show h
def aat{A B:Prop}(h:A):if true=true then A else B:=by rw[if_pos rfl];show h
def aA(H H':Hp):Prop:=∀b o,H b=some o->H' b=some o
def aA.refl(H:Hp):aA H H:=λ_ _ h=>h
def aA.trans{H1 H2:Hp}(a:aA H H1)(b:aA H1 H2):aA H H2:=λc o h=>b c o^a c o h
def aA.free(e:aA H H')(h:H' l=Option.none):H l=Option.none:=by
 cases q:H l with
 | none=>rfl
 | some o =>
  rw[e l o q] at h;cases h
def aA.seq(e:aA H H')(h:bG K H a xs):bG K H' a xs:=by rcases h with(h|⟨o,h⟩)|h;show .inl^.inl^e _ _ h;show .inl^.inr #[o,e _ _ h];show .inr h
def KS:dP X (.builtin "len") (λxs H Q=>∃a kvs,xs=[V.ref a]/\H a=some^.dK kvs/\Q (.int kvs.length) H):=by intro u5 s σ H xs us Q I r h;let#[a,kvs,rfl,ha,q]:=h;let#[u,rfl,ru]:=vals1 r;cases ru;show aap I (.inl ha) λt s' I'=>#[.int kvs.length,H,I',#[t,rfl],q]
section
variable {κ:Type} [DecidableEq κ]
end
end L2
namespace BT
open PySem
def eK:bootBuiltins "len" = some^.builtin "len":=by decide +kernel
def aau:bootBuiltins "all" = some^.builtin "all":=by decide +kernel
def lW:bootBuiltins "isinstance" = some^.builtin "isinstance":=by decide +kernel
def U9:bootBuiltins "int" = some^.type "int":=by decide +kernel
def W2:bootBuiltins "bool" = some^.type "bool":=by decide +kernel
def tM:bootBuiltins "list" = some^.type "list":=by decide +kernel
def Bp:bootBuiltins "tuple" = some^.type "tuple":=by decide +kernel
def Ge:bootBuiltins "dict" = some^.type "dict":=by decide +kernel
def CY:bootBuiltins "set" = some^.type "set":=by decide +kernel
def xD:bootBuiltins "reversed" = some^.type "reversed":=by decide +kernel
end BT
namespace L2
variable {elt iter:Expr}{ifs:List Expr}{px:Pos}
def W3(t u:TS):TS:=λD σ H=>∃J:St->Hp->Prop,t { D with nx:=J } σ H/\∀σ' H',J σ' H'->u D σ' H'
def o5{rest:List Stmt}{t u:TS}(h1:PS X st t)(h2:CG X rest u):CG X (st::rest)^W3 t u:=by
 intro u5 s σ H D I h;let#[J,h,k]:=h;show wpAny_execs_cons (c9 (h1 u5 s σ H _ I h) λf s1 q=>?_);cases f with
 | next =>
  let#[σ1,H1,I1,j]:=q;show h2 u5 s1 σ1 H1 D I1^k σ1 H1 j
 | brk=>show q
 | cont=>show q
 | ret u=>show q
theorem Bq{target:Expr}{it acc:Value}{env:Env}(I:Nat->Shared->Prop)
  (turn:∀n s,I n s->wpAny (model prog w) A (pyNext it) (λr s₁=>match r with
   | none=>R (.ok .next) s₁
   | some v=>wpAny (model prog w) A (letOwnedTupleGo target it v) (λ_ s₀=>wpAny (model prog w) A (assign target env v) (λ_ s₂ =>
     wpAny (model prog w) A (forIn ifs true λc r=>if r=true then do let ok <- isTrue c env (eval c env);pure^ForInStep.yield ok else pure^ForInStep.yield r) (λok s₃ =>
      if ok=true then wpAny (model prog w) A (eval elt env) (λx s₄ =>
       wpAny (model prog w) A (call (.builtin "list.append") [acc,x]) (λ_ s₅=>∃m,m<n/\I m s₅) (notedBy (model prog w) A env λe s'=>R (.error e) s') s₄) (notedBy (model prog w) A env λe s'=>R (.error e) s') s₃
      else ∃m,m<n/\I m s₃) (notedBy (model prog w) A env λe s'=>R (.error e) s') s₂) (notedBy (model prog w) A env λe s'=>R (.error e) s') s₀) (notedBy (model prog w) A env λe s'=>R (.error e) s') s₁) (notedBy (model prog w) A env λe s'=>R (.error e) s') s)
  (n:Nat)(h:I n s):
  codeAny (model prog w) A (.compLoop (.ListComp elt [#[target,iter,ifs,0]] scope pos) 0 it acc env) R s:=by
 show codeAny_loop rfl I (λn s hI=>?_) n h;change wpAny _ A ((compTurn (.ListComp elt [#[target,iter,ifs,0]] scope pos) 0 it acc env).onRaise (λx=>do noteFrame x env;theTreesLotGoes x)) _ _ s;show wpAny_noted ?_;rw[compTurn_list];show au^wpAny_standAt^au (wpAny_mono (turn n s hI) (λr s₁ h₁=>?_) λ_ _ h'=>h');cases r with
 | none=>show aL h₁
 | some v =>
  show au (wpAny_mono h₁ (λ_ s₀ h₀=>?_) λ_ _ h'=>h');show au (wpAny_mono h₀ (λ_ s₂ h₂=>au (wpAny_mono h₂ (λok s₃ h₃=>?_) λ_ _ h'=>h')) λ_ _ h'=>h');cases ok with
  | false=>show aL #[rfl,h₃]
  | true =>
   show au^au (wpAny_mono h₃ (λx s₄ h₄=>au (wpAny_mono h₄ (λ_ s₅ h₅=>aL^aL #[rfl,h₅]) λ_ _ h'=>h')) λ_ _ h'=>h')
noncomputable def sN(X:Cx)(N:List Str)(scope:Scope)(cl:List (Str×Addr))(C:Addr)(fp:List Addr)(s:Shared)(H:Hp):Cx where
 prog:=X.prog
 w:=X.w
 K:=X.K
 mg:=X.mg
 base:=X.base
 A:=X.A
 N:=N
 s₀:=s
 H₀:=H
 env:=compEnvC scope cl C X.env
 outer:=X.stack
 stack:=X.stack
 ex:=fp
 fn:=λ_=>false
 calm:=X.calm
 pn:=[]
 xe:=λ_ _=>False
structure bh (X:Cx) (scope:Scope) (cl:List (Str×Addr)) (x:Str) (fr:List Str) (ix:List Nat):Prop where
 calm:X.calm=true
 clos:closureFor scope X.env=pure cl
 cell:∀y∈scope.names,y.2≠.cell
 kind:scope.kind=.function
 names:∀y∈scope.names,y.2=.local->scope.names.lookup y.1=some .local
 loc:scope.names.lookup x=some .local
 nd:(x::fr).Nodup
 NX:∀y c,cl.lookup y=some c->X.env.cells.lookup y=some c
 R6:∀y,((relabel scope X.env).names.lookup y=some .cell\/(relabel scope X.env).names.lookup y=some .free)->∃c,cl.lookup y=some c
 fx:∀(j:Nat) y,fr[j]?=some y->∃i:Nat,ix[j]?=some i/\X.N[i]?=some y/\(X.env.kindOf y=some .cell\/X.env.kindOf y=some .free)/\((relabel scope X.env).names.lookup y=some .cell\/(relabel scope X.env).names.lookup y=some .free)
 len:fr.length=ix.length
def PF(X:Cx)(ifs:List Expr)(t:TT):Prop :=
 ∀(u5:List (Addr×Obj))(s:Shared)(σ:St)(H:Hp)(Q:Bool->Hp->Prop),Inv X u5 σ H s->t σ H Q ->
  wpAny (model X.prog X.w) X.A (forIn ifs true λc r=>if r=true then do let ok <- isTrue c X.env (eval c X.env);pure^ForInStep.yield ok else pure^ForInStep.yield r) (TP X u5 σ Q) X.xe s
def W4:TT:=λ_ H Q=>Q true H
def dM:PF X [] W4:=λ_ _ _ H _ I h=>wpAny_tests_nil #[H,I,h]
def nN{t:TT}(h:PT X c t):PF X [c] t:=λu5 s σ H Q I q=>wpAny_tests_one^h u5 s σ H Q I q
noncomputable def cut(ix:List Nat)(σ:St):St:=ix.map λi=>(σ[i]?).join
section
variable {σ:St}
def Inv.CZ{D:Addr}{o:HO}(I:Inv X u5 σ H s)(f:ig X u5 H D)(new:dj X.prog X.w (upd H D o) s.heap D o):Inv X u5 σ (upd H D o) s:=by
 have hn:H D=none:=f.1;have ne:∀b u,H b=some u->b≠D:=λb u e=>aP e hn;have hok:nB X.prog X.w (upd H D o) s.heap:=λb u e=>by
  by_cases hb:b=D;subst hb;rw[fm] at e;cases e;show new
  .rw[bI hb] at e;show(I.hok b u e).stay (λ_ _ _ q=>q) (λc q=>by rw[bI^ne _ _ q];show q) λc xs q=>by rw[bI^ne _ _ q];show q
 show I.step (H':=upd H D o) (h':=s.heap) (g':=s.gens) (t':=s.toks) (d':=s.drawn) (ch:=[D]) (λb hb=>by
   have e:b=D:=by simpa using hb
   subst e;show#[f.2.2.2.1,f.2.1,f.2.2.2.2.1,f.2.2.2.2.2])
  (λb o _ _ _ e _=>e) (λb o _ _ _ e _=>#[o.slots,e]) (λb o hb e n=>by rw[bI (λz=>hb^by simp[z])];show n)
  (λb o _ e=>#[o,e]) (λb xs e=>by rw[bI^ne _ _ e];show e) (λb o u e=>by rw[bI^ne _ _ e];show e) (λb ps e=>#[#[],by rw[bI^ne _ _ e,e];simp])
  (λm hm=>hm) hok I.bare
structure fS (X:Cx) (scope:Scope) (cl:List (Str×Addr)) (xs fr:List Str) (ix:List Nat):Prop where
 calm:X.calm=true
 clos:closureFor scope X.env=pure cl
 cell:∀y∈scope.names,y.2≠.cell
 kind:scope.kind=.function
 names:∀y∈scope.names,y.2=.local->scope.names.lookup y.1=some .local
 nd:(xs++fr).Nodup
 NX:∀y c,cl.lookup y=some c->X.env.cells.lookup y=some c
 R6:∀y,((relabel scope X.env).names.lookup y=some .cell\/(relabel scope X.env).names.lookup y=some .free)->∃c,cl.lookup y=some c
 fx:∀(j:Nat) y,fr[j]?=some y->∃i:Nat,ix[j]?=some i/\X.N[i]?=some y/\(X.env.kindOf y=some .cell\/X.env.kindOf y=some .free)/\((relabel scope X.env).names.lookup y=some .cell\/(relabel scope X.env).names.lookup y=some .free)
 len:fr.length=ix.length
def fS.of{xs:List Str}(O:bh X scope cl x fr ix)(nd:(xs++fr).Nodup):fS X scope cl xs fr ix:=#[O.calm,O.clos,O.cell,O.kind,O.names,nd,O.NX,O.R6,O.fx,O.len]
theorem nO{xs:List Str}{RR:Value->Addr->Result->Shared->Prop}
  (O:fS X scope cl xs fr ix)(hg:∀C fp s H,PG (sN X (xs++fr) scope cl C fp s H) tg g)(ht:∀C fp s H,PF (sN X (xs++fr) scope cl C fp s H) ifs tt)(he:∀C fp s H,PE (sN X (xs++fr) scope cl C fp s H) elt te)
  {tn:Nat->Heap->Prop}{J:It}{H2:Hp}{s2:Shared}(I2:Inv X u5 σ H2 s2)(T:Turn X.prog X.w X.K tg J fp it tn)(st2:tn 0 s2.heap)(f2:∀b∈fp,ig X u5 H2 b)
  (Z:List V->Hp->Prop)(W:Nat->Nat->List V->St->Hp->Prop)(m0:Nat)(w0:W 0 m0 [] (List.replicate xs.length none++cut ix σ) H2)
  (turn:∀i m ys τ H,W i m ys τ H->(J.stop i H/\Z ys H)\/(J.go i H/\ys.length<sizeLine/\∃N:List V->St->Hp->Prop,(∀ys' τ' H',N ys' τ' H'->∃m',m'<m/\W (i+1) m' ys' τ' H') /\
   ∀v H',J.Na i H v H'->g v τ H' λτ2 H2=>tt τ2 H2 λb H3=>if b=true then te τ2 H3 λy H4=>N (ys++[y]) τ2 H4 else N ys τ2 H3))
  (hRR:∀D C s' ys H',Inv X u5 σ (upd H' D^.lst ys) s'->(∃m,s'.heap.Ns C m)->ig X u5 (upd H' D^.lst ys) C->H' D=none->Z ys H'->RR (.ref D) C (.ok .next) s'):
  wpAny (model X.prog X.w) X.A (newList []) (λacc s₃=>wpAny (model X.prog X.w) X.A (newFunctionEnv scope X.env.globals cl [] X.env.qual none .none^some X.env) (λcenv s₄ =>
   codeAny (model X.prog X.w) X.A (.compStart (.ListComp elt [#[tg,iter,ifs,0]] scope pos) 0 (.ref it) acc { cenv with scope:=relabel scope X.env }) (RR acc cenv.locals) s₄) E s₃) E s2:=by
 show wpAny_newObj_type^wpAny_newFunctionEnv O.cell (by intro y hy;simp at hy) (λh₁ W5 R7=>?_) O.kind;dsimp only at W5 R7 ⊢;generalize hG:s2.heap.push { cls:=.type "list", dict:=none,data:=.seq ([]:List Value).toArray }=G at W5 R7 ⊢;have hC:G.objs.size=s2.heap.objs.size+1:=by rw[<- hG,fk]
 have hDC:s2.heap.objs.size≠G.objs.size:=by rw[hC];show aN^i0 _
 have W6:s2.heap.objs.size<=G.objs.size:=by rw[hC];show fN _
 have below:∀b,b<s2.heap.objs.size->b≠G.objs.size/\b≠s2.heap.objs.size:=λb hb=>#[by rw[hC];show aN^jy hb,aN hb];have old:∀b o,s2.heap.get? b=some o->h₁.get? b=some o:=λb o e=>R7.extBut b o (below b^aH e).1^dY _ (hG▸dY _ e);have hacc:h₁.get? s2.heap.objs.size=some { cls:=.type "list", data:=.seq ([]:List Value).toArray }:=R7.extBut _ _ hDC^dY _ (hG▸iI _ rfl);have hD2:H2 s2.heap.objs.size=none:=I2.hok.fresh^av _;have hC2:H2 G.objs.size=none:=I2.hok.fresh W6;have fD:ig X u5 H2 s2.heap.objs.size:=I2.qk (av _) hD2;have fC:ig X u5 H2 G.objs.size:=I2.qk W6 hC2;have W7:∀b∈fp,b<s2.heap.objs.size:=λb hb=>by let#[o,e,_]:=T.obj _ _ st2 b hb;show aH e
 have NY:∀b∈frs X.stack,b∈X.env.locals::X.fs:=I2.A8;have nP:=O.NX;have ok:(sN X (xs++fr) scope cl G.objs.size fp s2 H2).Ok:=by show#[I2.ok.mod,O.kind,I2.ok.glob,I2.ok.blt,W6,λy z c h1 h2=>I2.ok.inj y z c (nP y c h1)^nP z c h2,λy hy=>O.R6 y hy,λy c h _=>absurd h lG,λh=>I2.ok.hd h,I2.ok.frames,.inl rfl,λb hb=>?_,I2.bs,bg I2.ok.RL I2.sz,λb o e hb=>?_,λb hb hs=>?_,I2.stack,I2.A9];show#[(below b^W7 b hb).1,λy c e=>(f2 b hb).2.2.2.2.1 y c^nP y c e];rcases(f2 b hb).2.2.2.1 with z|z;show I2.ok.Nj b o e z;show absurd (cC (aH (I2.ok.bs b o e).1) z)^eV _;rcases aG.mp^NY b hs with z|z;show(f2 b hb).2.1 z;show(f2 b hb).2.2.1 z
 have nfs:∀b,s2.heap.objs.size<=b->b∉frs X.stack:=λb hb hs=>by rcases aG.mp^NY b hs with z|z;show absurd (cC I2.lt (z▸hb))^eV _;show I2.ZN hb z
 have Ic:Inv (sN X (xs++fr) scope cl G.objs.size fp s2 H2) [(s2.heap.objs.size,{ cls:=.type "list", data:=.seq ([]:List Value).toArray })] (List.replicate xs.length none++cut ix σ) H2 { s2 with heap:=h₁,toks:=s2.toks+([]:List (Str×Value)).length }:=by
  show#[ok,rfl,I2.bare,Un.kept old,#[_,W5,λi y v h1 h2 h3=>?_],λy c e=>?_,hC2,λy c e=>I2.ko y c^nP y c e,λp hp=>?_,I2.hok.kept old,?_]
  .have hk:xs.length<=i:=by rcases bE i xs.length with q|q;rw[jR^by simpa using q,List.getElem?_replicate,if_pos q] at h2;cases h2;show q
   .obtain⟨j,rfl⟩:∃j,i=xs.length+j:=#[i-xs.length,∅];have h1:fr[j]?=some y:=by have h1:(xs++fr)[xs.length+j]?=some y:=h1;rwa [kJ ∅,Nat.add_sub_cancel_left] at h1
    have h2:(cut ix σ)[j]?=some^some v:=by rwa [kJ^by simp,List.length_replicate,Nat.add_sub_cancel_left] at h2
    let#[i,e1,e2,k,kc]:=O.fx j y h1;let#[c,e3]:=O.R6 y kc;have e4:σ[i]?=some^some v:=by
     unfold cut at h2;rw[aV,e1] at h2;have h2:some ((σ[i]?).join)=some^some v:=h2;have h2:=Option.some.inj h2;cases q:σ[i]? with
     | none=>rw[q] at h2;cases h2
     | some z=>rw[q] at h2;show congrArg some h2
    let#[m,_,hl]:=I2.loc;let#[u,r,l]:=hl i y v e2 e4 (k.elim (λz=>.inr^.inl z) λz=>.inr^.inr z);show#[u,r,.inr #[kc,c,e3,?_]];rcases l with⟨l1,_⟩|⟨_,c',l2,l3⟩;rcases k with k|k<;>(rw[k] at l1;cases l1);have e5:=nP y c e3;rw[l2] at e5;cases e5;let#[o,ho,hd]:=l3;show#[o,old _ _ ho,hd]
  .let#[v,o,ho,hd]:=I2.cell y c^nP y c e;show#[v,o,old _ _ ho,hd]
  .have e:p=(s2.heap.objs.size,{ cls:=.type "list", data:=.seq ([]:List Value).toArray }):=by simpa[sN] using hp
   subst e;show#[hacc,hD2,hDC,nfs _^av _,λv z=>by cases z]
  .change(List.replicate xs.length none++cut ix σ).length=(xs++fr).length;unfold cut;simp[O.len]
 have W8:∀b∈fp,b≠s2.heap.objs.size:=λb hb=>(below b^W7 b hb).2;have F5:∀{pl:List (Addr×Obj)}{H':Hp},(∀p∈pl,p.1=s2.heap.objs.size)->(∀b∈fp,H' b=none)->∀b∈fp,ig (sN X (xs++fr) scope cl G.objs.size fp s2 H2) pl H' b:=λ{pl H'} hp hn b hb =>
  #[hn b hb,(below b^W7 b hb).1,λhs=>ok.Nk b hb hs,.inl hb,λy c e=>(f2 b hb).2.2.2.2.1 y c^nP y c e,λp IM z=>W8 b hb^z.symm.trans^hp p IM]
 have one:∀{o:Obj},∀p∈[(s2.heap.objs.size,o)],p.1=s2.heap.objs.size:=λp hp=>by have e:=ay.mp hp;rw[e]
 have loop:codeAny (model X.prog X.w) X.A (.compLoop (.ListComp elt [#[tg,iter,ifs,0]] scope pos) 0 (.ref it) (.ref s2.heap.objs.size)^compEnvC scope cl G.objs.size X.env) (RR (.ref s2.heap.objs.size) G.objs.size)
   { s2 with heap:=h₁,toks:=s2.toks+([]:List (Str×Value)).length }:=by
  show Bq (λn s'=>∃(i:Nat)(ys:List V)(its:List Value)(c:Nat)(τ:St)(H':Hp),Inv (sN X (xs++fr) scope cl G.objs.size fp s2 H2) [(s2.heap.objs.size,{ cls:=.type "list", data:=.seq its.toArray c })] τ H' s'/\tn i s'.heap/\(∀b∈fp,H' b=none)/\Vals ys its/\ys.length<=sizeLine/\W i n ys τ H') ?_ m0
   #[0,[],[],0,_,H2,Ic,T.keep _ _ _ st2 (λb _ o e=>old b o e),λb hb=>(f2 b hb).1,.nil,aM _,w0]
  rintro n s3 ⟨i,ys,its,c,τ,H3,I3,st3,Z3,rv,hl3,w3⟩;rcases turn i n ys τ H3 w3 with⟨stop,zz⟩|⟨go,hlt,N,hN,step⟩;show wpAny_mono (T.done (sN X (xs++fr) scope cl G.objs.size fp s2 H2) rfl rfl rfl O.calm i _ s3 _ H3 _ I3 (F5 one Z3) st3 stop) (λr s4 h4=>?_) λ_ _ e=>e;let#[hr,I4]:=h4;subst hr;have pD:=I4.pin _^dZ _^ay.mpr rfl;have IX:Inv X u5 σ H3 s4:=I2.UM I4.os I4.base I4.hok I4.bare λb hb=>#[(f2 b hb).2.2.2.1,(f2 b hb).2.1,(f2 b hb).2.2.2.2.1,(f2 b hb).2.2.2.2.2];let#[mC,hmC,_]:=I4.loc;show hRR _ _ s4 ys H3 (IX.CZ #[pD.2.1,fD.2] #[hl3,its,c,rv,pD.1]) #[mC,hmC] #[by rw[bI^aQ hDC];show I4.free,fC.2] pD.2.1 zz
  .show wpAny_mono (T.item (sN X (xs++fr) scope cl G.objs.size fp s2 H2) rfl rfl rfl O.calm i _ s3 _ H3 _ I3 (F5 one Z3) st3 go) (λr s4 h4=>?_) λ_ _ e=>e;let#[u,hr,h4]:=h4;subst hr;show wpAny_mono h4 (λ_ s5 h5=>?_) λ_ _ e=>e;let#[v,H5,I5,r5,y5,RP,fr5]:=h5;have I5':=I5.pinned (F5 one fr5)^T.obj _ _ RP;show wpAny_mono (hg _ _ _ _ _ s5 τ H5 v u _ I5' r5^step v H5 y5) (λ_ s6 h6=>?_) λ_ _ f=>False.elim f;let#[τ2,H6,I6,q6]:=h6;show wpAny_mono (ht _ _ _ _ _ s6 _ H6 _ I6 q6) (λok s7 h7=>?_) λ_ _ f=>False.elim f;let#[H7,I7,q7]:=h7;cases ok with
   | true =>
    rw[if_pos rfl] at q7 ⊢;show wpAny_mono (he _ _ _ _ _ s7 _ H7 _ I7 q7) (λuy s8 h8=>?_) λ_ _ f=>False.elim f;let#[y,H8,I8,r8,n8]:=h8;have pD:=I8.pin _^dZ _^iw _^ay.mpr rfl;have rl:=rv.length;show append_at (hsz:=by rw[aZ];lia) pD.1 λh9 hs9 hD9=>?_;let#[m',hm,w9]:=hN _ _ _ n8;have Ia:Inv (sN X (xs++fr) scope cl G.objs.size fp s2 H2) (tF fp s5.heap) τ2 H8 s8:=I8.vU λp hp=>I8.pin p^dZ _^dZ _ hp;have Ib:=Ia.turned (h':=h9) (t':=s8.toks) (it:=s2.heap.objs.size) (λb o hb e=>hs9.extBut b o hb e) pD.2.1 hDC (.inr^av _) (λy c e=>fD.2.2.2.2.1 y c^nP y c e)
     λp hp=>by let#[hb,_]:=zY (fp:=fp) (h:=s5.heap) (show p∈tF fp s5.heap from hp);show W8 p.1 hb
    show#[m',hm,i+1,ys++[y],its++[uy],c+1,τ2,H8,Ib.vU λp hp=>?_,T.keep _ _ _ RP λb hb o e=>?_,λb hb=>?_,rv.append^.cons r8 .nil,by rw[aF,gF];lia,w9]
    .have e:=ay.mp hp;subst e;show#[?_,pD.2.1,hDC,pD.2.2.2.1,λv z=>by cases z];have q:its.toArray.push uy=(its++[uy]).toArray:=by simp
     rw[<- q];show hD9
    .show hs9.extBut b o (W8 b hb) (I8.pin (b,o)^dZ _^dZ _^iR hb e).1
    .let#[o,e,d]:=T.obj _ _ RP b hb;show(I8.pin (b,o)^dZ _^dZ _^iR hb e).2.1
   | false =>
    rw[if_neg lG] at q7 ⊢;let#[m',hm,w9]:=hN _ _ _ q7;show#[m',hm,i+1,ys,its,c,τ2,H7,I7.qQ,T.keep _ _ _ RP λb hb o e=>?_,λb hb=>?_,rv,hl3,w9];show(I7.pin (b,o)^dZ _^dZ _^iR hb e).1;let#[o,e,d]:=T.obj _ _ RP b hb;show(I7.pin (b,o)^dZ _^dZ _^iR hb e).2.1
 show codeAny_compStart_list loop^T.self _ 0 _ _ _ (T.keep _ _ _ st2 λb _ o e=>old b o e) loop
def xE{RR:Value->Addr->Result->Shared->Prop}
  (O:bh X scope cl x fr ix)(ht:∀C fp s H,PF (sN X (x::fr) scope cl C fp s H) ifs tt)(he:∀C fp s H,PE (sN X (x::fr) scope cl C fp s H) elt te)
  {tn:Nat->Heap->Prop}{J:It}{H2:Hp}{s2:Shared}(I2:Inv X u5 σ H2 s2)(T:Turn X.prog X.w X.K (.Name x px) J fp it tn)(st2:tn 0 s2.heap)(f2:∀b∈fp,ig X u5 H2 b)
  (Z:List V->Hp->Prop)(W:Nat->Nat->List V->Hp->Prop)(m0:Nat)(w0:W 0 m0 [] H2)
  (turn:∀i m ys H,W i m ys H->(J.stop i H/\Z ys H)\/(J.go i H/\ys.length<sizeLine/\∃N:List V->Hp->Prop,(∀ys' H',N ys' H'->∃m',m'<m/\W (i+1) m' ys' H') /\
   ∀v H',J.Na i H v H'->tt (some v::cut ix σ) H' λb H3=>if b=true then te (some v::cut ix σ) H3 λy H4=>N (ys++[y]) H4 else N ys H3))
  (hRR:∀D C s' ys H',Inv X u5 σ (upd H' D^.lst ys) s'->(∃m,s'.heap.Ns C m)->ig X u5 (upd H' D^.lst ys) C->H' D=none->Z ys H'->RR (.ref D) C (.ok .next) s'):
  wpAny (model X.prog X.w) X.A (newList []) (λacc s₃=>wpAny (model X.prog X.w) X.A (newFunctionEnv scope X.env.globals cl [] X.env.qual none .none^some X.env) (λcenv s₄ =>
   codeAny (model X.prog X.w) X.A (.compStart (.ListComp elt [#[.Name x px,iter,ifs,0]] scope pos) 0 (.ref it) acc { cenv with scope:=relabel scope X.env }) (RR acc cenv.locals) s₄) E s₃) E s2:=by
 show nO (xs:=[x]) (g:=iB 0) (fS.of O O.nd) (λC fp s H=>?_) ht he I2 T st2 f2 Z (λi m ys τ H=>(∃y,τ=y::cut ix σ)/\W i m ys H) m0 #[#[none,rfl],w0] (λi m ys τ H h=>?_) hRR;show Iq O.nd rfl (.inl^lookup_relabel_local O.loc)^.inr^lookup_relabel_local O.loc
 .let#[#[y,rfl],h]:=h;rcases turn i m ys H h with h|⟨h1,h2,N,h3,h4⟩;show .inl h
  .show .inr #[h1,h2,λys τ H=>(∃y,τ=y::cut ix σ)/\N ys H,λys' τ' H' ⟨e,n⟩=>let⟨m',a,b⟩:=h3 ys' H' n;#[m',a,e,b],λv H' hy=>?_];have e:(∃z,some v::cut ix σ=z::cut ix σ)=True:=eq_true #[_,rfl];change tt (some v::cut ix σ) H' λb H3=>if b=true then te (some v::cut ix σ) H3 λy1 H4=>(∃z,some v::cut ix σ=z::cut ix σ)/\N (ys++[y1]) H4 else(∃z,some v::cut ix σ=z::cut ix σ)/\N ys H3
   erw[e,true_and];show h4 v H' hy
def IP(wi:TI)(tt:TT)(te:TE)(ix:List Nat):TE:=λσ H Q=>wi σ H λJ H1=>∃W:Nat->Nat->List V->Hp->Prop,(∃m,W 0 m [] H1)/\∀i m ys H,W i m ys H ->
 (J.stop i H/\∀p,H p=none->Q (.ref p)^upd H p^.lst ys)\/(J.go i H/\ys.length<sizeLine/\∃N:List V->Hp->Prop,(∀ys' H',N ys' H'->∃m',m'<m/\W (i+1) m' ys' H') /\
  ∀v H',J.Na i H v H'->tt (some v::cut ix σ) H' λb H3=>if b=true then te (some v::cut ix σ) H3 λy H4=>N (ys++[y]) H4 else N ys H3)
def dI{wi:TI}(O:bh X scope cl x fr ix)(hi:PI X (.Name x px) iter wi)
  (ht:∀C fp s H,PF (sN X (x::fr) scope cl C fp s H) ifs tt)(he:∀C fp s H,PE (sN X (x::fr) scope cl C fp s H) elt te)
  (hs:∀v,foldedSetIterable iter X.env v=pure v:=by walk_at "ir"):PE X (.ListComp elt [#[.Name x px,iter,ifs,0]] scope pos)^IP wi tt te ix:=by intro u5 s σ H Q I h;rw[eval_ListComp];show wpAny_comprehension_free (use:=none) rfl hs O.clos O.kind O.names (c9 (hi u5 s σ H _ I h) λv s1 h1=>c9 h1 λitv s2 h2=>?_);let#[it,fp,tn,J,H2,e,I2,T,st2,f2,W,#[m0,w0],turn]:=h2;subst e;show xE O ht he I2 T st2 f2 (λys H=>∀p,H p=none->Q (.ref p)^upd H p^.lst ys) W m0 w0 turn λD C s' ys H' I' hm fC hD z=>?_;let#[m,hm]:=hm;show#[m,hm,λh' hs'=>?_];show#[.ref D,_,I'.turned (t':=s'.toks) (it:=C) (λb o hb e=>hs'.extBut b o hb e) fC.1 fC.2.1 fC.2.2.2.1 fC.2.2.2.2.1 fC.2.2.2.2.2,rfl,z D hD]
def C0(te:TE)(i:Nat):TS:=λD σ H=>te σ H λv H1=>D.nx (σ.set i^some v) H1
def R8{y:Str}{py spos:Pos}{wi:TI}(hN:X.N.Nodup)(W9:X.N[i]?=some y)(hy:Loc X.env.scope y)
  (O:bh X scope cl x fr ix)(hi:PI X (.Name x px) iter wi)
  (ht:∀C fp s H,PF (sN X (x::fr) scope cl C fp s H) ifs tt)(he:∀C fp s H,PE (sN X (x::fr) scope cl C fp s H) elt te)
  (hsw:swapsWith (.ListComp elt [#[.Name x px,iter,ifs,0]] scope pos) (some^.Name y py) spos.line X.env=pure true:=by rfl)
  (hs:∀v,foldedSetIterable iter X.env v=pure v:=by walk_at "ir")(hf:X.fn y=true\/X.env.scope.names.lookup y=some .local:=by walk_at "or"):
  PS X (.Assign [.Name y py] (.ListComp elt [#[.Name x px,iter,ifs,0]] scope pos) spos)^C0 (IP wi tt te ix) i:=by
 intro u5 s σ H D I h;rw[exec_Assign_Name_used _ _ _ _ hsw];show au^wpAny_standAt^au ?_;change wpAny _ X.A (do let _ <- comprehension (.ListComp elt [#[.Name x px,iter,ifs,0]] scope pos) scope X.env _ (newList []) false (eval iter X.env) (some^assign (.Name y py) X.env)) _ _ s;show au (wpAny_mono (wpAny_comprehension_free (use:=some^assign (.Name y py) X.env) (Q:=λ_ s'=>SP X u5 D .next s') rfl hs O.clos O.kind O.names
  (c9 (hi u5 s σ H _ I h) λv s1 h1=>c9 h1 λitv s2 h2=>?_)) (λ_ s' hq=>aL^aL hq) λ_ _ e=>e)
 let#[it,fp,tn,J,H2,e,I2,T,st2,f2,W,#[m0,w0],turn]:=h2;subst e;show xE O ht he I2 T st2 f2 (λys H=>∀p,H p=none->D.nx (σ.set i^some^.ref p)^upd H p^.lst ys) W m0 w0 turn λL C s' ys H' I' hm fC hD z=>?_;let#[m,hm]:=hm;change wpAny _ X.A (assign (.Name y py) X.env^.ref L) _ _ _;show wpAny_assign_Name^sY I' hN W9 hy (v:=.ref L) rfl (λs'' I'' Nb=>?_) hf;let#[a,Nb,ha]:=Nb;have hCa:C≠a:=by rcases ha with z|z;rw[z];show fC.2.1;show aQ^fC.2.2.2.2.1 _ _ z
 show#[m,hm.sameBut Nb hCa,λh' hs'=>?_];show#[_,_,I''.turned (t':=s''.toks) (it:=C) (λb o hb e=>hs'.extBut b o hb e) fC.1 fC.2.1 fC.2.2.2.1 fC.2.2.2.2.1 fC.2.2.2.2.2,z L hD]
def bh.plain(calm:X.calm=true)(cell:∀y∈scope.names,y.2≠.cell)(free:∀y∈scope.names,y.2≠.free)(kind:scope.kind=.function)
  (names:∀y∈scope.names,y.2=.local->scope.names.lookup y.1=some .local)(loc:scope.names.lookup x=some .local):bh X scope [] x [] [] where
 calm:=calm
 clos:=closureFor_none free
 cell:=cell
 kind:=kind
 names:=names
 loc:=loc
 nd:=by simp
 NX:=λy c h=>by cases h
 R6:=λy h=>by
  exfalso;have mem:∀{k:NameKind},(relabel scope X.env).names.lookup y=some k->∃z∈scope.names,(if(z.2==.free&&X.env.scope.kind==.function&&X.env.kindOf z.1==some .cell) then(z.1,NameKind.cell) else(z.1,z.2))=(y,k):=λ{k} e=>by have q:=iy e;let#[z,hz,e]:=aE.mp q;show#[z,hz,e]
  rcases h with h|h
  .let#[z,hz,e]:=mem h;have n1:=free z hz;have n2:(z.2==NameKind.free)=false:=by cases hk:z.2<;>first|rfl|show absurd hk n1
   rw[n2,wO,wO,if_neg lG] at e;show cell z hz^congrArg Prod.snd e
  .let#[z,hz,e]:=mem h;have n1:=free z hz;have n2:(z.2==NameKind.free)=false:=by cases hk:z.2<;>first|rfl|show absurd hk n1
   rw[n2,wO,wO,if_neg lG] at e;show n1^congrArg Prod.snd e
 fx:=λj y h=>by cases j<;>cases h
 len:=rfl
end
def NZ:dP X (.builtin "isinstance") (λxs H Q=>∃x T t b,xs=[x,.ty T]/\pO X.K H x t/\PySem.W.kitOne X.K t^.type T=some b/\Q (.bl b) H):=by intro u5 s σ H xs us Q I r h;let#[x,T,t,b,rfl,ty,e,q]:=h;let#[u,u',rfl,r1,r2]:=vals2 r;cases r2;show KD I r1 ty e λtk=>#[.bl b,H,I.tok tk,rfl,q]
theorem Ab{prog:Program}{w:World}{A:Around}{E:Value->Shared->Prop}{it t:Addr}{items:Array Value}(hne:t≠it):∀(n i:Nat)(s:Shared)(Q:List Value->Shared->Prop),s.heap.IsListIter it t i->s.heap.IsList t items->i+n<=items.size ->
  (∀h',h'.IsListIter it t (i+n)->Heap.SameBut it s.heap h'->Q ((items.toList.drop i).take n) { s with heap:=h' })->wpAny (model prog w) A (draw (.ref it) n) Q E s
 | 0,i,s,Q,hit,_,_,hQ=>by
  change wpAny _ _ (pure []) Q E s;show aL (by simpa using hQ s.heap hit (Heap.SameBut.refl ..))
 | n+1,i,s,Q,hit,ht,hle,hQ=>by
  have hlt:i<items.size:=∅;change wpAny _ _ (pyNext (.ref it) >>= _) Q E s;show au (wpAny_pyNext_list_item hit ht (x:=items[i]) (by simp[hlt]) λh₁ Xa hs₁=>?_);show au^wpAny_holding (Ab hne n (i+1) _ _ Xa (ht.extBut hs₁.extBut hne) ∅ λh₂ afn hs₂=>aL ?_);have hd:items.toList.drop i=items[i]::items.toList.drop (i+1):=by simp[A3,hlt]
  have:=hQ h₂ (by rw[show i+(n+1)=i+1+n by lia];show afn)^hs₁.trans hs₂;rw[hd,List.take_succ_cons] at this;show this
theorem C1{t:Addr}{items:Array Value}{targets:List (Bool×(Value->Sem Unit))}{Q:Unit->Shared->Prop}(hh:A.handled=none)(ht:s.heap.IsList t items)
  (hn:targets.length=items.size)(hstar:targets.findIdx? (·.1)=none)
  (h:∀h',Heap.ExtBut s.heap.objs.size s.heap h'->wpAny (model prog w) A (assignInOrder (targets.map (·.2)) items.toList) Q E { s with heap:=h' }):
  wpAny (model prog w) A (unpack (.ref t) targets) Q E s:=by
 have hlt:t≠s.heap.objs.size:=by let#[o,ho,_]:=ht;show aN^aH ho
 unfold unpack;rw[hn,hstar];show au^wpAny_holding ?_;unfold unpackItems;show au ?_;unfold notIterableAtAll;show au^wpAny_specialOf ht.typeIs F.slot_list_iter.lookup ?_;show aL ?_;erw[cB,if_false];show au^wpAny_holding^wpAny_pyIter_list ht ?_;show au^wpAny_holding (Ab hlt items.size 0 _ _ #[_,iI _ rfl,rfl,rfl] (ht.push _) ∅ λh₁ Xa hs₁=>?_);have hall:List.take items.size^List.drop 0 items.toList=items.toList:=by rw[List.drop_zero];show List.take_of_length_le (by simp)
 rw[hall];rw[if_neg^by simp];have ht₁:h₁.IsList t items:=(ht.push _).extBut hs₁.extBut hlt;show au^wpAny_holding (wpAny_pyNext_list_end hh Xa ht₁ (by simp) λh₂ he₂=>?_);erw[Option.isSome_none,cB,if_false];show aL (h h₂ λb o hb e=>he₂ b o hb^hs₁.extBut b o hb^dY _ e)
def aav(K:az)(n:Nat)(t:FZ):TG:=λv σ H Q=>∃a xs,v=.ref a/\bG K H a xs/\xs.length=n/\t xs σ H Q
def Gf{t:FZ}(hc:X.calm=true)(h:UP X es t)(hn:(assignEach es X.env).length=n)(hst:(assignEach es X.env).findIdx? (·.1)=none):PG X (.Tuple es k pos)^aav X.K n t:=by intro u5 s σ H v u Q I r hw;let#[a,xs,e1,hq,hl,hw]:=hw;subst e1;cases r;let#[its,rv,pl,hz]:=I.list hq;rw[assign_Tuple];show au^wpAny_standAt (C1 (I.ok.hd hc) pl.isList (by simp[hn,<- hl,rv.length]) hst λh' hx=>?_);have I1:Inv X u5 σ H { s with heap:=h' }:=I.kept (t':=s.toks) λb o e=>hx b o (aN^aH e) e;show h u5 _ σ H xs _ Q I1 (by simpa using rv) hw
end L2
namespace RV
open PySem
variable {t:Addr}{items:Array Value}{Q:Value->Shared->Prop}
def tN:Manifest.owners.lookup^String.ofList ['d','e','s','r','e','v','e','r'].reverse=some Manifest.sig_reversed:=by kernel_rfl
def slot_next:Slot "reversed" "__next__" "reversed.__next__" :=
 .of (owner := "reversed") (n := "__next__") (by rw[typeLookup_type,builtinLookup_eq_fast];kernel_rfl) (by decide +kernel) (by decide +kernel) (by decide +kernel)
  (by first|show .inl (by decide +kernel)|show .inr^by decide +kernel) (by rw[isSubtype_type];kernel_rfl)
def entry_next:entryFor table "reversed.__next__" = some Builtin.«reversed.__next__»:=entryFor_of_tree (by kernel_rfl)
def args_next(a:Value):argsOk "reversed.__next__" #[[a],[]]:=by unfold argsOk;rw[signature?_of (id := "reversed.__next__") (n:=['_','_','t','x','e','n','_','_']) (o:=['d','e','s','r','e','v','e','r']) (by kernel_rfl) tN];kernel_rfl
def Ac:Slot "reversed" "__iter__" "reversed.__iter__" :=
 .of (owner := "reversed") (n := "__iter__") (by rw[typeLookup_type,builtinLookup_eq_fast];kernel_rfl) (by decide +kernel) (by decide +kernel) (by decide +kernel)
  (by first|show .inl (by decide +kernel)|show .inr^by decide +kernel) (by rw[isSubtype_type];kernel_rfl)
def KU(a:Value):argsOk "reversed.__iter__" #[[a],[]]:=by unfold argsOk;rw[signature?_of (id := "reversed.__iter__") (n:=['_','_','r','e','t','i','_','_']) (o:=['d','e','s','r','e','v','e','r']) (by kernel_rfl) tN];kernel_rfl
def Gg:entryFor table "reversed.__iter__" = some Builtin.«dict_keyiterator.__iter__» :=
 entryFor_alias (id' := "dict_keyiterator.__iter__") (by kernel_rfl) (by first|rfl|decide +kernel|(unfold String.splitOn;simp +decide [String.splitOnAux])) (by decide +kernel) (by kernel_rfl)
def tO:Slot "reversed" "__length_hint__" "reversed.__length_hint__" :=
 .of (owner := "reversed") (n := "__length_hint__") (by rw[typeLookup_type,builtinLookup_eq_fast];kernel_rfl) (by decide +kernel) (by decide +kernel) (by decide +kernel)
  (by first|show .inl (by decide +kernel)|show .inr^by decide +kernel) (by rw[isSubtype_type];kernel_rfl)
def KW(a:Value):argsOk "reversed.__length_hint__" #[[a],[]]:=by unfold argsOk;rw[signature?_of (id := "reversed.__length_hint__") (n:=['_','_','t','n','i','h','_','h','t','g','n','e','l','_','_']) (o:=['d','e','s','r','e','v','e','r']) (by kernel_rfl) tN];kernel_rfl
def Gh:entryFor table "reversed.__length_hint__" = some Builtin.«reversed.__length_hint__»:=entryFor_of_tree (by kernel_rfl)
def Ad:Slot "reversed" "__init__" "object.__init__" :=
 .of (owner := "object") (n := "__init__") (by rw[typeLookup_type,builtinLookup_eq_fast];kernel_rfl) (by decide +kernel) (by decide +kernel) (by decide +kernel)
  (by first|show .inl (by decide +kernel)|show .inr^by decide +kernel) (by rw[isSubtype_type];kernel_rfl)
def Xb:typeLookup (.type "reversed") "__len__" = pure none:=by rw[typeLookup_type,builtinLookup_eq_fast];kernel_rfl
def Gi:typeLookup (.type "list_reverseiterator") "__len__" = pure none:=by rw[typeLookup_type,builtinLookup_eq_fast];kernel_rfl
def N1:typeLookup (.type "list_reverseiterator") "__length_hint__" = pure^some^.builtin "list_reverseiterator.__length_hint__":=by rw[typeLookup_type,builtinLookup_eq_fast];kernel_rfl
def Gj:typeLookup (.type "tuple") "__reversed__" = pure none:=by rw[typeLookup_type,builtinLookup_eq_fast];kernel_rfl
def called:TypeCalled "reversed" "reversed.__new__" "object.__init__" :=
 #[by decide +kernel,by decide +kernel,#[_,_,F.mro_reversed],F.made_reversed,by decide +kernel,by rw[isSubtype_type];kernel_rfl,Ad]
noncomputable def ql(t:Addr)(i:Int):Obj:={ cls:=.type "reversed", data:=.fields #v[.ref t,rawInt i] }
def tP(h:Heap)(a t:Addr)(i:Int):Prop:=∃o,h.get? a=some o/\o.cls=.type "reversed" /\ o.data=.fields #v[.ref t,rawInt i]
def tP.typeIs{i:Int}(x:tP s.heap a t i):s.TypeIs (.ref a) "reversed" := let⟨o,ho,hc,_⟩:=x;#[o,ho,hc]
def tP.at{i:Int}(x:tP h a t i)(e:∀o,h.get? a=some o->h'.get? a=some o):tP h' a t i:=let⟨o,ho,r⟩:=x;#[o,e _ ho,r]
def N2{Q₁:Value->Shared->Prop}(ht:PyProof.Rows.IsTup s.heap t items)(hfit:(items.size:Int)<2 ^ 63)
  (h:∀tk,Q₁ (.ref s.heap.objs.size) { s with heap:=s.heap.push (ql t ((items.size:Int)-1)),toks:=tk }):
  codeAny (model prog w) A (.call (.builtin "reversed.__new__") #[[.type "reversed", .ref t],[]]) (wants Q₁ E) s:=by
 show codeAny_of_tree ?_;change wpAny _ A.in1 (do checkBuiltinCall "reversed.__new__" #[[.type "reversed", .ref t],[]];again^.builtin "reversed.__new__" #[[.type "reversed", .ref t],[]]) _ _ s;show au^wpAny_of_eq (F.newCall_reversed_1 _)^aL #[plainId_quiet F.plain_reversed_new _,codeAny_builtin F.entry_reversed_new ?_];rw[iu F.plain_reversed_new _];unfold Builtin.«reversed.__new__»;show au^wpAny_of_eq (newClass_reversed _) ?_
 try dsimp only
 show au^wpAny_of_eq (a:=()) (by first|rfl|kernel_rfl) ?_;show au^wpAny_of_eq (a:=()) (by first|rfl|kernel_rfl) ?_
 try dsimp only
 show au^wpAny_specialOf ht.typeIs Gj ?_
 try dsimp only
 show au ?_
 wp_delta
 show au^wpAny_isInstance (T := "tuple") (b:=false) ht.typeIs (by rw[isSubtype_type];kernel_rfl) ?_;show wpAny_ite_split (λhab=>absurd hab^by decide) (λ_=>?_);show au^wpAny_specialOf ht.typeIs PyProof.Rows.slot_tuple_getitem.lookup ?_
 try dsimp only
 show wpAny_ite_split (λ_=>?_) (λhab=>absurd (by decide +kernel) hab);show aL ?_;show wpAny_ite_split (λhab=>absurd hab^by decide) (λ_=>?_);show au^PyProof.Rows.len_tuple ht hfit ?_;show au^aL ?_
 try dsimp only
 show au ?_
 wp_delta
 show wpAny_newObj_type (aL ?_) (by size_fits);show h _
def qV(ht:PyProof.Rows.IsTup s.heap t items)(hfit:(items.size:Int)<2 ^ 63)
  (h:∀tk,Q (.ref s.heap.objs.size) { s with heap:=s.heap.push (ql t ((items.size:Int)-1)),toks:=tk }):wpAny (model prog w) A (call (.type "reversed") [.ref t]) Q E s:=by show callType_codes (Q₁:=λobj s₁=>obj=.ref s.heap.objs.size/\∃tk,s₁={ s with heap:=s.heap.push (ql t ((items.size:Int)-1)),toks:=tk }) called (F.typeCall_reversed_1 _) F.entry_object_init (N2 ht hfit λtk=>#[rfl,tk,rfl]) λobj s₁ h₁=>?_;let#[rfl,tk,rfl]:=h₁;have hT:Shared.TypeIs { s with heap:=s.heap.push (ql t ((items.size:Int)-1)),toks:=tk } (.ref s.heap.objs.size) "reversed" := #[_,iI _ rfl,rfl];show#[hT,F.args_object_init_2 _ _,object_init_meets Ad.lookup F.made_reversed (by decide) prog w A.in1 _ _ #[hT,rfl,h tk]]
theorem next_item{x:Value}{Q:Option Value->Shared->Prop}(hit:tP s.heap it t (i:Int))(ht:PyProof.Rows.IsTup s.heap t items)(hx:items[i]?=some x)(hfit:items.size<2 ^ 62)
  (hQ:∀h' tk,tP h' it t ((i:Int)-1)->Heap.SameBut it s.heap h'->Q (some x) { s with heap:=h',toks:=tk }):wpAny (model prog w) A (pyNext^.ref it) Q E s:=by
 let#[o,ho,hc,hd]:=id hit;have hlt:i<items.size:=by rw[nD] at hx;show hx.1
 have hj:seqIndex? (i:Int) items.size=some i:=by have h1:¬((i:Int)<0):=∅;unfold seqIndex?;simp[h1,hlt]
 unfold pyNext;show au (wpAny_attempt (wpAny_callSpecial?_slot (name:=Str.ofString "__next__") hit.typeIs slot_next
  (wpAny_call_entry slot_next hit.typeIs entry_next ?_^args_next _)))
 unfold Builtin.«reversed.__next__»;show au^wpAny_of_eq (a:=(Value.ref it,[])) rfl ?_
 try dsimp only
 show au^wpAny_field ho hd (x:=.ref t) rfl ?_;show au^wpAny_field ho hd (x:=rawInt (i:Int)) rfl ?_;change wpAny _ _ (if(i:Int)<0 then _ else _) _ _ s;rw[if_neg ∅];show au^wpAny_specialOf ht.typeIs PyProof.Rows.slot_tuple_getitem.lookup ?_;show wpAny_ite_split (λhab=>absurd hab^by decide) (λ_=>?_);show au^wpAny_mkInt ?_;show au^wpAny_attempt (PyProof.Rows.getItem_tuple ht ∅ ∅ hj hx ?_)
 try dsimp only
 show au^wpAny_field ho hd (x:=rawInt (i:Int)) rfl ?_;show au^wpAny_setField ho hd (by simp) ?_;show aL #[x,rfl,aL^hQ _ _ ?_ (kH ..)];show#[_,fj _ ho^jz^eB hd _,(lP ..).trans hc,by
  rw[eB hd];simp]
def next_end{Q:Option Value->Shared->Prop}(hh:A.handled=none)(hit:tP s.heap it t (-1))
  (hQ:∀h',Heap.ExtBut it s.heap h'->Q none { s with heap:=h' }):wpAny (model prog w) A (pyNext^.ref it) Q E s:=by
 let#[o,ho,hc,hd]:=id hit;unfold pyNext;show au (wpAny_attempt (wpAny_callSpecial?_slot (name:=Str.ofString "__next__") hit.typeIs slot_next
  (wpAny_call_entry slot_next hit.typeIs entry_next ?_^args_next _)))
 unfold Builtin.«reversed.__next__»;show au^wpAny_of_eq (a:=(Value.ref it,[])) rfl ?_
 try dsimp only
 show au^wpAny_field ho hd (x:=.ref t) rfl ?_;show au^wpAny_field ho hd (x:=rawInt (-1)) rfl ?_;change wpAny _ _ (if(-1:Int)<0 then _ else _) _ _ s;rw[if_pos^by decide];show au^wpAny_rule ?_;show au ?_
 wp_delta
 show au^wpAny_setField ho hd (by simp) ?_;have ho2:=fj (Obj.mapFields (·.setIfInBounds 1 (rawInt (-1)))) ho^jz^eB hd _;show wpAny_setField ho2 (eB hd _) (by simp) ?_;show au ?_;change wpAny _ _ (newExc (.type "StopIteration") [] >>= _) _ _ _;show au ?_;erw[newExc,newTuple];show au (wpAny_newObj_type ?_^by size_fits);show au (m:=firstArgMember _ _)^wpAny_of_eq (a:=Value.none) (by first|rfl|(erw[firstArgMember];rfl)) ?_;show wpAny_newObj_type ?_ (by size_fits);erw[raiseNew];show au^wpAny_handled ?_
 first|rw[show A.in1.handled=none from hh]|rw[hh]
 show au^aL^wpAny_throw ?_;show au^wpAny_isInstance (T := "StopIteration") (b:=true) #[_,iI _ rfl,rfl] isSubtype_stop ?_;show aL (hQ _ λb o' hb e=>?_);show dY _^dY _ ?_;show(fZ _ _^aQ hb).trans^(fZ _ _^aQ hb).trans e
def tQ{i:Int}(hit:tP s.heap it t i)(h:Q (.ref it) s):wpAny (model prog w) A (pyIter^.ref it) Q E s:=by show wpAny_pyIter_slot hit.typeIs Ac^wpAny_call_entry Ac hit.typeIs Gg ?_^KU _;change wpAny _ _ (ret^.ref it) _ _ s;show aL #[_,rfl, "reversed", _,hit.typeIs,slot_next.lookup,h]
theorem KY(hh:A.handled=none)(I t:Addr)(hne:t≠I)(items:Array Value)(hfit:items.size<2 ^ 62):
  Walks prog w A I [I,t] [I] items.size (λi v=>items[items.size-1-i]?=some v) (λi h=>i<=items.size/\tP h I t ((items.size:Int)-1-(i:Int))/\PyProof.Rows.IsTup h t items) where
 sub:=λb hb=>by simp at hb;simp[hb]
 frame:=λ_ _ _ x hk=>#[x.1,x.2.1.at λo e=>hk I (by simp) o e,let⟨o,e,r⟩:=x.2.2;#[o,hk t (by simp) o e,r]]
 item:=λi s Q E hi x hQ=>by have e:(items.size:Int)-1-(i:Int)=((items.size-1-i:Nat):Int):=∅;have hit:=x.2.1;rw[e] at hit;have hx:items[items.size-1-i]?=some (items[items.size-1-i]'∅):=fX ∅;show next_item hit x.2.2 hx hfit λh' tk xF hs'=>?_;have e2:((items.size-1-i:Nat):Int)-1=(items.size:Int)-1-((i+1:Nat):Int):=∅;rw[e2] at xF;show hQ _ h' tk hx #[hi,xF,let⟨o,eo,r⟩:=x.2.2;#[o,(hs'.2 t hne).trans eo,r]] λb o hb eo=>hs'.extBut b o (λh=>hb^by simp[h]) eo
 done:=λs Q E x hQ=>by have e:(items.size:Int)-1-(items.size:Int) = -1:=∅;have hit:=x.2.1;rw[e] at hit;show next_end hh hit λh' he'=>hQ h' s.toks λb o hb eo=>he' b o (λh=>hb^by simp[h]) eo
 self:=λ_ _ _ _ x hQ=>tQ x.2.1 hQ
def Hint(prog:Program)(w:World)(A:Around)(I:Addr)(St:Nat->Heap->Prop):Prop :=
 ∀(s:Shared)(Q:Bool->Shared->Prop)(E:Value->Shared->Prop),St 0 s.heap->(∀b tk,Q b { s with toks:=tk })->wpAny (model prog w) A (Builtin.List.listLengthHint^.ref I) Q E s
def N3:Hint prog w A I (λi h=>i<=items.size/\h.IsRevIter I l ((items.size:Int)-1-(i:Int))/\h.IsList l items):=by
 intro s Q E st h;have hT:=st.2.1.typeIs (s:=s);unfold Builtin.List.listLengthHint;show au^wpAny_specialOf hT Gi ?_
 try dsimp only
 show wpAny_ite_split (λhab=>absurd hab^by decide +kernel) (λ_=>?_);show wpAny_ite_split (λhab=>absurd hab^by decide) (λ_=>?_);show au^wpAny_specialOf hT N1 ?_;generalize hid:("list_reverseiterator.__length_hint__" : String)=id0
 wp_delta
 rw[show splitId id0=some ("list_reverseiterator", "__length_hint__") from by subst hid;decide +kernel];subst hid;show au^wpAny_isInstance (T := "list_reverseiterator") (b:=true) hT (by rw[isSubtype_type];kernel_rfl) ?_;show wpAny_ite_split (λhab=>absurd hab^by decide) (λ_=>?_);show wpAny_ite_split (λ_=>?_) (λhab=>absurd (by decide +kernel) hab);show wpAny_ite_split (λhab=>absurd hab^by decide +kernel) (λ_=>?_);show aL^h _ _
theorem N4(hfit:items.size<=sizeLine):Hint prog w A I (λi h=>i<=items.size/\tP h I t ((items.size:Int)-1-(i:Int))/\PyProof.Rows.IsTup h t items):=by
 intro s Q E st h;have hit:=st.2.1;have ht:=st.2.2;have hT:=hit.typeIs (s:=s);have h62:items.size<2 ^ 62:=j9 hfit (by decide);unfold Builtin.List.listLengthHint;show au^wpAny_specialOf hT Xb ?_
 try dsimp only
 show wpAny_ite_split (λhab=>absurd hab^by decide +kernel) (λ_=>?_);show wpAny_ite_split (λhab=>absurd hab^by decide) (λ_=>?_);show au^wpAny_specialOf hT tO.lookup ?_;generalize hid:("reversed.__length_hint__" : String)=id0
 wp_delta
 rw[show splitId id0=some ("reversed", "__length_hint__") from by subst hid;decide +kernel];subst hid;show au^wpAny_isInstance (T := "reversed") (b:=true) hT (by rw[isSubtype_type];kernel_rfl) ?_;show wpAny_ite_split (λhab=>absurd hab^by decide) (λ_=>?_);show wpAny_ite_split (λhab=>absurd hab^by decide +kernel) (λ_=>?_);show au^wpAny_rule ?_;show au^wpAny_of_eq (tO.bind _) ?_
 try dsimp only
 show au^wpAny_attempt^wpAny_call_entry tO hT Gh ?_^KW _;let#[o,ho,hc,hd]:=id hit;unfold Builtin.«reversed.__length_hint__»;show au^wpAny_of_eq (a:=Value.ref I) rfl ?_;show au^wpAny_field ho hd (x:=.ref t) rfl ?_;show wpAny_ite_split (λhab=>absurd hab lG) (λ_=>?_);show au (PyProof.Rows.len_tuple ht ∅ ?_);show au (m:=asInt? _)^aL ?_
 try dsimp only
 show au^wpAny_field ho hd (x:=rawInt ((items.size:Int)-1-((0:Nat):Int))) rfl ?_;change wpAny _ _ (if((items.size:Nat):Int)<((items.size:Int)-1-((0:Nat):Int))+1 then _ else _) _ _ _;rw[if_neg ∅];show au^wpAny_mkInt^aL #[_,rfl,?_];have hz:((items.size:Int)-1-((0:Nat):Int))+1=(items.size:Int):=∅;rw[hz];have b0:0<=(items.size:Int):=∅;have b1:(items.size:Int)<=16777216:=by
  have e:sizeLine=16777216:=by decide
  lia
 generalize (items.size:Int)=zz at b0 b1 ⊢;have f1:Builtin.List.listFitsIndex zz=true:=by unfold Builtin.List.listFitsIndex;erw[zU,decide_eq_true_eq];lia
 have f2:Builtin.List.listTooLong zz.toNat=false:=by
  have e:sizeLine=16777216:=by decide
  unfold Builtin.List.listTooLong;erw[decide_eq_false_iff_not];lia
 show au^wpAny_of_eq (a:=some zz) rfl ?_;dsimp only;rw[f1];rw[if_neg^by decide,if_neg ∅,f2,if_neg^by decide];show aL^h _ _
section
variable {P:Nat->Value->Prop}{St:Nat->Heap->Prop}
def KZ(W:Walks prog w A.in1 I fp wr n P St)(hI:I∈fp)(hT:∀s:Shared,St 0 s.heap->s.TypeIs (.ref I) T)(Xc:(Value.type T==Value.type "list")=false)(hTt:(Value.type T==Value.type "tuple")=false)
  (hint:Hint prog w A.in1 I St)(hn:n<=sizeLine)(S:Addr)(res:Value)(c₀:Nat)(hSf:S∉fp)(hst:St 0 s.heap)(hS:s.heap.get? S=some { cls:=.type "list", data:=.seq #[] c₀ })
  (hR:∀h' tk acc' c',(∀b o,b≠S->b∉wr->s.heap.get? b=some o->h'.get? b=some o)->h'.get? S=some { cls:=.type "list", dict:=none,data:=.seq acc' c',slots:=#[] } ->
   ItemsOf P acc' n->R (.ok^.ret res) { s with heap:=h',toks:=tk }):
  wpAny (model prog w) A.in1 (Builtin.List.listExtendWith (.ref S) (.ref I) res)
   (λfin s'=>match fin with|.done f=>R (.ok f) s'|.again c'=>c'.quiet=true/\codeAny (model prog w) A c' R s') (λe s'=>R (.error e) s') s:=by
 have hSI:S≠I:=λe=>hSf (e▸hI);have WS:=W.toS;have key:∀(h:Heap)(c₁ tk:Nat),St 0 h->(∀b o,b≠S->s.heap.get? b=some o->h.get? b=some o) ->
   h.get? S=some { cls:=.type "list", data:=.seq #[] c₁ }->codeAny (model prog w) A (.builtin "list.extend.loop" #[[.ref S,.ref I,res],[]]) R { s with heap:=h,toks:=tk }:=by intro h c₁ tk hit hk hS₁;show codeAny_extend_loopS WS hn S hSf res n 0 _ #[] c₁ rfl (aM _) hit hS₁ (ItemsOf.nil _) λs' acc' c' hm hS' hacc=>?_;rw[Moved.eq_with hm];show hR s'.heap s'.toks acc' c' (λb o hb hw e=>hm.heap b o (λhmem=>?_)^hk b o hb e) hS' hacc;rcases aG.mp hmem with e'|hmem;show hb e';show hw hmem
 unfold Builtin.List.listExtendWith;show au^wpAny_typeOf (hT s hst) ?_;have h1:Builtin.List.listSameRef (.ref S)^.ref I=false:=by simp[Builtin.List.listSameRef,hSI]
 erw[h1,Xc,hTt,Bool.or_false,cB,if_false];show au^W.self 0 _ _ _ hst ?_;show au^wpAny_holding (hint s _ _ hst λb tk=>?_);show wpAny_ite_split (λ_=>?_) (λ_=>aL #[plainId_quiet F.plain_extend_loop _,key _ c₀ _ hst (λb o _ e=>e) hS]);show au^wpAny_rule ?_;show au ?_;change wpAny _ _ (updateSeq S (·.push .none) >>= λ_=>updateSeq S (·.pop)) _ _ _;show au^wpAny_updateSeq hS rfl ?_;have hS₂:=fj (Obj.mapSeq (·.push Value.none)) hS rfl;show wpAny_updateSeq (hz:=by seq_fits) hS₂ rfl ?_;have hS₃:=fj (Obj.mapSeq (·.pop)) hS₂ rfl;have oth:∀b o,b≠S->s.heap.get? b=some o->((s.heap.update S^Obj.mapSeq (·.push Value.none)).update S^Obj.mapSeq (·.pop)).get? b=some o :=
  λb o hb e=>(fZ _ _^aQ hb).trans^(fZ _ _^aQ hb).trans e
 show aL #[plainId_quiet F.plain_extend_loop _,key _ _ _ (W.frame _ _ _ hst λb hb o e=>oth b o (λz=>hSf (z▸hb)) e) oth hS₃]
def R9(W:Walks prog w A.in1 I fp wr n P St)(hI:I∈fp)(hT:∀s:Shared,St 0 s.heap->s.TypeIs (.ref I) T)(Xc:(Value.type T==Value.type "list")=false)(hTt:(Value.type T==Value.type "tuple")=false)
  (hint:Hint prog w A.in1 I St)(hn:n<=sizeLine)(S:Addr)(hSf:S∉fp)(hst:St 0 s.heap)(hS:s.heap.get? S=some { cls:=.type "list", data:=.seq #[] })
  (hR:∀h' tk acc' c',(∀b o,b≠S->b∉wr->s.heap.get? b=some o->h'.get? b=some o)->h'.get? S=some { cls:=.type "list", dict:=none,data:=.seq acc' c',slots:=#[] } ->
   ItemsOf P acc' n->R (.ok^.ret .none) { s with heap:=h',toks:=tk }):
  wpAny (model prog w) A.in1 (Builtin.«list.__init__» #[[.ref S,.ref I],[]])
   (λfin s'=>match fin with|.done f=>R (.ok f) s'|.again c'=>c'.quiet=true/\codeAny (model prog w) A c' R s') (λe s'=>R (.error e) s') s:=by
 change wpAny _ _ (do let old <- Builtin.List.listItems (.ref S);Builtin.List.listUpdate (.ref S) (λ_=>#[]);letGo old.toList.reverse;Builtin.List.listExtendWith (.ref S) (.ref I) .none) _ _ s;show au ?_;unfold Builtin.List.listItems;show au^wpAny_seqItems hS rfl^aL ?_;change wpAny _ _ (updateSeq S (λ_=>#[]) >>= λ_=>letGo (#[]:Array Value).toList.reverse >>= λ_=>Builtin.List.listExtendWith (.ref S) (.ref I) .none) _ _ s;show au^wpAny_updateSeq hS rfl ?_;have hS₂:=fj (Obj.mapSeq (λ_=>(#[]:Array Value))) hS rfl;have oth:∀b o,b≠S->s.heap.get? b=some o->(s.heap.update S^Obj.mapSeq (λ_=>(#[]:Array Value))).get? b=some o :=
  λb o hb e=>(fZ _ _^aQ hb).trans e
 show au^wpAny_letGo ?_;show KZ W hI hT Xc hTt hint hn S .none _ hSf (W.frame _ _ _ hst λb hb o e=>oth b o (λz=>hSf (z▸hb)) e) hS₂ λh' tk acc' c' hk hS' hacc=>?_;show hR h' tk acc' c' (λb o hb hw e=>hk b o hb hw^oth b o hb e) hS' hacc
def qW(W:Walks prog w A.in1.in1 I fp wr n P St)(hI:I∈fp)(hT:∀s:Shared,St 0 s.heap->s.TypeIs (.ref I) T)(Xc:(Value.type T==Value.type "list")=false)(hTt:(Value.type T==Value.type "tuple")=false)
  (hint:Hint prog w A.in1.in1 I St)(hn:n<=sizeLine)(hfp:∀b∈fp,b<s.heap.objs.size)(hst:St 0 s.heap)
  (hQ:∀h' tk acc' c',(∀b o,b∉wr->s.heap.get? b=some o->h'.get? b=some o) ->
   h'.get? s.heap.objs.size=some { cls:=.type "list", dict:=none,data:=.seq acc' c',slots:=#[] }->ItemsOf P acc' n->Q (.ref s.heap.objs.size) { s with heap:=h',toks:=tk }):
  wpAny (model prog w) A (call (.type "list") [.ref I]) Q E s:=by
 have hSf:s.heap.objs.size∉fp:=λhm=>eV _^hfp _ hm;show callType_codes (Q₁:=λobj s₁=>obj=.ref s.heap.objs.size/\s₁={ s with heap:=s.heap.push { cls:=.type "list", data:=.seq #[] } }) F.called_list (F.typeCall_list_1 _) F.entry_list_init
  (code_list_new _ #[rfl,rfl]) λobj s₁ h₁=>?_
 let#[rfl,rfl]:=h₁;have hS:(s.heap.push { cls:=.type "list", data:=.seq #[] }).get? s.heap.objs.size=some { cls:=.type "list", data:=.seq #[] }:=iI _ rfl;show#[#[_,hS,rfl],F.args_list_init_2 _ _,R9 (A:=A.in1) W hI hT Xc hTt hint hn _ hSf (W.frame _ _ _ hst λb _ o e=>dY _ e) hS λh' tk acc' c' hk hS' hacc=>?_];show#[rfl,hQ h' tk acc' c' (λb o hw e=>hk b o (aN^aH e) hw^dY _ e) hS' hacc]
end
end RV
namespace L2
variable {x:V}{i j:Int}{b:Bool}{tl:TA}{A B:Prop}{p:Addr}{o:HO}{R:It->Hp->Prop}{y x0 x1 x2 x3 x4 x5 x6 x7 x8 x9:Option V}
def C2(K:az)(ta:TE):TE:=λσ H Q=>ta σ H λx H1=>∃a xs,x=.ref a/\(bG K H1 a xs\/dJ K H1 a xs)/\∀l,H1 l=none->Q (.ref l)^upd H1 l^.lst xs.reverse
theorem Ae{its:List Value}{acc:Array Value}(h:ItemsOf (λi v=>its.toArray[its.toArray.size-1-i]?=some v) acc its.toArray.size):acc.toList=its.reverse:=by
 let#[h1,h2]:=h;show sQ λi=>?_;by_cases hi:i<its.length
 .have e1:acc[i]?=some (acc[i]'(by rw[h1];simpa using hi)):=by simp[h1,hi]
  have q:=h2 i _ e1;rw[List.getElem?_reverse hi];have q':its[its.length-1-i]?=some (acc[i]'(by rw[h1];simpa using hi)):=by simpa using q
  rw[q'];simpa using e1
 .rw[iO (by simp[h1];lia),iO (by simp;lia)]
theorem xH{x:Expr}{p1 p2 p3 p4:Pos}(N5:Gl X "list")(hm1:X.mg "list" = none)(Zj:Gl X "reversed")(hm2:X.mg "reversed" = none)(hx:PE X x tx)(hc:X.calm=true)(he:starEach [x] X.env=[(false,eval x X.env)])(he1:starEach [Expr.Call (.Name "reversed" p2) [x] [] p3] X.env=[(false,eval (Expr.Call (.Name "reversed" p2) [x] [] p3) X.env)]):
  PE X (.Call (.Name "list" p1) [.Call (.Name "reversed" p2) [x] [] p3] [] p4)^C2 X.K tx:=by
 intro u5 s σ H Q I h;show wpAny_Call_Name_kw^iA I N5 hm1 BT.tM ?_;show i6 ?_ he1 rfl;rw[he1];change wpAny _ _ (spliced [(false,eval (Expr.Call (.Name "reversed" p2) [x] [] p3) X.env)]) _ _ s;show jQ ?_;show wpAny_Call_Name_kw^iA I Zj hm2 BT.xD ?_;show i6 ?_ he rfl;rw[he];change wpAny _ _ (spliced [(false,eval x X.env)]) _ _ s;show jQ (c9 (hx u5 s σ H _ I h) λv s1 zq=>?_);let#[y,H1,I1,r1,q1]:=zq;show lH ?_;let#[a,xs,e,hq,q]:=q1;subst e;cases r1;have hA:X.A.in1.in1.handled=none:=I1.ok.hd hc;rcases hq with hq|hq
 .let#[its,rv,pl,hz]:=I1.list hq;have hl:=rv.length;have hlt:a<s1.heap.objs.size:=by let#[o,ho,_]:=pl.isList;show aH ho
  show call_reversed_list pl.isList^lH ?_;have W:=Walks.listRev (prog:=X.prog) (w:=X.w) hA s1.heap.objs.size a (aN hlt) its.toArray;show RV.qW (T := "list_reverseiterator") W (iP ..) (λs st=>st.2.1.typeIs) (by decide) (by decide) RV.N3 (by rw[aZ];lia)
   (λb hb=>?_) #[aM _,#[_,iI _ rfl,rfl,by simp[revObj]],pl.isList.push _] λh' tk acc' c' hk hS hacc=>?_
  .rw[fk];rcases aG.mp hb with rfl|hb;show i0 _;rw[ay.mp hb];show jy hlt
  .have hk':∀b o,s1.heap.get? b=some o->h'.get? b=some o:=λb o e=>hk b o (λz=>aN (aH e)^ay.mp z)^dY _ e;have ra:=Ae hacc;show#[.ref _,_,I1.laid (t':=tk) hk' (by rw[fk];show fN _) (o:=.lst xs.reverse) #[by rw[kL];show hz,its.reverse,c',rv.reverse,?_],rfl,q _^I1.hok.fresh (by rw[fk];show fN _)];rw[hS,<- ra]
 .let#[its,rv,pl,hz]:=I1.tuple hq;have hl:=rv.length;have hlt:a<s1.heap.objs.size:=pl.lt;have hsz:its.toArray.size<=sizeLine:=by rw[aZ];lia
  have h62:its.toArray.size<2 ^ 62:=j9 hsz (by decide);show RV.qV pl ∅ λtk0=>lH ?_;have W:=RV.KY (prog:=X.prog) (w:=X.w) hA s1.heap.objs.size a (aN hlt) its.toArray h62;show RV.qW (T := "reversed") W (iP ..) (λs st=>st.2.1.typeIs) (by decide) (by decide) (RV.N4 hsz) hsz
   (λb hb=>?_) #[aM _,#[_,iI _ rfl,rfl,by simp[RV.ql]],?_] λh' tk acc' c' hk hS hacc=>?_
  .rw[fk];rcases aG.mp hb with rfl|hb;show i0 _;rw[ay.mp hb];show jy hlt
  .let#[o,ho,r]:=pl;show#[o,dY _ ho,r]
  .have hk':∀b o,s1.heap.get? b=some o->h'.get? b=some o:=λb o e=>hk b o (λz=>aN (aH e)^ay.mp z)^dY _ e;have ra:=Ae hacc;show#[.ref _,_,I1.laid (t':=tk) hk' (by rw[fk];show fN _) (o:=.lst xs.reverse) #[by rw[kL];show hz,its.reverse,c',rv.reverse,?_],rfl,q _^I1.hok.fresh (by rw[fk];show fN _)];rw[hS,<- ra]
section
variable {nx bk ct:St->Hp->Prop}{σ:St}{P:Bool->Hp->Prop}{t u:TS}{c d:TT}
def afp(h:nx σ H):UN #[nx,rt,bk,ct] σ H:=h
def C3(J:St->Hp->Prop)(h:t #[J,rt,bk,ct] σ H)(k:∀σ' H',J σ' H'->u #[nx,rt,bk,ct] σ' H'):W3 t u #[nx,rt,bk,ct] σ H:=#[J,h,k]
def aiK(h:te σ H rt):ZW te #[nx,rt,bk,ct] σ H:=h
def afq(h:te σ H λ_ H1=>nx σ H1):UO te #[nx,rt,bk,ct] σ H:=h
def s_c(h:Q v H):tC v σ H Q:=h
def akG{r:R2}(h:ta σ H λx H1=>tb σ H1 λy H2=>r x y H2 Q):RS r ta tb σ H Q:=h
def akH{r:V->Hp->VK->Prop}(h:ta σ H λx H1=>r x H1 Q):tUn r ta σ H Q:=h
def s_u{g:Int->V}(h:Q (g i) H):rU g (.int i) H Q:=#[i,rfl,h]
def Gk(P:Bool->Hp->Prop):VK:=λx H=>∃k,x=.bl k/\P k H
def aiL(h:P b H):Gk P (.bl b) H:=#[b,rfl,h]
def afr(h:te σ H^Gk P):Iz te σ H P:=h
def s_b(h:te σ H^Gk P):tB te σ H P:=h
def aiM(h:c σ H λb H1=>if b=true then d σ H1 P else P false H1):ZS c d σ H P:=h
def akI(h:c σ H λb H1=>if b=true then P true H1 else d σ H1 P):tOr c d σ H P:=h
def aiN(h:c σ H λb H1=>P (!b) H1):ZT c σ H P:=h
def aiO(h:c σ H λb H1=>if b=true then ta σ H1 Q else tb σ H1 Q):tIf c ta tb σ H Q:=h
def aiP(h:ta σ H (Gk λb H1=>if b=true then Q (.bl true) H1 else tb σ H1 Q)):ZU ta tb σ H Q:=h
def adU{r r':R2}(h:ta σ H λx H1=>tb σ H1 λy H2=>r x y H2 (Gk λb H3=>if b=true then tc σ H3 (λz H4=>r' y z H4 Q) else Q (.bl false) H3)):Ny r r' ta tb tc σ H Q:=h
def akJ{g:Int->Int->V}(h:Q (g i j) H):RT g (.int i) (.int j) H Q:=#[i,j,rfl,rfl,h]
def s_i{C:Int->Int->Prop}{g:Int->Int->V}(hc:C i j)(h:Q (g i j) H):rI C g (.int i) (.int j) H Q:=#[i,j,rfl,rfl,hc,h]
def aiQ(h:Q (.bl (decide (i=j))) H):rEq (.int i) (.int j) H Q:=#[rfl,by rw[show decide (V.int i=V.int j)=decide (i=j) by simp];show h]
def aiR{i j:Str}(h:Q (.bl (decide (i=j))) H):rEq (.str i) (.str j) H Q:=#[rfl,by rw[show decide (V.str i=V.str j)=decide (i=j) by simp];show h]
def aiS(h:Q (.bl (!decide (i=j))) H):rNe (.int i) (.int j) H Q:=#[rfl,by rw[show decide (V.int i=V.int j)=decide (i=j) by simp];show h]
def aiT{i j:Str}(h:Q (.bl (!decide (i=j))) H):rNe (.str i) (.str j) H Q:=#[rfl,by rw[show decide (V.str i=V.str j)=decide (i=j) by simp];show h]
def s_call{E:XK}(h:tl σ H λvs H1=>sp vs H1 Q E):ND sp [] E tl σ H Q:=by change tl σ H λvs H1=>sp (vs++[]) H1 Q E;simpa only[fH] using h
def aiU{R:List V->Hp->Prop}(h:R [] H):aaa σ H R:=h
def afs{R:List V->Hp->Prop}(h:ta σ H λx H1=>tl σ H1 λxs H2=>R (x::xs) H2):UX ta tl σ H R:=h
def akK{r:List V->Hp->VK->Prop}(h:tl σ H λvs H1=>r vs H1 Q):tCB r tl σ H Q:=h
def aiV(h:te σ H λx H1=>g x σ H1 nx):RN te g #[nx,rt,bk,ct] σ H:=h
def IQ(h1:b=true->A)(h2:b=false->B):if b=true then A else B:=by cases b;rw[if_neg lG];show h2 rfl;rw[if_pos rfl];show h1 rfl
def Gm{p:Prop}[Decidable p](h1:p->A)(h2:¬p->B):if decide p=true then A else B:=IQ (λh=>h1^of_decide_eq_true h) λh=>h2^of_decide_eq_false h
def aft{p:Prop}[Decidable p](hp:p)(h:A):if decide p=true then A else B:=Gm (λ_=>h) λn=>absurd hp n
def afu{p:Prop}[Decidable p](hp:¬p)(h:B):if decide p=true then A else B:=Gm (λn=>absurd n hp) λ_=>h
def Gn{p:Prop}[Decidable p](h1:¬p->A)(h2:p->B):if(!decide p)=true then A else B:=IQ (λh=>h1^by simpa using h) λh=>h2 (by simpa using h)
def afv{p:Prop}[Decidable p](hp:¬p)(h:A):if(!decide p)=true then A else B:=Gn (λ_=>h) λn=>absurd n hp
def afw{p:Prop}[Decidable p](hp:p)(h:B):if(!decide p)=true then A else B:=Gn (λn=>absurd hp n) λ_=>h
def aiW(h:B):if(!true)=true then A else B:=afj h
def aiX(h:A):if(!false)=true then A else B:=aat h
def fV(H:Hp)(p:Addr)(o:HO)(H':Hp):Prop:=H p=none/\H'=upd H p o
def tR(H:Hp)(p:Addr)(o:HO)(H':Hp):Prop:=H'=upd H p o
def fV.self(n:fV H p o H'):H' p=some o:=by rw[n.2];show fm
def fV.keep{v:HO}(n:fV H p o H')(h:H q=some v):H' q=some v:=by rw[n.2,bI^aP h n.1];show h
def fV.same(n:fV H p o H'):aA H H':=λ_ _ h=>n.keep h
theorem fV.none(n:fV H p o H')(h:H' q=Option.none):H q=Option.none:=n.same.free h
def fV.ne{v:HO}(n:fV H p o H')(h:H q=some v):q≠p:=aP h n.1
def tR.self(n:tR H p o H'):H' p=some o:=by rw[show H'=upd H p o from n];show fm
def tR.keep{v:HO}(n:tR H p o H')(ne:q≠p)(h:H q=some v):H' q=some v:=by rw[show H'=upd H p o from n,bI ne];show h
def aaA(xs:List V)(H:Hp)(Q:VK):Prop:=xs.length<=sizeLine/\∀p,H p=none->Q (.ref p)^upd H p^.tup xs
def aaB(xs:List V)(H:Hp)(Q:VK):Prop:=xs.length<=sizeLine/\∀p,H p=none->Q (.ref p)^upd H p^.lst xs
def aiY(h:tl σ H λxs H1=>aaA xs H1 Q):aab tl σ H Q:=h
def aiZ(h:tl σ H λxs H1=>aaB xs H1 Q):aac tl σ H Q:=h
def afx(hz:xs.length<=1000)(h:∀p H',fV H p (.tup xs) H'->Q (.ref p) H'):aaA xs H Q:=#[bg hz^by decide,λp hp=>h p _ #[hp,rfl]]
def afy(hz:xs.length<=1000)(h:∀p H',fV H p (.lst xs) H'->Q (.ref p) H'):aaB xs H Q:=#[bg hz^by decide,λp hp=>h p _ #[hp,rfl]]
def cZ(hS:bG K H p xs)(hv:tH xs i=some v)(h:Q v H):WQ K (.ref p) (.int i) H Q:=#[p,xs,i,v,rfl,rfl,hS,hv,h]
def Af(hS:dJ K H p xs)(hv:tH xs i=some v)(h:Q v H):WR K (.ref p) (.int i) H Q:=#[p,xs,i,v,rfl,rfl,hS,hv,h]
def C4{z:Str}{ch:Nat}(hz:z.length<=1000)(hv:tH z.cps.toList i=some ch)(h:Q (.str #[#v[ch]]) H):aah (.str z) (.int i) H Q:=#[z,i,ch,rfl,rfl,bg hz^by decide,hv,h]
def akL(hS:bG K H p xs\/dJ K H p xs)(h1:kU x=true)(h2:xs.all kU=true)(h:Q (.bl^uI x xs) H):rIn K false x (.ref p) H Q:=#[p,xs,rfl,hS,h1,h2,h]
def aaC(hS:bG K H p xs\/dJ K H p xs)(h1:kU x=true)(h2:xs.all kU=true)(h:Q (.bl (!uI x xs)) H):rIn K true x (.ref p) H Q:=#[p,xs,rfl,hS,h1,h2,h]
def akM(h:ta σ H λx H1=>Zh K T x H1/\tl σ H1 λxs H2=>r x xs H2 Q):tBM K T r ta tl σ H Q:=h
def ai0(h:ta σ H λx H1=>Zh K T x H1/\r x [] H1 Q):aak K T r ta σ H Q:=h
def aaD{y:V}(hl:H l=some^.lst xs)(hz:xs.length<1000000)(h:∀H',tR H l (.lst (xs++[y])) H'->Q .eW H'):II (.ref l) [y] H Q:=#[l,xs,y,rfl,rfl,hl,cC hz^by decide,h _ rfl]
def s_pop{y:V}(hl:H l=some^.lst xs)(hy:xs[xs.length-1]?=some y)(h:∀H',tR H l (.lst xs.dropLast) H'->Q y H'):aam (.ref l) [] H Q:=#[l,xs,y,rfl,rfl,hl,hy,h _ rfl]
def aaE(K:az)(R:It->Hp->Prop):V->Hp->Prop:=λx H=>∃a,x=.ref a/\(∃xs,bG K H a xs)/\R (Rt K a) H
def aaF(K:az)(R:It->Hp->Prop):V->Hp->Prop:=λx H=>∃a,x=.ref a/\(∃xs,dJ K H a xs)/\R (RO K a) H
def afz{tl:TE}(h:tl σ H^aaE K R):Nu K tl σ H R:=h
def adV{tl:TE}(h:tl σ H^aaF K R):Z1 K tl σ H R:=h
def xJ(hb:b=true)(h:A):if b=true then A else B:=IQ (λ_=>h) λn=>by rw[hb] at n;cases n
def Gp(hb:b=false)(h:B):if b=true then A else B:=IQ (λn=>by rw[hb] at n;cases n) λ_=>h
def Xd(K:az):List V->Hp->VK->Prop:=λxs H Q=>∃p ys,xs=[.ref p]/\(bG K H p ys\/dJ K H p ys)/\Q (.int ys.length) H
def bN:dP X (.builtin "len")^Xd X.K:=Bg
def ai1{ys:List V}(hS:bG K H p ys\/dJ K H p ys)(h:Q (.int ys.length) H):Xd K [.ref p] H Q:=#[p,ys,rfl,hS,h]
def Va:List V->Hp->VK->Prop:=λxs H Q=>(∃i,xs=[.int i]/\Q (.int i) H)\/∃k,xs=[.bl k]/\Q (.int (if k then 1 else 0)) H
def K0:dP X (.type "int") Va:=KA
def afA(h:Q (.int (if b then 1 else 0)) H):Va [.bl b] H Q:=.inr #[b,rfl,h]
def Xe(K:az):List V->Hp->VK->Prop:=λxs H Q=>∃x T t b,xs=[x,.ty T]/\pO K H x t/\PySem.W.kitOne K t^.type T=some b/\Q (.bl b) H
def o6:dP X (.builtin "isinstance")^Xe X.K:=NZ
def aaG{ty:Value}(ht:pO K H x ty)(e:PySem.W.kitOne K ty^.type T=some b)(h:Q (.bl b) H):Xe K [x,.ty T] H Q:=#[x,T,ty,b,rfl,ht,e,h]
def IS(K:az):List V->Hp->VK->Prop:=λxs H Q=>∃p ys,xs=[.ref p]/\(bG K H p ys\/dJ K H p ys)/\∀l,H l=none->Q (.ref l)^upd H l^.lst ys
def Gq:dP X (.type "list")^IS X.K:=Bh
def aaH{ys:List V}(hS:bG K H p ys\/dJ K H p ys)(h:∀l H',fV H l (.lst ys) H'->Q (.ref l) H'):IS K [.ref p] H Q:=#[p,ys,rfl,hS,λl hl=>h l _ #[hl,rfl]]
def aaI(R:It->Hp->Prop):List V->Hp->Prop:=λvs H=>∃j:Int,vs=[.int j] /\ -(2 ^ 62)<=j/\j<2 ^ 62/\R (qL 0 j.toNat) H
def aaJ(h:tl σ H^aaI R):UR tl σ H R:=h
def ai2(h1:-(2 ^ 62)<=j)(h2:j<2 ^ 62)(h:R (qL 0 j.toNat) H):aaI R [.int j] H:=#[j,rfl,h1,h2,h]
def Nc(J:It)(g:TG)(tb:TS)(nx:St->Hp->Prop)(rt:VK)(σ:St)(H:Hp):Prop:=∃W:Nat->Nat->St->Hp->Prop,(∃m,W 0 m σ H)/\∀i m σ H,W i m σ H ->
 (J.stop i H/\nx σ H)\/(J.go i H/\∃N:St->Hp->Prop,(∀σ' H',N σ' H'->∃m',m'<m/\W (i+1) m' σ' H')/\∀x H',J.Na i H x H'->g x σ H' λσ2 H2=>tb #[N,rt,nx,N] σ2 H2)
def ai3{wi:TI}{tb:TS}(h:wi σ H λJ H1=>Nc J g tb nx rt σ H1):Z2 wi g tb #[nx,rt,bk,ct] σ H:=h
def Br{lo:Int}{tb:TS}(Pv:Nat->St->Hp->Prop)(h0:Pv 0 σ H)
  (hs:∀i σ H,i<n->Pv i σ H->g (.int (lo+i)) σ H λσ2 H2=>tb #[Pv (i+1),rt,nx,Pv (i+1)] σ2 H2)(hd:∀σ H,Pv n σ H->nx σ H):Nc (qL lo n) g tb nx rt σ H :=
 Ky (D:=#[nx,rt,nx,nx]) Pv h0 hs hd
def f_list{tb:TS}(Pv:Nat->St->Hp->Prop)(h0:Pv 0 σ H)(hl:∀i σ H,i<=xs.length->Pv i σ H->bG K H a xs)
  (hs:∀i x σ H,xs[i]?=some x->Pv i σ H->g x σ H λσ2 H2=>tb #[Pv (i+1),rt,nx,Pv (i+1)] σ2 H2)(hd:∀σ H,Pv xs.length σ H->nx σ H):Nc (Rt K a) g tb nx rt σ H :=
 Nv (D:=#[nx,rt,nx,nx]) Pv h0 hl hs hd
def f_tup{tb:TS}(Pv:Nat->St->Hp->Prop)(h0:Pv 0 σ H)(hl:∀i σ H,i<=xs.length->Pv i σ H->dJ K H a xs)
  (hs:∀i x σ H,xs[i]?=some x->Pv i σ H->g x σ H λσ2 H2=>tb #[Pv (i+1),rt,nx,Pv (i+1)] σ2 H2)(hd:∀σ H,Pv xs.length σ H->nx σ H):Nc (RO K a) g tb nx rt σ H :=
 RQ (D:=#[nx,rt,nx,nx]) Pv h0 hl hs hd
def afB{gs:FZ}{R:St->Hp->Prop}(hS:dJ K H a xs)(hn:xs.length=n)(h:gs xs σ H R):Np K n gs (.ref a) σ H R:=#[a,xs,rfl,hS,hn,h]
def adW{gs:FZ}{vs:List V}{R:St->Hp->Prop}(h:g v σ H λσ' H'=>gs vs σ' H' R):UQ g gs (v::vs) σ H R:=#[v,vs,rfl,h]
def afC{R:St->Hp->Prop}(h:R σ H):ZZ [] σ H R:=#[rfl,h]
def adX(hS:bG K H p xs)(h:R (Rt K p) H):aaE K R (.ref p) H:=#[p,rfl,#[xs,hS],h]
def afD(hS:dJ K H p xs)(h:R (RO K p) H):aaF K R (.ref p) H:=#[p,rfl,#[xs,hS],h]
def akN{tb:TS}{m:Nat}{W:Nat->St->Hp->Prop}(h:tb #[λσ' H'=>∃m',m'<m/\W m' σ' H',rt,nx,λσ' H'=>∃m',m'<m/\W m' σ' H'] σ H):∃N:St->Hp->Prop,(∀σ' H',N σ' H'->∃m',m'<m/\W m' σ' H')/\tb #[N,rt,nx,N] σ H:=#[_,λ_ _ h=>h,h]
def o7{tb:TS}(W:Nat->St->Hp->Prop)(h0:∃m,W m σ H)(hs:∀m σ H,W m σ H->c σ H λb H1=>if b=true then ∃N:St->Hp->Prop,(∀σ' H',N σ' H'->∃m',m'<m/\W m' σ' H')/\tb #[N,rt,nx,N] σ H1 else nx σ H1):Nt c tb #[nx,rt,bk,ct] σ H:=#[W,h0,hs]
def Vb(t u:TS):TS:=W3 t u
def xK{rest:List Stmt}(h1:PS X st t)(h2:CG X rest u):CG X (st::rest)^Vb t u:=o5 h1 h2
def Xf(h:t #[λσ' H'=>σ'=σ/\H'=H,rt,bk,ct] σ H)(k:u #[nx,rt,bk,ct] σ H):Vb t u #[nx,rt,bk,ct] σ H:=#[_,h,λ_ _ e=>by rw[e.1,e.2];show k]
def tR.same{H0:Hp}(n:tR H p o H')(e:aA H0 H)(hp:H0 p=Option.none):aA H0 H':=λb v q=>n.keep (aP q hp)^e b v q
def ai4(hS:bG K H p xs)(h:A):Zh K "list" (.ref p) H/\A:=#[.inl #[rfl,_,hS],h]
def afE{r:St}(h:Q v H):qj 0 (some v::r) H Q:=#[v,rfl,h]
def akO{r:St}{R:St->Hp->Prop}(h:R (some v::r) H):iB 0 v (y::r) H R:=h
def afF{r:St}(h:Q v H):qj 1 (x0::some v::r) H Q:=#[v,rfl,h]
def akP{r:St}{R:St->Hp->Prop}(h:R (x0::some v::r) H):iB 1 v (x0::y::r) H R:=h
def afG{r:St}(h:Q v H):qj 2 (x0::x1::some v::r) H Q:=#[v,rfl,h]
def akQ{r:St}{R:St->Hp->Prop}(h:R (x0::x1::some v::r) H):iB 2 v (x0::x1::y::r) H R:=h
def afH{r:St}(h:Q v H):qj 3 (x0::x1::x2::some v::r) H Q:=#[v,rfl,h]
def afI{r:St}{R:St->Hp->Prop}(h:R (x0::x1::x2::some v::r) H):iB 3 v (x0::x1::x2::y::r) H R:=h
def afJ{r:St}(h:Q v H):qj 4 (x0::x1::x2::x3::some v::r) H Q:=#[v,rfl,h]
def akR{r:St}{R:St->Hp->Prop}(h:R (x0::x1::x2::x3::some v::r) H):iB 4 v (x0::x1::x2::x3::y::r) H R:=h
def afK{r:St}(h:Q v H):qj 5 (x0::x1::x2::x3::x4::some v::r) H Q:=#[v,rfl,h]
def akS{r:St}{R:St->Hp->Prop}(h:R (x0::x1::x2::x3::x4::some v::r) H):iB 5 v (x0::x1::x2::x3::x4::y::r) H R:=h
def afL{r:St}(h:Q v H):qj 6 (x0::x1::x2::x3::x4::x5::some v::r) H Q:=#[v,rfl,h]
def akT{r:St}{R:St->Hp->Prop}(h:R (x0::x1::x2::x3::x4::x5::some v::r) H):iB 6 v (x0::x1::x2::x3::x4::x5::y::r) H R:=h
def afM{r:St}(h:Q v H):qj 7 (x0::x1::x2::x3::x4::x5::x6::some v::r) H Q:=#[v,rfl,h]
def akU{r:St}{R:St->Hp->Prop}(h:R (x0::x1::x2::x3::x4::x5::x6::some v::r) H):iB 7 v (x0::x1::x2::x3::x4::x5::x6::y::r) H R:=h
def afN{r:St}(h:Q v H):qj 8 (x0::x1::x2::x3::x4::x5::x6::x7::some v::r) H Q:=#[v,rfl,h]
def akV{r:St}{R:St->Hp->Prop}(h:R (x0::x1::x2::x3::x4::x5::x6::x7::some v::r) H):iB 8 v (x0::x1::x2::x3::x4::x5::x6::x7::y::r) H R:=h
def afO{r:St}(h:Q v H):qj 9 (x0::x1::x2::x3::x4::x5::x6::x7::x8::some v::r) H Q:=#[v,rfl,h]
def akW{r:St}{R:St->Hp->Prop}(h:R (x0::x1::x2::x3::x4::x5::x6::x7::x8::some v::r) H):iB 9 v (x0::x1::x2::x3::x4::x5::x6::x7::x8::y::r) H R:=h
def adY{r:St}(h:Q v H):qj 10 (x0::x1::x2::x3::x4::x5::x6::x7::x8::x9::some v::r) H Q:=#[v,rfl,h]
def ai5{r:St}{R:St->Hp->Prop}(h:R (x0::x1::x2::x3::x4::x5::x6::x7::x8::x9::some v::r) H):iB 10 v (x0::x1::x2::x3::x4::x5::x6::x7::x8::x9::y::r) H R:=h
def adZ{x10:Option V}{r:St}(h:Q v H):qj 11 (x0::x1::x2::x3::x4::x5::x6::x7::x8::x9::x10::some v::r) H Q:=#[v,rfl,h]
def ai6{x10:Option V}{r:St}{R:St->Hp->Prop}(h:R (x0::x1::x2::x3::x4::x5::x6::x7::x8::x9::x10::some v::r) H):iB 11 v (x0::x1::x2::x3::x4::x5::x6::x7::x8::x9::x10::y::r) H R:=h
end
end L2
namespace ZP
open PySem
variable {Q:Value->Shared->Prop}
def Src(t:Bool)(h:Heap)(a:Addr)(xs:Array Value):Prop:=match t with
 | true=>h.IsTuple a xs
 | false=>h.IsList a xs
def qL(t:Bool)(h:Heap)(it a:Addr)(i:Nat):Prop:=match t with
 | true=>h.IsTupleIter it a i
 | false=>h.IsListIter it a i
noncomputable def qX(t:Bool)(a:Addr):Obj:=match t with
 | true=>{ cls:=.type "tuple_iterator", data:=.fields #v[.ref a,.int 0 0] }
 | false=>{ cls:=.type "list_iterator", data:=.fields #v[.ref a,.int 0 0] }
section
variable {t:Bool}{xs:Array Value}
def Src.at(x:Src t h a xs)(k:∀o,h.get? a=some o->h'.get? a=some o):Src t h' a xs:=by cases t;let#[o,e,r]:=x;show#[o,k o e,r];let#[o,e,r]:=x;show#[o,k o e,r]
def Src.here(x:Src t h a xs):∃o,h.get? a=some o:=by cases t;let#[o,e,r]:=x;show#[o,e];let#[o,e,r]:=x;show#[o,e]
theorem Src.push(x:Src t h a xs)(o:Obj):Src t (h.push o) a xs:=x.at λ_ e=>dY _ e
def qL.at(x:qL t h it a i)(k:∀o,h.get? it=some o->h'.get? it=some o):qL t h' it a i:=by cases t;let#[o,e,r]:=x;show#[o,k o e,r];let#[o,e,r]:=x;show#[o,k o e,r]
def qL.here(x:qL t h it a i):∃o,h.get? it=some o/\∃vs,o.data=.fields vs:=by cases t;let#[o,e,c,d]:=x;show#[o,e,_,d];let#[o,e,c,d]:=x;show#[o,e,_,d]
def qL.new(e:h.get? it=some^qX t a):qL t h it a 0:=by cases t;show#[_,e,rfl,rfl];show#[_,e,rfl,rfl]
end
section
variable {t:Bool}{xs:Array Value}
def IT(x:Src t s.heap a xs)(q:Q (.ref s.heap.objs.size) { s with heap:=s.heap.push (qX t a) }):wpAny (model prog w) A (pyIter^.ref a) Q E s:=by cases t;show wpAny_pyIter_list x q;show wpAny_pyIter_tuple x q
def alive{T:Addr}{o:Obj}{Q:Option Obj->Shared->Prop}(ho:s.heap.get? T=some o)(h:Q (some o) s):wpAny (model prog w) A (loadIfAlive T) Q E s:=by
 have h':Q (s.heap.get? T) s:=by rw[ho];show h
 show λ_ _ _=>h'
def next_item{x:Value}(hit:qL t s.heap it a i)(hs:Src t s.heap a xs)(hx:xs[i]?=some x)
  (hQ:∀h',qL t h' it a (i+1)->Heap.SameBut it s.heap h'->Q x { s with heap:=h' }):wpAny (model prog w) A (Builtin.SmallTypes.nextOf^.ref it) Q E s:=by cases t;show wpAny_nextOf_list_item hit hs hx hQ;have hit:s.heap.IsTupleIter it a i:=hit;let#[o,ho,hc,hd]:=id hit;let#[ol,Nd,_,nl,hdl]:=id hs;unfold Builtin.SmallTypes.nextOf;show au^wpAny_callSpecial?_slot (name:=Str.ofString "__next__") hit.typeIs A2^wpAny_call_entry A2 hit.typeIs F.entry_tuple_iterator_next ?_^F.args_tuple_iterator_next_1 _;change wpAny _ _ (field (.ref it) 0 >>= _) _ _ s;show au^wpAny_field ho hd (x:=.ref a) rfl ?_;change wpAny _ _ (if(Value.ref a==Value.none)=true then _ else _) _ _ s;rw[if_neg^show ¬((Value.ref a==Value.none)=true) from lG];change wpAny _ _ (field (.ref it) 1 >>= _) _ _ s;show au^wpAny_field ho hd (x:=.int i 0) rfl ?_;change wpAny _ _ (seqItems? (.ref a) >>= _) _ _ s;show au^wpAny_seqItems Nd hdl ?_;erw[jo,hx];show au^wpAny_setField ho hd (by simp)^aL #[x,rfl,aL^hQ _ ?_ (kH ..)];show#[_,fj _ ho^jz^eB hd _,(lP ..).trans hc,by rw[eB hd];simp[rawInt]]
def next_end(hh:A.handled=none)(hit:qL t s.heap it a i)(hs:Src t s.heap a xs)(hx:xs[i]?=none)
  (hE:∀h' e,Heap.ExtBut it s.heap h'->(∃o,h'.get? e=some o/\o.cls=.type "StopIteration")->E (.ref e) { s with heap:=h' }):wpAny (model prog w) A (Builtin.SmallTypes.nextOf^.ref it) Q E s:=by
 cases t;show wpAny_nextOf_list_end hh hit hs hx hE
 .have hit:s.heap.IsTupleIter it a i:=hit;let#[o,ho,hc,hd]:=id hit;let#[ol,Nd,_,nl,hdl]:=id hs;unfold Builtin.SmallTypes.nextOf;show au^wpAny_callSpecial?_slot (name:=Str.ofString "__next__") hit.typeIs A2^wpAny_call_entry A2 hit.typeIs F.entry_tuple_iterator_next ?_^F.args_tuple_iterator_next_1 _;change wpAny _ _ (field (.ref it) 0 >>= _) _ _ s;show au^wpAny_field ho hd (x:=.ref a) rfl ?_;change wpAny _ _ (if(Value.ref a==Value.none)=true then _ else _) _ _ s;rw[if_neg^show ¬((Value.ref a==Value.none)=true) from lG];change wpAny _ _ (field (.ref it) 1 >>= _) _ _ s;show au^wpAny_field ho hd (x:=.int i 0) rfl ?_;change wpAny _ _ (seqItems? (.ref a) >>= _) _ _ s;show au^wpAny_seqItems Nd hdl ?_;erw[jo,hx];show au^wpAny_rule^au^wpAny_setField ho hd (by simp) ?_;change wpAny _ _ (newExc (.type "StopIteration") [] >>= _) _ _ _;show au ?_;erw[newExc,newTuple];show au (wpAny_newObj_type ?_^by size_fits);show au (m:=firstArgMember _ _)^wpAny_of_eq (a:=Value.none) (by first|rfl|(erw[firstArgMember];rfl)) ?_;show wpAny_newObj_type ?_ (by size_fits);erw[raiseNew];show au^wpAny_handled ?_
  first|rw[show A.in1.handled=none from hh]|rw[hh]
  show au^aL^wpAny_throw ?_;show hE _ _ (((kH ..).extBut.push _).push _) #[_,iI _ rfl,rfl]
end
abbrev ZO(h:Heap)(z TI TO:Addr)(f0:Value)(f:Bool):Prop :=
 h.get? z=some { cls:=.type "zip", dict:=none,data:=.fields #v[f0,.bool f,.bool false,.ref TI,.ref TO],slots:=#[] }
structure Zs (t1 t2:Bool) (TI TO i1 i2 l1 l2:Addr) (i:Nat) (h:Heap):Prop where
 ti:IsPair h TI (.ref i1)^.ref i2
 to:∃a b,IsPair h TO a b
 a1:qL t1 h i1 l1 i
 a2:qL t2 h i2 l2 i
def Zs.keep{TI TO i1 i2:Addr}(x:Zs t1 t2 TI TO i1 i2 l1 l2 i h)(k:∀b,b=TI\/b=TO\/b=i1\/b=i2->∀o,h.get? b=some o->h'.get? b=some o):Zs t1 t2 TI TO i1 i2 l1 l2 i h' :=
 #[k _ (.inl rfl) _ x.ti,let⟨a,b,e⟩:=x.to;#[a,b,k _ (.inr^.inl rfl) _ e],x.a1.at λo e=>k _ (.inr^.inr^.inl rfl) o e,x.a2.at λo e=>k _ (.inr^.inr^.inr rfl) o e]
def Rest(z TO i1 i2:Addr)(h h':Heap):Prop:=∀c o,c≠z->c≠TO->c≠i1->c≠i2->h.get? c=some o->h'.get? c=some o
section
variable {TI TO i1 i2:Addr}{xs:Array Value}{x y:Value}
def N6(D:ZipApart z TI TO i1 i2 l1 l2)(hz:ZO s.heap z TI TO .none false)(st:Zs t1 t2 TI TO i1 i2 l1 l2 i s.heap)(hl1:Src t1 s.heap l1 xs)(hl2:Src t2 s.heap l2 ys)(hx:xs[i]?=some x)(hy:ys[i]?=some y)
  (hQ:∀h',ZO h' z TI TO (rawInt s.heap.objs.size) false->Zs t1 t2 TI TO i1 i2 l1 l2 (i+1) h'->IsPair h' s.heap.objs.size x y->h'.objs.size=s.heap.objs.size+1->Rest z TO i1 i2 s.heap h'->Q (.ref s.heap.objs.size) { s with heap:=h' }):
  wpAny (model prog w) A (Builtin.«zip.__next__» #[[.ref z],[]]) (λfin s'=>∃v,fin=.done^.ret v/\Q v s') E s:=by
 let#[hTI,#[a,b,hTO],h1,h2]:=st;change wpAny _ _ (field (.ref z) 2 >>= _) _ _ _;show au^wpAny_field hz rfl (x:=.bool false) rfl ?_;change wpAny _ _ (field (.ref z) 3 >>= _) _ _ _;show au^wpAny_field hz rfl (x:=.ref TI) rfl ?_;show au^wpAny_seqItems hTI rfl ?_;change wpAny _ _ (Builtin.SmallTypes.ownedTupleIsFree (.ref z) >>= _) _ _ _;show au ?_;unfold Builtin.SmallTypes.ownedTupleIsFree;show au^wpAny_field hz rfl (x:=.none) rfl^aL ?_;erw[if_true];show au^wpAny_rule ?_;show au^wpAny_field hz rfl (x:=.ref TO) rfl ?_;show au (wpAny_setField_rec hz (by simp) λh₁ Sa hs₁=>?_);replace Sa:ZO h₁ z TI TO .ellipsis false:=Sa;show au ?_;erw[List.zipIdx_cons,List.zipIdx_nil,nF,sS];show au^au^wpAny_onRaise ?_;change wpAny _ _ (Builtin.SmallTypes.nextOf (.ref i1) >>= _) _ _ _;show au (next_item (h1.at λo e=>hs₁.extBut _ o D.i1z e) (hl1.at λo e=>hs₁.extBut _ o D.l1z e) hx λh₂ h1₂ hs₂=>aL ?_);have N7:IsPair h₂ TO a b:=hs₂.extBut _ _ D.TOi1^hs₁.extBut _ _ D.TOz hTO;show au^wpAny_seqItems N7 rfl ?_;show au (wpAny_updateSeq_pair N7 λh₃ Sb CH=>?_);replace Sb:IsPair h₃ TO x b:=Sb;show au^wpAny_letGo^aL ?_;show au^au^wpAny_onRaise ?_;change wpAny _ _ (Builtin.SmallTypes.nextOf (.ref i2) >>= _) _ _ _;show au (next_item (h2.at λo e=>CH.extBut _ o D.TOi2.symm^hs₂.extBut _ o D.i12.symm^hs₁.extBut _ o D.i2z e)
  (hl2.at λo e=>CH.extBut _ o D.l2TO^hs₂.extBut _ o D.l2i1^hs₁.extBut _ o D.l2z e) hy λh₄ h2₄ Vc=>aL ?_)
 have aaK:IsPair h₄ TO x b:=Vc.extBut _ _ D.TOi2 Sb;show au^wpAny_seqItems aaK rfl ?_;show au (wpAny_updateSeq_pair aaK λh₅ Sd Vd=>?_);replace Sd:IsPair h₅ TO x y:=Sd;show au^wpAny_letGo^aL^aL ?_;show au^wpAny_seqItems Sd rfl ?_;show au^wpAny_newTuple ?_;have hsz:h₅.objs.size=s.heap.objs.size:=by rw[Vd.1,Vc.1,CH.1,hs₂.1,hs₁.1]
 have hz₅:ZO h₅ z TI TO .ellipsis false:=Vd.extBut _ _ D.TOz.symm^Vc.extBut _ _ D.i2z.symm^CH.extBut _ _ D.TOz.symm^hs₂.extBut _ _ D.i1z.symm Sa;have hk₅:Rest z TO i1 i2 s.heap h₅:=λc o c1 c2 c3 c4 e=>Vd.extBut _ _ c2^Vc.extBut _ _ c4^CH.extBut _ _ c2^hs₂.extBut _ _ c3^hs₁.extBut _ _ c1 e;have h1₅:qL t1 h₅ i1 l1 (i+1):=h1₂.at λo e=>Vd.extBut _ o D.TOi1.symm^Vc.extBut _ o D.i12^CH.extBut _ o D.TOi1.symm e;have h2₅:qL t2 h₅ i2 l2 (i+1):=h2₄.at λo e=>Vd.extBut _ o D.TOi2.symm e;have aaL:z<h₅.objs.size:=aH hz₅;change wpAny _ _ (Builtin.SmallTypes.ownedTupleHandOut (.ref z) (.ref h₅.objs.size) >>= _) _ _ _;show au ?_;unfold Builtin.SmallTypes.ownedTupleHandOut;have hz₆:ZO (h₅.push { cls:=.type "tuple", data:=.seq #v[x,y] }) z TI TO .ellipsis false:=dY _ hz₅;show au (wpAny_setField_rec hz₆ (by simp) λh₇ hz₇ hs₇=>?_);replace hz₇:ZO h₇ z TI TO (rawInt h₅.objs.size) false:=hz₇;show wpAny_setField_rec hz₇ (by simp) λh₈ hz₈ hs₈=>?_;replace hz₈:ZO h₈ z TI TO (rawInt h₅.objs.size) false:=hz₈;have up:∀c o,c≠z->h₅.get? c=some o->h₈.get? c=some o:=λc o c1 e=>hs₈.extBut _ _ c1^hs₇.extBut _ _ c1^dY _ e;have hT₈:IsPair h₈ h₅.objs.size x y:=hs₈.extBut _ _ (kg aaL)^hs₇.extBut _ _ (kg aaL)^iI _ rfl;have hz8:h₈.objs.size=h₅.objs.size+1:=by rw[hs₈.1,hs₇.1,fk]
 rw[hsz] at hz₈ hT₈ hz8;show aL #[_,rfl,?_];change Q (.ref h₅.objs.size) _;rw[hsz];show hQ h₈ hz₈ #[up _ _ D.TIz^hk₅ _ _ D.TIz D.TITO D.TIi1 D.TIi2 hTI,#[x,y,up _ _ D.TOz Sd],h1₅.at λo e=>up _ o D.i1z e,h2₅.at λo e=>up _ o D.i2z e] hT₈ hz8 λc o c1 c2 c3 c4 e=>up c o c1^hk₅ c o c1 c2 c3 c4 e
def Se{f:Bool}{f0:Value}{Q:Fin->Shared->Prop}(hf:f0=.none\/∃(T:Addr)(oT:Obj),f0=rawInt T/\s.heap.get? T=some oT)(hh:A.handled=none)(D:ZipApart z TI TO i1 i2 l1 l2)(hz:ZO s.heap z TI TO f0 f)(st:Zs t1 t2 TI TO i1 i2 l1 l2 i s.heap)(hl1:Src t1 s.heap l1 xs)(hl2:Src t2 s.heap l2 ys)
  (hend:xs[i]?=none\/ys[i]?=none)
  (hE:∀h' e,Rest z TO i1 i2 s.heap h'->(∃o,h'.get? e=some o/\o.cls=.type "StopIteration")->E (.ref e) { s with heap:=h' }):
  wpAny (model prog w) A (Builtin.«zip.__next__» #[[.ref z],[]]) Q E s:=by
 let#[hTI,#[a,b,hTO],h1,h2]:=st;change wpAny _ _ (field (.ref z) 2 >>= _) _ _ _;show au^wpAny_field hz rfl (x:=.bool false) rfl ?_;change wpAny _ _ (field (.ref z) 3 >>= _) _ _ _;show au^wpAny_field hz rfl (x:=.ref TI) rfl ?_;show au^wpAny_seqItems hTI rfl ?_;change wpAny _ _ (Builtin.SmallTypes.ownedTupleIsFree (.ref z) >>= _) _ _ _;show au ?_;unfold Builtin.SmallTypes.ownedTupleIsFree;rcases hf with rfl|⟨T,oT,rfl,hT⟩
 .show au^wpAny_field hz rfl (x:=.none) rfl^aL ?_;erw[if_true];show au^wpAny_rule ?_;show au^wpAny_field hz rfl (x:=.ref TO) rfl ?_;show au (wpAny_setField_rec hz (by simp) λh₁ Sa hs₁=>?_);replace Sa:ZO h₁ z TI TO .ellipsis f:=Sa;show au ?_;erw[List.zipIdx_cons,List.zipIdx_nil,nF,sS];show au^au^wpAny_onRaise ?_;change wpAny _ _ (Builtin.SmallTypes.nextOf (.ref i1) >>= _) _ _ _;cases hx:xs[i]? with
  | none =>
   show au (next_end hh (h1.at λo e=>hs₁.extBut _ o D.i1z e) (hl1.at λo e=>hs₁.extBut _ o D.l1z e) hx λh₂ e hs₂ he=>?_);let#[oe,Xg,hce]:=he;have hz₂:ZO h₂ z TI TO .ellipsis f:=hs₂ _ _ D.i1z.symm Sa;have hez:e≠z:=λx=>by subst x;rw[hz₂] at Xg;cases Xg;simp at hce
   show wpAny_setField_rec hz₂ (by simp) λh₃ _ CH=>hE h₃ e (λc o c1 _ c3 _ x=>CH.extBut _ _ c1^hs₂ _ _ c3^hs₁.extBut _ _ c1 x) #[oe,CH.extBut _ _ hez Xg,hce]
  | some x =>
   have hy:ys[i]?=none:=by rcases hend with h|h;rw[hx] at h;cases h;show h
   show au (next_item (h1.at λo e=>hs₁.extBut _ o D.i1z e) (hl1.at λo e=>hs₁.extBut _ o D.l1z e) hx λh₂ h1₂ hs₂=>aL ?_);have N7:IsPair h₂ TO a b:=hs₂.extBut _ _ D.TOi1^hs₁.extBut _ _ D.TOz hTO;show au^wpAny_seqItems N7 rfl ?_;show au (wpAny_updateSeq_pair N7 λh₃ Sb CH=>?_);show au^wpAny_letGo^aL ?_;show au^au^wpAny_onRaise ?_;change wpAny _ _ (Builtin.SmallTypes.nextOf (.ref i2) >>= _) _ _ _;show au (next_end hh (h2.at λo e=>CH.extBut _ o D.TOi2.symm^hs₂.extBut _ o D.i12.symm^hs₁.extBut _ o D.i2z e)
    (hl2.at λo e=>CH.extBut _ o D.l2TO^hs₂.extBut _ o D.l2i1^hs₁.extBut _ o D.l2z e) hy λh₄ e Vc he=>?_)
   let#[oe,Xg,hce]:=he;have hz₄:ZO h₄ z TI TO .ellipsis f:=Vc _ _ D.i2z.symm^CH.extBut _ _ D.TOz.symm^hs₂.extBut _ _ D.i1z.symm Sa;have hez:e≠z:=λx=>by subst x;rw[hz₄] at Xg;cases Xg;simp at hce
   show wpAny_setField_rec hz₄ (by simp) λh₅ _ Vd=>hE h₅ e (λc o c1 c2 c3 c4 x=>Vd.extBut _ _ c1^Vc _ _ c4^CH.extBut _ _ c2^hs₂.extBut _ _ c3^hs₁.extBut _ _ c1 x) #[oe,Vd.extBut _ _ hez Xg,hce]
 .show au^wpAny_field hz rfl (x:=rawInt T) rfl ?_;change wpAny _ _ (loadIfAlive ((T:Int).toNat) >>= _) _ _ _;rw[jo];show au^alive hT ?_;erw[Option.isNone_some,cB,if_false];show au^wpAny_field hz rfl (x:=.bool f) rfl ?_;cases f
  .rw[if_pos^by decide];show au (wpAny_setField_rec hz (by simp) λh₁ Sa hs₁=>aL ?_);rw[if_neg^by decide];show au ?_;simp only[<- qM,nF,sS];show au^au^wpAny_holding ?_;change wpAny _ _ (Builtin.SmallTypes.nextOf (.ref i1) >>= _) _ _ _;cases hx:xs[i]? with
   | none=>show au (next_end hh (h1.at λo e=>hs₁.extBut _ o D.i1z e) (hl1.at λo e=>hs₁.extBut _ o D.l1z e) hx λh₂ e hs₂ he=>hE h₂ e (λc o c1 _ c3 _ x=>hs₂ _ _ c3^hs₁.extBut _ _ c1 x) he)
   | some x =>
    have hy:ys[i]?=none:=by rcases hend with h|h;rw[hx] at h;cases h;show h
    show au (next_item (h1.at λo e=>hs₁.extBut _ o D.i1z e) (hl1.at λo e=>hs₁.extBut _ o D.l1z e) hx λh₂ h1₂ hs₂=>aL ?_);show aL^au^au^wpAny_holding ?_;change wpAny _ _ (Builtin.SmallTypes.nextOf (.ref i2) >>= _) _ _ _;show au (next_end hh (h2.at λo e=>hs₂.extBut _ o D.i12.symm^hs₁.extBut _ o D.i2z e) (hl2.at λo e=>hs₂.extBut _ o D.l2i1^hs₁.extBut _ o D.l2z e) hy λh₃ e CH he=>hE h₃ e (λc o c1 _ c3 c4 x=>CH _ _ c4^hs₂.extBut _ _ c3^hs₁.extBut _ _ c1 x) he)
  .rw[if_neg^by decide];show aL ?_;let h₁:=s.heap;have hs₁:Heap.SameBut z s.heap s.heap:=Heap.SameBut.refl ..;rw[if_neg^by decide];show au ?_;simp only[<- qM,nF,sS];show au^au^wpAny_holding ?_;change wpAny _ _ (Builtin.SmallTypes.nextOf (.ref i1) >>= _) _ _ _;cases hx:xs[i]? with
   | none=>show au (next_end hh (h1.at λo e=>hs₁.extBut _ o D.i1z e) (hl1.at λo e=>hs₁.extBut _ o D.l1z e) hx λh₂ e hs₂ he=>hE h₂ e (λc o c1 _ c3 _ x=>hs₂ _ _ c3^hs₁.extBut _ _ c1 x) he)
   | some x =>
    have hy:ys[i]?=none:=by rcases hend with h|h;rw[hx] at h;cases h;show h
    show au (next_item (h1.at λo e=>hs₁.extBut _ o D.i1z e) (hl1.at λo e=>hs₁.extBut _ o D.l1z e) hx λh₂ h1₂ hs₂=>aL ?_);show aL^au^au^wpAny_holding ?_;change wpAny _ _ (Builtin.SmallTypes.nextOf (.ref i2) >>= _) _ _ _;show au (next_end hh (h2.at λo e=>hs₂.extBut _ o D.i12.symm^hs₁.extBut _ o D.i2z e) (hl2.at λo e=>hs₂.extBut _ o D.l2i1^hs₁.extBut _ o D.l2z e) hy λh₃ e CH he=>hE h₃ e (λc o c1 _ c3 c4 x=>CH _ _ c4^hs₂.extBut _ _ c3^hs₁.extBut _ _ c1 x) he)
def Sf{Q:Option Value->Shared->Prop}{Q':Value->Shared->Prop}(hT:s.TypeIs (.ref z) "zip")(h:wpAny (model prog w) A.in1 (Builtin.«zip.__next__» #[[.ref z],[]]) (λfin s'=>∃v,fin=.done^.ret v/\Q' v s') (λ_ _=>False) s)(q:∀v s',Q' v s'->Q (some v) s'):wpAny (model prog w) A (pyNext^.ref z) Q E s:=by unfold pyNext;show au^wpAny_attempt^wpAny_callSpecial?_slot (name:=Str.ofString "__next__") hT F.slot_zip_next^wpAny_call_entry F.slot_zip_next hT F.entry_zip_next (wpAny_mono h (λfin s' h'=>?_) λ_ _ h'=>h'.elim)^F.args_zip_next_1 _;let#[v,rfl,h']:=h';show#[v,rfl,aL^q v s' h']
def Xh{Q:Option Value->Shared->Prop}(hT:s.TypeIs (.ref z) "zip")(h:wpAny (model prog w) A.in1 (Builtin.«zip.__next__» #[[.ref z],[]]) (λ_ _=>False) (λe s'=>∃a o,e=.ref a/\s'.heap.get? a=some o/\o.cls=.type "StopIteration" /\ Q none s') s):wpAny (model prog w) A (pyNext^.ref z) Q E s:=by unfold pyNext;show au^wpAny_attempt^wpAny_callSpecial?_slot (name:=Str.ofString "__next__") hT F.slot_zip_next^wpAny_call_entry F.slot_zip_next hT F.entry_zip_next (wpAny_mono h (λ_ _ h'=>h'.elim) λe s' h'=>?_)^F.args_zip_next_1 _;let#[a,o,rfl,ho,hc,q]:=h';show au^wpAny_isInstance (T := "StopIteration") (b:=true) #[o,ho,hc] isSubtype_stop ?_;show aL q
end
section
variable {xs:Array Value}
abbrev zH1(t1:Bool)(h:Heap)(l1:Addr):Heap:=h.push^qX t1 l1
noncomputable abbrev zH2(t1 t2:Bool)(h:Heap)(l1 l2:Addr):Heap:=(zH1 t1 h l1).push^qX t2 l2
noncomputable abbrev zH3(t1 t2:Bool)(h:Heap)(l1 l2:Addr):Heap:=(zH2 t1 t2 h l1 l2).push { cls:=.type "tuple", data:=.seq #v[.ref h.objs.size,.ref (zH1 t1 h l1).objs.size] }
noncomputable abbrev zH4(t1 t2:Bool)(h:Heap)(l1 l2:Addr):Heap:=(zH3 t1 t2 h l1 l2).push { cls:=.type "tuple", data:=.seq #v[.none,.none] }
noncomputable abbrev Xi(t1 t2:Bool)(h:Heap)(l1 l2:Addr):Heap:=(zH4 t1 t2 h l1 l2).push { cls:=.type "zip", data:=.fields #v[.none,.bool false,.bool false,.ref (zH2 t1 t2 h l1 l2).objs.size,.ref (zH3 t1 t2 h l1 l2).objs.size] }
def K1(t1 t2:Bool)(l1 l2:Addr)(xs ys:Array Value):
  Meets (Builtin.«zip.__new__» #[[.type "zip", .ref l1,.ref l2],[]]) (λ_ R s=>Src t1 s.heap l1 xs/\Src t2 s.heap l2 ys /\
   R (.ok^.ret^.ref (zH4 t1 t2 s.heap l1 l2).objs.size) { s with heap:=Xi t1 t2 s.heap l1 l2 }) :=
 .of_wp λprog w A R s h=>by
  let#[hp,g,d,tk,os]:=s;let#[hl1,hl2,h]:=h;have hsub:=sub_zip;have Xj:Src t1 (Shared.heap #[hp,g,d,tk,os]) l1 xs:=hl1;have Ve:Src t2 (Shared.heap #[hp.push^qX t1 l1,g,d,tk,os]) l2 ys:=Src.push hl2 _
  wp_walk using IT Xj,IT Ve
  show#[_,rfl,h]
def N8(hl1:Src t1 s.heap l1 xs)(hl2:Src t2 s.heap l2 ys)
  (h:∀h',ZO h' (s.heap.objs.size+4) (s.heap.objs.size+2) (s.heap.objs.size+3) .none false->Zs t1 t2 (s.heap.objs.size+2) (s.heap.objs.size+3) s.heap.objs.size (s.heap.objs.size+1) l1 l2 0 h' ->
   h'.objs.size=s.heap.objs.size+5->(∀c o,s.heap.get? c=some o->h'.get? c=some o)->Q (.ref (s.heap.objs.size+4)) { s with heap:=h' }):
  wpAny (model prog w) A (call (.type "zip") [.ref l1,.ref l2]) Q E s:=by
 show callType_new F.called_zip (by decide) (F.typeCall_zip_2 _ _) (F.newCall_zip_2 _ _) (λobj=>F.args_object_init_3 obj _ _) F.entry_zip_new
  (K1 t1 t2 l1 l2 xs ys) #[hl1,hl2,?_]
 have z1:(zH1 t1 s.heap l1).objs.size=s.heap.objs.size+1:=fk ..;have z2:(zH2 t1 t2 s.heap l1 l2).objs.size=s.heap.objs.size+2:=by rw[fk,z1]
 have z3:(zH3 t1 t2 s.heap l1 l2).objs.size=s.heap.objs.size+3:=by rw[fk,z2]
 have z4:(zH4 t1 t2 s.heap l1 l2).objs.size=s.heap.objs.size+4:=by rw[fk,z3]
 have z5:(Xi t1 t2 s.heap l1 l2).objs.size=s.heap.objs.size+5:=by rw[fk,z4]
 have g5:(Xi t1 t2 s.heap l1 l2).get? (zH4 t1 t2 s.heap l1 l2).objs.size=some _:=iI _ rfl;have g4:(Xi t1 t2 s.heap l1 l2).get? (zH3 t1 t2 s.heap l1 l2).objs.size=some _:=dY _^iI _ rfl;have g3:(Xi t1 t2 s.heap l1 l2).get? (zH2 t1 t2 s.heap l1 l2).objs.size=some _:=dY _^dY _^iI _ rfl;have r2:(qX t2 l2).isFreed=false:=by cases t2<;>rfl
 have r1:(qX t1 l1).isFreed=false:=by cases t1<;>rfl
 have g2:(Xi t1 t2 s.heap l1 l2).get? (zH1 t1 s.heap l1).objs.size=some^qX t2 l2:=dY _^dY _^dY _^iI _ r2;have g1:(Xi t1 t2 s.heap l1 l2).get? s.heap.objs.size=some^qX t1 l1:=dY _^dY _^dY _^dY _^iI _ r1;change _/\_;rw[z2,z3,z4] at g5;rw[z1,z2] at g3;rw[z3] at g4;rw[z1] at g2;rw[z4];show#[#[_,g5,rfl],h _ g5 #[g3,#[_,_,g4],qL.new g1,qL.new g2] z5 λc o x =>
  dY _^dY _^dY _^dY _^dY _ x]
end
section
variable {St:Heap->Prop}
end
end ZP
def BT.aaM:PySem.bootBuiltins "zip" = some^.type "zip":=by decide +kernel
namespace L2
variable {p:Addr}{R:Option Int->Hp->Prop}
section
variable {σ:St}
def Inv.vY(I:Inv X u5 σ H s)(k:∀b o,b∉fp->s.heap.get? b=some o->h'.get? b=some o)(hf:∀b∈fp,ig X u5 H b):Inv X u5 σ H { s with heap:=h',toks:=t' }:=by
 have ZR:∀b u,H b=some u->b∉fp:=λb u e z=>by rw[(hf b z).1] at e;cases e
 show I.step (g':=s.gens) (d':=s.drawn) (ch:=fp) (λb hb=>?_) (λb o _ _ hc e _=>k b o hc e) (λb o _ _ hc e _=>#[o.slots,k b o hc e]) (λ_ _ _ _ n=>n)
  (λb o hc e=>#[o,k b o hc e]) (λ_ _ e=>e) (λ_ _ _ e=>e) (λb ps e=>#[#[],by rw[e];simp]) (λm hm=>?_) (λb u e=>?_) I.bare
 .show#[(hf b hb).2.2.2.1,(hf b hb).2.1,(hf b hb).2.2.2.2.1,(hf b hb).2.2.2.2.2]
 .let#[o,es,ep,ho,r]:=hm;show#[o,es,ep,k _ o (λz=>(hf _ z).2.1 rfl) ho,r]
 .show(I.hok b u e).stay (λc v hc q=>k c v ?_ q) (λ_ q=>q) λ_ _ q=>q;rcases hc with z|z;rw[z];show ZR b u e;show ZR c _ z
def K2(t:Bool)(K:az)(H:Hp)(a:Addr)(xs:List V):Prop:=match t with
 | true=>dJ K H a xs
 | false=>bG K H a xs
def Inv.src{t:Bool}(I:Inv X u5 σ H s)(h:K2 t X.K H a xs):∃its:List Value,Vals xs its/\ZP.Src t s.heap a its.toArray/\xs.length<=sizeLine:=by cases t;let#[its,r,pl,z]:=I.list h;show#[its,r,pl.isList,z];let#[its,r,pl,z]:=I.tuple h;show#[its,r,pl,z]
theorem xM:nu X (binaryOp .FloorDiv) (rI (λ_ j=>0<j/\j<18446744073709551616) λi j=>.int (i / j)):=Z4 λi j _ _ _ _ _ hc q=>by have h1:(0:Int)<j:=hc.1;have h2:j<18446744073709551616:=hc.2;show floordiv_int ∅ (by rw[Int.fdiv_eq_ediv_of_nonneg i ∅];show q) (.inl^PyProof.noPylong_of_log2 ?_);have h3:j.natAbs.log2<64:=(Nat.log2_lt ∅).mpr ∅;lia
end
section
variable {nx bk ct:St->Hp->Prop}{σ:St}{t u:TS}
def Vf(R:Option Int->Hp->Prop):V->Hp->Prop:=λx H=>∃i,x=.int i/\R (some i) H
def afT(h:te σ H^Vf R):U0 te σ H R:=h
def ad7{i:Int}(h:R (some i) H):Vf R (.int i) H:=#[i,rfl,h]
def aaN(h:R none H):IE σ H R:=h
end
def zE{α:Type}(P:α->Prop):List α->Prop
 | []=>True
 | a::l=>P a/\zE P l
theorem zE.mem{α:Type}{P:α->Prop}:∀{l:List α},zE P l->∀a∈l,P a
 | [],_,a,h=>nomatch h
 | b::l,hl,a,h=>by rcases aG.mp h with e|h;rw[e];show hl.1;show zE.mem hl.2 a h
theorem bh.caps{nm:List Str}(calm:X.calm=true)(clos:closureFor scope X.env=pure cl)(cell:∀y∈scope.names,y.2≠.cell)(kind:scope.kind=.function)
  (names:∀y∈scope.names,y.2=.local->scope.names.lookup y.1=some .local)(loc:scope.names.lookup x=some .local)(nd:(x::fr).Nodup)
  (hcl:zE (λp=>X.env.cells.lookup p.1=some p.2) cl)(hnm:cl.map (·.1)=nm)(hfree:∀z∈scope.names,z.2=.free->z.1∈nm)(hlen:fr.length=ix.length)
  (hfx:zE (λp=>X.N[p.2]?=some p.1/\X.env.kindOf p.1=some .cell/\(relabel scope X.env).names.lookup p.1=some .cell)^fr.zip ix):bh X scope cl x fr ix where
 calm:=calm
 clos:=clos
 cell:=cell
 kind:=kind
 names:=names
 loc:=loc
 nd:=nd
 NX:=λy c h=>hcl.mem (y,c) (iy h)
 R6:=λy h=>by
  have mem:∀{k:NameKind},(relabel scope X.env).names.lookup y=some k->∃z∈scope.names,(if(z.2==.free&&X.env.scope.kind==.function&&X.env.kindOf z.1==some .cell) then(z.1,NameKind.cell) else(z.1,z.2))=(y,k):=λ{k} e=>by have q:=iy e;let#[z,hz,e]:=aE.mp q;show#[z,hz,e]
  have key:∃z∈scope.names,z.1=y/\z.2=.free:=by
   rcases h with h|h
   .let#[z,hz,e]:=mem h;show#[z,hz,?_];by_cases hf:(z.2==NameKind.free)=true
    .show#[?_,by cases hk:z.2<;>rw[hk] at hf<;>first|rfl|cases hf];split at e;show congrArg Prod.fst e;show congrArg Prod.fst e
    .exfalso;rw[Bool.not_eq_true] at hf;rw[hf,wO,wO,if_neg lG] at e;show cell z hz^congrArg Prod.snd e
   .let#[z,hz,e]:=mem h;show#[z,hz,?_];split at e;show absurd (congrArg Prod.snd e) (by intro q;cases q);show#[congrArg Prod.fst e,congrArg Prod.snd e]
  let#[z,hz,rfl,hk]:=key;have hm:=hfree z hz hk;rw[<- hnm] at hm;let#[p,hp,e]:=aE.mp hm;cases q:cl.lookup z.1 with
  | some c=>show#[c,rfl]
  | none =>
   exfalso;have:=List.lookup_eq_none_iff.mp q p hp;rw[e] at this;simp at this
 fx:=λj y h=>by
  have hj:j<fr.length:=(e9 h).1;have hi:ix[j]?=some (ix[j]'∅):=by simp
  have hz:(y,ix[j]'∅)∈fr.zip ix:=gq (i:=j) (by rw[qe];show#[h,hi]);let#[a,b,c]:=hfx.mem _ hz;show#[_,hi,a,.inl b,.inl c]
 len:=hlen
section
variable {nx bk ct:St->Hp->Prop}{σ:St}{P:Bool->Hp->Prop}{t u:TS}
def Xk:R2:=λx y H Q=>y=.eW/\Q (.bl (decide (x=.eW))) H
def IU:nu X (compareOp .Is) Xk:=WG
def afU(h:Q (.bl true) H):Xk .eW .eW H Q:=#[rfl,h]
def afV(h:Q (.bl false) H):Xk (.ref a) .eW H Q:=#[rfl,h]
def N9(K:az):List V->Hp->VK->Prop:=λxs H Q=>∃p ys,xs=[.ref p]/\((bG K H p ys/\∀l,H l=none->Q (.ref l)^upd H l^.tup ys)\/(dJ K H p ys/\Q (.ref p) H))
def tS:dP X (.type "tuple")^N9 X.K:=zD
def afW{ys:List V}(hS:bG K H p ys)(h:∀l H',fV H l (.tup ys) H'->Q (.ref l) H'):N9 K [.ref p] H Q:=#[p,ys,rfl,.inl #[hS,λl hl=>h l _ #[hl,rfl]]]
def afX{gs:FZ}{R:St->Hp->Prop}(hS:bG K H a xs)(hn:xs.length=n)(h:gs xs σ H R):aav K n gs (.ref a) σ H R:=#[a,xs,rfl,hS,hn,h]
def ajd{zs:List V}(h1:H l=some^.lst xs)(h2:H b=some^.lst zs)(hz:xs.length+zs.length<=1000000)(h:∀p H',fV H p (.lst (xs++zs)) H'->Q (.ref p) H'):aan (.ref l) (.ref b) H Q :=
 #[l,b,xs,zs,rfl,rfl,h1,h2,bg hz^by decide,λp hp=>h p _ #[hp,rfl]]
def aaO{zs:List V}(h1:H l=some^.lst xs)(h2:H b=some^.lst zs)(hz:xs.length+zs.length<=16000000)(h:∀H',tR H l (.lst (xs++zs)) H'->Q .eW H'):IJ (.ref l) [.ref b] H Q :=
 #[l,b,xs,zs,rfl,rfl,h1,h2,bg hz^by decide,h _ rfl]
def Vg(K:az)(Q:VK):VK:=λx H=>∃a xs,x=.ref a/\(bG K H a xs\/dJ K H a xs)/\∀l,H l=none->Q (.ref l)^upd H l^.lst xs.reverse
def Zk(h:ta σ H^Vg K Q):C2 K ta σ H Q:=h
def afY(hS:bG K H a xs\/dJ K H a xs)(h:∀l H',fV H l (.lst xs.reverse) H'->Q (.ref l) H'):Vg K Q (.ref a) H:=#[a,xs,rfl,hS,λl hl=>h l _ #[hl,rfl]]
def Xl(K:az)(P:Bool->Hp->Prop):VK:=λx H=>∃k,RW K x H k/\P k H
def aaP(K:az)(ta:TE):TT:=λσ H Q=>ta σ H λx H'=>∃k,RW K x H' k/\Q k H'
def jJ{a:Expr}(ha:PE X a ta)(he:∀whole,isTrue a X.env whole=(do let v <- whole;standAt a.pos;holding [v]^truthy v)):PT X a^aaP X.K ta:=NB ha he
def aje(h:ta σ H^Xl K P):aaP K ta σ H P:=h
def afZ(hS:bG K H p xs)(h:P (!xs.isEmpty) H):Xl K P (.ref p) H:=#[_,.inl #[xs,hS,rfl],h]
def af0(hS:dJ K H p xs)(h:P (!xs.isEmpty) H):Xl K P (.ref p) H:=#[_,.inr^.inl #[xs,hS,rfl],h]
def ak1{r:V->Option Int->Option Int->Hp->VK->Prop}{tl th:TO}(h:te σ H λx H1=>tl σ H1 λl H2=>th σ H2 λu H3=>r x l u H3 Q):tSl r te tl th σ H Q:=h
def ajf{lo hi:Option Int}(hS:bG K H a xs)(h:∀p H',fV H p (.lst^gc xs lo hi) H'->Q (.ref p) H'):aai K (.ref a) lo hi H Q:=#[a,xs,rfl,hS,λp hp=>h p _ #[hp,rfl]]
def af1(e:σ[i]?=some^some v)(h:Q v H):qj i σ H Q:=#[v,e,h]
def af2(h:te σ H λv H1=>iB i v σ H1 nx):C0 te i #[nx,rt,bk,ct] σ H:=h
def af3{ti:TE}{ts:RM}{R:St->Hp->Prop}(h:to σ H λo H1=>ti σ H1 λi H2=>ts o i v H2 λH3=>R σ H3):Z0 to ti ts v σ H R:=h
def Gr{k:Int}{R:Hp->Prop}(hl:H p=some^.lst xs)(hj:NG xs.length k=some j)(h:∀H',tR H p (.lst^xs.set j v) H'->R H'):U3 (.ref p) (.int k) v H R:=#[p,xs,k,j,rfl,rfl,hl,hj,h _ rfl]
def C5(x y:Str):(x++y).length=x.length+y.length:=by change(x.cps++y.cps).size=x.cps.size+y.cps.size;simp
def aaQ(h:P true H):W4 σ H P:=h
def Oa(J:It)(tt:TT)(te:TE)(τ:St)(Q:VK)(H:Hp):Prop:=∃W:Nat->Nat->List V->Hp->Prop,(∃m,W 0 m [] H)/\∀i m ys H,W i m ys H ->
 (J.stop i H/\∀p,H p=none->Q (.ref p)^upd H p^.lst ys)\/(J.go i H/\ys.length<sizeLine/\∃N:List V->Hp->Prop,(∀ys' H',N ys' H'->∃m',m'<m/\W (i+1) m' ys' H') /\
  ∀v H',J.Na i H v H'->tt (some v::τ) H' λb H3=>if b=true then te (some v::τ) H3 λy H4=>N (ys++[y]) H4 else N ys H3)
def af4{wi:TI}(h:wi σ H λJ H1=>Oa J tt te (cut ix σ) Q H1):IP wi tt te ix σ H Q:=h
theorem kq{lo:Int}{τ:St}(Pv:Nat->List V->Hp->Prop)(h0:Pv 0 [] H)
  (hs:∀i ys H,i<n->Pv i ys H->ys.length<sizeLine/\tt (some^.int (lo+i)::τ) H λb H3=>if b=true then te (some^.int (lo+i)::τ) H3 λy H4=>Pv (i+1) (ys++[y]) H4 else Pv (i+1) ys H3)
  (hd:∀ys H,Pv n ys H->∀p H',fV H p (.lst ys) H'->Q (.ref p) H'):Oa (qL lo n) tt te τ Q H:=by show#[λi m ys H=>m=n-i/\i<=n/\Pv i ys H,#[n,by simp,aM _,h0],?_];rintro i m ys H ⟨rfl,hi,p⟩;by_cases hlt:i<n;let#[hz,q]:=hs i ys H hlt p;show .inr #[hlt,hz,Pv (i+1),λσ' H' p'=>#[n-(i+1),∅,rfl,hlt,p'],λx H' y=>?_];let#[e,y]:=y;subst e y;show q;have e:i=n:=∅;subst e;show .inl #[av _,λq hq=>hd ys H p q _ #[hq,rfl]]
theorem fM{τ:St}(Pv:Nat->List V->Hp->Prop)(h0:Pv 0 [] H)(hl:∀i ys H,i<=xs.length->Pv i ys H->bG K H a xs)
  (hs:∀i x ys H,xs[i]?=some x->Pv i ys H->ys.length<sizeLine/\tt (some x::τ) H λb H3=>if b=true then te (some x::τ) H3 λy H4=>Pv (i+1) (ys++[y]) H4 else Pv (i+1) ys H3)
  (hd:∀ys H,Pv xs.length ys H->∀p H',fV H p (.lst ys) H'->Q (.ref p) H'):Oa (Rt K a) tt te τ Q H:=by
 show#[λi m ys H=>m=xs.length-i/\i<=xs.length/\Pv i ys H,#[xs.length,by simp,aM _,h0],?_];rintro i m ys H ⟨rfl,hi,p⟩;have q:=hl i ys H hi p;by_cases hlt:i<xs.length
 .have hx:xs[i]?=some xs[i]:=by simp[hlt]
  let#[hz,q']:=hs i _ ys H hx p;show .inr #[#[xs,xs[i],q,hx],hz,Pv (i+1),λσ' H' p'=>#[xs.length-(i+1),∅,rfl,hlt,p'],λx H' y=>?_];let#[e,y]:=y;subst e;have e2:x=xs[i]:=Option.some.inj^(y xs q).symm.trans hx;subst e2;show q'
 .have e:i=xs.length:=∅;subst e;show .inl #[#[xs,q,av _],λr hr=>hd ys H p r _ #[hr,rfl]]
end
section
variable {σ:St}
def Bs(wi:TI)(g:TG)(tt:TT)(te:TE)(ix:List Nat)(k:Nat):TE:=λσ H Q=>wi σ H λJ H1=>∃W:Nat->Nat->List V->St->Hp->Prop,(∃m,W 0 m [] (List.replicate k none++cut ix σ) H1)/\∀i m ys τ H,W i m ys τ H ->
 (J.stop i H/\∀p,H p=none->Q (.ref p)^upd H p^.lst ys)\/(J.go i H/\ys.length<sizeLine/\∃N:List V->St->Hp->Prop,(∀ys' τ' H',N ys' τ' H'->∃m',m'<m/\W (i+1) m' ys' τ' H') /\
  ∀v H',J.Na i H v H'->g v τ H' λτ2 H2=>tt τ2 H2 λb H3=>if b=true then te τ2 H3 λy H4=>N (ys++[y]) τ2 H4 else N ys τ2 H3)
def C6{elt iter:Expr}{xs:List Str}{ifs:List Expr}{wi:TI}(O:fS X scope cl xs fr ix)(hi:PI X tg iter wi)(hg:∀C fp s H,PG (sN X (xs++fr) scope cl C fp s H) tg g)
  (ht:∀C fp s H,PF (sN X (xs++fr) scope cl C fp s H) ifs tt)(he:∀C fp s H,PE (sN X (xs++fr) scope cl C fp s H) elt te)
  (hs:∀v,foldedSetIterable iter X.env v=pure v:=by walk_at "ir"):PE X (.ListComp elt [#[tg,iter,ifs,0]] scope pos)^Bs wi g tt te ix xs.length:=by intro u5 s σ H Q I h;rw[eval_ListComp];show wpAny_comprehension_free (use:=none) rfl hs O.clos O.kind O.names (c9 (hi u5 s σ H _ I h) λv s1 h1=>c9 h1 λitv s2 h2=>?_);let#[it,fp,tn,J,H2,e,I2,T,st2,f2,W,#[m0,w0],turn]:=h2;subst e;show nO O hg ht he I2 T st2 f2 (λys H=>∀p,H p=none->Q (.ref p)^upd H p^.lst ys) W m0 w0 turn λD C s' ys H' I' hm fC hD z=>?_;let#[m,hm]:=hm;show#[m,hm,λh' hs'=>?_];show#[.ref D,_,I'.turned (t':=s'.toks) (it:=C) (λb o hb e=>hs'.extBut b o hb e) fC.1 fC.2.1 fC.2.2.2.1 fC.2.2.2.2.1 fC.2.2.2.2.2,rfl,z D hD]
end
end L2
def BT.C7:PySem.bootBuiltins "enumerate" = some^.type "enumerate":=by decide +kernel
namespace L2
variable {ys:List V}{R:It->Hp->Prop}
noncomputable def Itz(K:az)(t1 t2:Bool)(l1 l2:Addr)(xs ys:List V):It :=
 #[λi H=>K2 t1 K H l1 xs/\K2 t2 K H l2 ys/\i<min xs.length ys.length,
  λi H v H'=>∃p x y,xs[i]?=some x/\ys[i]?=some y/\v=.ref p/\fV H p (.tup [x,y]) H',
  λi H=>K2 t1 K H l1 xs/\K2 t2 K H l2 ys/\min xs.length ys.length<=i]
theorem Ob{TI TO i1 i2:Addr}(D:ZipApart z TI TO i1 i2 l1 l2):
  Turn P w K (.Tuple es k pos) (Itz K t1 t2 l1 l2 xs ys) [z,TI,TO,i1,i2] z (λi h=>ZP.ZO h z TI TO .none false/\ZP.Zs t1 t2 TI TO i1 i2 l1 l2 i h) where
 mem:=by simp
 obj:=λi h st b hb=>by let#[hz,hs]:=st;let#[a,c,hTO]:=hs.to;erw[aG,iQ,or_false] at hb;rcases hb with e|e|e|e|e<;>rw[e];show#[_,hz,λv q=>by cases q];show#[_,hs.ti,λv q=>by cases q];show#[_,hTO,λv q=>by cases q];let#[o,e1,vs,d]:=hs.a1.here;show#[o,e1,λv q=>by rw[d] at q;cases q];let#[o,e1,vs,d]:=hs.a2.here;show#[o,e1,λv q=>by rw[d] at q;cases q]
 keep:=λi h h' st kk=>#[kk z (by simp) _ st.1,st.2.keep λb hb o e=>kk b (by rcases hb with q|q|q|q<;>simp[q]) o e]
 item:=by
  intro X hP hw hK hc i u5 s σ H E I hf st hg;subst hP hw hK;let#[q1,q2,hlt]:=hg;let#[Oc,v1,K3,z1]:=I.src q1;let#[its2,v2,K4,z2]:=I.src q2;have hx:xs[i]?=some (xs[i]'∅):=by simp
  have hy:ys[i]?=some (ys[i]'∅):=by simp
  generalize xs[i]'∅=x at hx;generalize ys[i]'∅=y at hy;let#[u,hu,ru]:=v1.get hx;let#[v,hv,rv]:=v2.get hy;let#[hz,hs]:=st;show ZP.Sf #[_,hz,rfl] (ZP.N6 (Q:=λr s'=>r=.ref s.heap.objs.size/\∃h',s'={ s with heap:=h' }/\ZP.ZO h' z TI TO (rawInt s.heap.objs.size) false/\ZP.Zs t1 t2 TI TO i1 i2 l1 l2 (i+1) h'/\IsPair h' s.heap.objs.size u v/\ZP.Rest z TO i1 i2 s.heap h')
   D hz hs K3 K4 (by simpa using hu) (by simpa using hv) λh' a1 a2 a3 _ a5=>#[rfl,h',rfl,a1,a2,a3,a5]) λr s' q=>?_
  let#[rfl,h',rfl,hz',st',IM,hr]:=q;show#[_,rfl,wpAny_letOwnedTupleGo_zip hz' λh2 hz2 hs2=>?_];have Xc:z≠s.heap.objs.size:=aN^aH hz;have hr2:∀b o,b∉[z,TO,i1,i2]->s.heap.get? b=some o->h2.get? b=some o:=λb o hb e =>
   hs2.extBut b o (λq=>hb^by simp[q])^hr b o (λq=>hb^by simp[q]) (λq=>hb^by simp[q]) (λq=>hb^by simp[q]) (λq=>hb^by simp[q]) e
  have I1:Inv X u5 σ H { s with heap:=h2,toks:=s.toks }:=I.vY (fp:=[z,TO,i1,i2]) hr2 λb hb=>hf b (by
   erw[aG,iQ,or_false] at hb ⊢;rcases hb with h|h|h|h<;>simp[h])
  have hfr:H s.heap.objs.size=none:=I.hok.fresh^av _;have I2:=I1.CZ (I.qk (av _) hfr) (o:=.tup [x,y]) #[by change 2<=sizeLine;decide,[u,v],.cons ru^.cons rv .nil,#[_,hs2.extBut _ _ (aQ Xc) IM,rfl,_,rfl]];let#[a,c,hTO]:=st'.to;show#[.ref s.heap.objs.size,_,I2,rfl,#[_,x,y,hx,hy,rfl,hfr,rfl],#[hz2,st'.keep λb hb o e=>hs2.extBut b o ?_ e],λb hb=>?_];rcases hb with q|q|q|q<;>rw[q];show D.TIz;show D.TOz;show D.i1z;show D.i2z
  .rw[bI ?_];show(hf b hb).1;let#[a0,c0,af5]:=hs.to;let#[o1,e1,_]:=hs.a1.here;let#[o2,e2,_]:=hs.a2.here;have lt:∀{b:Addr}{o:Obj},s.heap.get? b=some o->b≠s.heap.objs.size:=λe=>aN^aH e;erw[aG,iQ,or_false] at hb;rcases hb with h|h|h|h|h<;>rw[h];show lt hz;show lt hs.ti;show lt af5;show lt e1;show lt e2
 done:=by
  intro X hP hw hK hc i u5 s σ H E I hf st hg;subst hP hw hK;let#[q1,q2,hge]:=hg;let#[Oc,v1,K3,z1]:=I.src q1;let#[its2,v2,K4,z2]:=I.src q2;let#[hz,hs]:=st;have e1:=v1.length;have e2:=v2.length;show ZP.Xh #[_,hz,rfl] (ZP.Se (.inl rfl) (I.ok.hd hc) D hz hs K3 K4 ?_ λh' e hr he=>?_);rcases Nat.le_total xs.length ys.length with hle|hle;show .inl ?_;erw[lJ];show iO ∅;show .inr ?_;erw[lJ];show iO ∅
  .let#[o,ho,hcl]:=he;show#[e,o,rfl,ho,hcl,rfl,?_];show I.vY (t':=s.toks) (fp:=[z,TO,i1,i2]) (λb o hb e=>hr b o (λq=>hb^by simp[q]) (λq=>hb^by simp[q]) (λq=>hb^by simp[q]) (λq=>hb^by simp[q]) e) λb hb=>hf b (by
    erw[aG,iQ,or_false] at hb ⊢;rcases hb with h|h|h|h<;>simp[h])
 self:=λA i s Q E st q=>wpAny_pyIter_zip st.1 q
def Xm(K:az)(R:It->Hp->Prop):List V->Hp->Prop:=λvs H=>∃t1 t2 a b xs ys,vs=[.ref a,.ref b]/\K2 t1 K H a xs/\K2 t2 K H b ys/\R (Itz K t1 t2 a b xs ys) H
def aaS(K:az)(ta:TA):TI:=λσ H R=>ta σ H^Xm K R
def Gs{a b:Expr}{ta:TA}(hg:Gl X "zip")(hm:X.mg "zip" = none)(ha:PA X [a,b] ta)(he:starEach [a,b] X.env=(false,eval a X.env)::starEach [b] X.env)(hpl:(backTo pos^starEach [b] X.env).any (·.1)=false):PI X (.Tuple es k tpos) (.Call (.Name "zip" p) [a,b] [] pos)^aaS X.K ta:=by intro u5 s σ H R I h;show wpAny_Call_Name_kw^iA I hg hm BT.aaM ?_;show i6 (c9 (ha pos u5 s σ H _ I h) λus s1 zq=>?_) he hpl;let#[vs,H1,I1,rv,q1]:=zq;let#[t1,t2,pa,pb,xs,ys,rfl,hx,hy,q]:=q1;let#[u,u',rfl,r1,r2]:=vals2 rv;cases r1;cases r2;let#[Oc,v1,K3,z1]:=I1.src hx;let#[its2,v2,K4,z2]:=I1.src hy;let#[o1,e1]:=K3.here;let#[o2,e2]:=K4.here;show ZP.N8 K3 K4 λh' hz st hsz hk=>?_;have I2:Inv X u5 σ H1 { s1 with heap:=h',toks:=s1.toks }:=I1.kept hk;show wpAny_pyIter_zip hz #[_,_,_,_,H1,rfl,I2,Ob^zipApart_new (aH e1)^aH e2,#[hz,st],λb hb=>?_,q];have fr:∀b,s1.heap.objs.size<=b->ig X u5 H1 b:=λb hb=>I1.qk hb^I1.hok.fresh hb;show fr b ?_;erw[aG,iQ,or_false] at hb;rcases hb with h|h|h|h|h<;>rw[h];show lO _ _;show lO _ _;show lO _ _;show av _;show lO _ _
def Ite(K:az)(l:Addr)(xs:List V):It :=
 #[λi H=>bG K H l xs/\i<xs.length,λi H v H'=>∃p x,xs[i]?=some x/\v=.ref p/\fV H p (.tup [.int i,x]) H',λi H=>bG K H l xs/\xs.length<=i]
theorem K5{e:Addr}(hei:e≠it):
  Turn P w K (.Tuple es k pos) (Ite K l xs) [e,it] e (λi h=>(∃old,IsEnum h e it i old)/\h.IsListIter it l i) where
 mem:=by simp
 obj:=λi h st b hb=>by let#[#[old,he],o,e1,c,d]:=st;erw[aG,iQ,or_false] at hb;rcases hb with q|q<;>rw[q];show#[_,he,λv q=>by cases q];show#[o,e1,λv q=>by rw[d] at q;cases q]
 keep:=λi h h' st kk=>#[let⟨old,he⟩:=st.1;#[old,kk e (by simp) _ he],let⟨o,e1,r⟩:=st.2;#[o,kk it (by simp) o e1,r]]
 item:=by
  intro X hP hw hK hc i u5 s σ H E I hf st hg;subst hP hw hK;let#[q1,hlt]:=hg;let#[Oc,v1,pl,z1]:=I.list q1;have hx:xs[i]?=some (xs[i]'∅):=by simp
  generalize xs[i]'∅=x at hx;let#[u,hu,ru]:=v1.get hx;let#[#[old,he],hit]:=st;have hT1:e≠s.heap.objs.size:=aN^aH he;have hT2:it≠s.heap.objs.size:=by let#[o,e1,_]:=hit;show aN^aH e1
  show wpAny_pyNext_enum_item he hit pl.isList (by simpa using hu) hei λh' ho xF hT hsz hk=>#[_,rfl,?_];show wpAny_letOwnedTupleGo_enum ho λh2 he2 hs2=>?_;have hfr:H s.heap.objs.size=none:=I.hok.fresh^av _;have I1:Inv X u5 σ H { s with heap:=h2,toks:=s.toks+1 }:=I.vY (fp:=[e,it]) (λb o hb e1=>hs2.extBut b o (λq=>hb^by simp[q])^hk b o (λq=>hb^by simp[q]) (λq=>hb^by simp[q]) e1) λb hb=>hf b hb;have I2:=I1.CZ (I.qk (av _) hfr) (o:=.tup [.int i,x]) #[by change 2<=sizeLine;decide,[.int i s.toks,u],.cons #[_,rfl]^.cons ru .nil,#[_,hs2.extBut _ _ (aQ hT1) hT,rfl,_,rfl]];show#[.ref s.heap.objs.size,_,I2,rfl,#[_,x,hx,rfl,hfr,rfl],#[#[_,by simpa using he2],xF.extBut hs2.extBut^aQ hei],λb hb=>?_];rw[bI ?_];show(hf b hb).1
  .erw[aG,iQ,or_false] at hb;rcases hb with h|h<;>rw[h];show hT1;show hT2
 done:=by intro X hP hw hK hc i u5 s σ H E I hf st hg;subst hP hw hK;let#[q1,hge]:=hg;let#[Oc,v1,pl,z1]:=I.list q1;let#[#[old,he],hit]:=st;have e1:=v1.length;show wpAny_pyNext_enum_end (I.ok.hd hc) he hit pl.isList ?_ λh' hx=>#[rfl,?_];erw[lJ];show iO ∅;show I.vY (t':=s.toks) (fp:=[e,it]) (λb o hb e1=>hx b o (λq=>hb^by simp[q]) e1) λb hb=>hf b hb
 self:=λA i s Q E st q=>let⟨old,he⟩:=st.1;wpAny_pyIter_enum he q
def Xn(K:az)(R:It->Hp->Prop):List V->Hp->Prop:=λvs H=>∃a xs,vs=[.ref a]/\bG K H a xs/\R (Ite K a xs) H
def Vh(K:az)(ta:TA):TI:=λσ H R=>ta σ H^Xn K R
def lX{a:Expr}{ta:TA}(hg:Gl X "enumerate")(hm:X.mg "enumerate" = none)(ha:PA X [a] ta)(he:starEach [a] X.env=(false,eval a X.env)::starEach [] X.env)(hpl:(backTo pos^starEach [] X.env).any (·.1)=false):PI X (.Tuple es k tpos) (.Call (.Name "enumerate" p) [a] [] pos)^Vh X.K ta:=by intro u5 s σ H R I h;show wpAny_Call_Name_kw^iA I hg hm BT.C7 ?_;show i6 (c9 (ha pos u5 s σ H _ I h) λus s1 zq=>?_) he hpl;let#[vs,H1,I1,rv,q1]:=zq;let#[pa,xs,rfl,hx,q]:=q1;let#[u,rfl,r1]:=vals1 rv;cases r1;let#[Oc,v1,pl,z1]:=I1.list hx;show call_enumerate_list pl.isList λh' hE hI hsz hk=>?_;have I2:Inv X u5 σ H1 { s1 with heap:=h',toks:=s1.toks }:=I1.kept hk;show wpAny_pyIter_enum hE #[_,_,_,_,H1,rfl,I2,K5^Nat.succ_ne_self _,#[#[_,hE],hI],λb hb=>?_,q];have fr:∀b,s1.heap.objs.size<=b->ig X u5 H1 b:=λb hb=>I1.qk hb^I1.hok.fresh hb;show fr b ?_;erw[aG,iQ,or_false] at hb;rcases hb with h|h<;>rw[h];show lO _ _;show av _
def Od{bs:List Bool}:TruthOf prog w A (λi v=>((bs.map Value.bool).toArray)[i]?=some v) (λi=>bs.getD i false):=by
 intro i v s Q E hP hQ;erw[lJ,aV] at hP;let#[b,hb,rfl]:=cG.mp hP;have e:bs.getD i false=b:=by simp[List.getD,hb]
 have hQ:Q b s:=by have hQ:Q (bs.getD i false) s:=hQ;rwa [e] at hQ
 first|show wpAny_truthy_bool hQ|show aL hQ
theorem IV:∀{bs:List Bool}{us:List Value},Vals (bs.map V.bl) us->us=bs.map Value.bool
 | [],us,h=>by cases h;rfl
 | b::bs,us,h=>by
  cases h with
  | cons r rr =>
   cases r;rw[IV rr];rfl
def range_all(bs:List Bool):(List.range bs.length).all (λi=>bs.getD i false)=bs.all id:=by rw[Bool.eq_iff_iff];erw[List.all_eq_true,f6];constructor;intro h b hb;let#[i,hi,rfl]:=jS.mp hb;have:=h i hi;simpa[List.getD,hi] using this;intro h i hi;have:=h bs[i]^kK hi;simpa[List.getD,hi] using this
def aaU(K:az):List V->Hp->VK->Prop:=λxs H Q=>∃(p:Addr)(bs:List Bool),xs=[.ref p]/\bG K H p^bs.map V.bl/\Q (.bl^bs.all id) H
def K6(hc:X.calm=true):dP X (.builtin "all")^aaU X.K:=by
 intro u5 s σ H xs us Q I r h;let#[p,bs,rfl,hS,q]:=h;let#[u,rfl,ru]:=vals1 r;cases ru;let#[its,rv,pl,hz]:=I.list hS;have e:=IV rv;subst e;have hlt:p<s.heap.objs.size:=by let#[o,ho,_]:=pl.isList;show aH ho
 have W:=Walks.list (prog:=X.prog) (w:=X.w) (A:=X.A.in1) (show X.A.in1.handled=none from I.ok.hd hc) s.heap.objs.size p (aN hlt) (bs.map Value.bool).toArray;show call_all_walk^wpAny_pyIter_list pl.isList #[s.heap.objs.size,_,_,_,_,_,λi=>bs.getD i false,rfl,W,#[#[_,iI _ rfl,rfl,rfl],pl.isList.push _],Od,λh' tk hk=>?_];show#[.bl^bs.all id,H,I.kept λb o e=>hk b o (λz=>aN (aH e)^ay.mp z)^dY _ e,?_,q];change Value.bool _=Value.bool _;rw[aZ,ao,range_all]
mutual
inductive RD (K:az) (H:Hp):V->PyData->Prop
 | eW:RD K H .eW .none
 | bl (b:Bool):RD K H (.bl b)^.bool b
 | int (i:Int):RD K H (.int i)^.int i
 | str (x:Str):RD K H (.str x)^.str x
 | lst {a:Addr} {xs:List V} {ds:List PyData}:bG K H a xs->Gu K H xs ds->RD K H (.ref a)^.list ds
 | tup {a:Addr} {xs:List V} {ds:List PyData}:dJ K H a xs->Gu K H xs ds->RD K H (.ref a)^.tuple ds
inductive Gu (K:az) (H:Hp):List V->List PyData->Prop
 | nil:Gu K H [] []
 | cons {x:V} {d:PyData} {xs:List V} {ds:List PyData}:RD K H x d->Gu K H xs ds->Gu K H (x::xs) (d::ds)
end
section
variable {σ:St}
mutual
theorem RD.reads(I:Inv X u5 σ H s):∀{x:V}{d:PyData}{u:Value},RD X.K H x d->RelV x u->∃as,Reads s.heap u d as
 | _,_,_,.eW,r=>by cases r;show#[[],.none]
 | _,_,_,.bl b,r=>by cases r;show#[[],.bool b]
 | _,_,_,.int i,r=>by let#[t,rfl]:=r;show#[[],.int i t]
 | _,_,_,.str x,r=>by let#[t,rfl]:=r;show#[[],.str x t]
 | _,_,_,.lst h rs,r=>by
  cases r;let#[its,rv,#[o,n,e,hc,hd,hs],z]:=I.list h;let#[as,q]:=Gu.reads I rs rv;show#[_,.list e hc hs^by simpa using q]
 | _,_,_,.tup h rs,r=>by cases r;let#[its,rv,#[o,e,hc,n,hs],z]:=I.tuple h;let#[as,q]:=Gu.reads I rs rv;show#[_,.tuple e hc hs^by simpa using q]
theorem Gu.reads(I:Inv X u5 σ H s):∀{xs:List V}{ds:List PyData}{us:List Value},Gu X.K H xs ds->Vals xs us->∃as,ReadsAll s.heap us ds as
 | _,_,_,.nil,r=>by cases r;show#[[],.nil]
 | _,_,_,.cons h rs,r=>by
  cases r with
  | cons r1 r2 =>
   let#[as,q]:=RD.reads I h r1;let#[bs,q']:=Gu.reads I rs r2;show#[_,.cons q q']
end
end
theorem Gu.ints:∀ns:List Int,Gu K H (ns.map V.int) (ns.map PyData.int)
 | []=>.nil
 | n::ns=>.cons (.int n)^Gu.ints ns
def Sh(k:Nat)(d:PyData):Prop:=d.canLay0=true/\d.depth<=k
theorem Sh.shaped{d:PyData}(h:Sh k d)(hk:k<=64):SeqAt.shaped d=true:=by unfold SeqAt.shaped;rw[h.1,decide_eq_true^bg h.2 hk];rfl
theorem Sh.int(i:Int):Sh k^.int i:=#[rfl,aM _]
theorem Sh.all:∀{ds:List PyData},(∀d∈ds,Sh k d)->PyData.canLayAll0 ds=true/\PyData.depthAll ds<=k
 | [],_=>#[rfl,aM _]
 | d::ds,h=>by have h1:=h d (by simp);have h2:=Sh.all (ds:=ds) λe he=>h e^cM _ he;show#[?_,?_];change(PyData.canLay0 d&&PyData.canLayAll0 ds)=true;rw[h1.1,h2.1];rfl;change max (PyData.depth d)^PyData.depthAll ds<=k;show Nat.max_le.mpr #[h1.2,h2.2]
theorem Sh.list{ds:List PyData}(h:∀d∈ds,Sh k d):Sh (k+1)^.list ds:=#[(Sh.all h).1,Nat.succ_le_succ (Sh.all h).2]
def Sh.ints:Sh (k+1)^.list^ns.map PyData.int:=Sh.list λd hd=>by let#[n,_,rfl]:=aE.mp hd;show .int n
def Sg(K:az):R2:=λx y H Q=>∃d e,RD K H x d/\RD K H y e/\SeqAt.shaped d=true/\SeqAt.shaped e=true/\Q (.bl^PyData.eqv d e) H
def aaV(K:az):R2:=λx y H Q=>∃d e,RD K H x d/\RD K H y e/\SeqAt.shaped d=true/\SeqAt.shaped e=true/\Q (.bl (!PyData.eqv d e)) H
def Oe(hu:X.A.units+64<cLine):nu X (compareOp .Eq)^Sg X.K:=by intro u5 s σ H x y v u Q I rx ry h;let#[d,e,hd,he,sd,se,q]:=h;let#[as,ra]:=hd.reads I rx;let#[bs,rb]:=he.reads I ry;show eq_dataH ra rb sd se hu #[.bl _,H,I,rfl,q]
def Xo(hu:X.A.units+64<cLine):nu X (compareOp .NotEq)^aaV X.K:=by intro u5 s σ H x y v u Q I rx ry h;let#[d,e,hd,he,sd,se,q]:=h;let#[as,ra]:=hd.reads I rx;let#[bs,rb]:=he.reads I ry;show ne_dataH ra rb sd se hu #[.bl _,H,I,rfl,q]
section
variable {nx bk ct:St->Hp->Prop}{σ:St}{P:Bool->Hp->Prop}{t u:TS}
def Xp{x:V}(d:PyData)(k:Nat)(hk:k<=64)(hx:RD K H x d)(hy:RD K H y d)(hs:Sh k d)(h:Q (.bl false) H):aaV K x y H Q:=#[d,d,hx,hy,hs.shaped hk,hs.shaped hk,by rw[SeqAt.eqv_refl d hs.1];show h]
def aaW{p:Addr}{bs:List Bool}(hS:bG K H p^bs.map V.bl)(h:Q (.bl^bs.all id) H):aaU K [.ref p] H Q:=#[p,bs,rfl,hS,h]
def Ag{lo hi:Option Int}(hS:dJ K H a xs)(hw:¬(HT.fz xs.length 0 lo=0/\HT.fz xs.length xs.length hi=xs.length))(h:∀p H',fV H p (.tup^gc xs lo hi) H'->Q (.ref p) H'):aae K (.ref a) lo hi H Q:=#[a,xs,rfl,hS,hw,λp hp=>h p _ #[hp,rfl]]
def af6{tl:TA}(h:tl σ H^Xm K R):aaS K tl σ H R:=h
def IW(hx:K2 t1 K H a xs)(hy:K2 t2 K H b ys)(h:R (Itz K t1 t2 a b xs ys) H):Xm K R [.ref a,.ref b] H:=#[t1,t2,a,b,xs,ys,rfl,hx,hy,h]
def ad9{tl:TA}(h:tl σ H^Xn K R):Vh K tl σ H R:=h
def ajg(hS:bG K H a xs)(h:R (Ite K a xs) H):Xn K R [.ref a] H:=#[a,xs,rfl,hS,h]
theorem xN{tb:TS}(Pv:Nat->St->Hp->Prop)(h0:Pv 0 σ H)(hl:∀i σ H,i<=xs.length->Pv i σ H->bG K H a xs)
  (hs:∀i x p σ H H',xs[i]?=some x->Pv i σ H->fV H p (.tup [.int i,x]) H'->g (.ref p) σ H' λσ2 H2=>tb #[Pv (i+1),rt,nx,Pv (i+1)] σ2 H2)(hd:∀σ H,Pv xs.length σ H->nx σ H):Nc (Ite K a xs) g tb nx rt σ H:=by show#[λi m σ H=>m=xs.length-i/\i<=xs.length/\Pv i σ H,#[xs.length,by simp,aM _,h0],?_];rintro i m σ H ⟨rfl,hi,p⟩;have q:=hl i σ H hi p;by_cases hlt:i<xs.length;show .inr #[#[q,hlt],Pv (i+1),λσ' H' p'=>#[xs.length-(i+1),∅,rfl,hlt,p'],λx H' y=>?_];let#[pa,x',hx,rfl,n]:=y;show hs i x' pa σ H H' hx p n;have e:i=xs.length:=∅;subst e;show .inl #[#[q,av _],hd σ H p]
theorem aaX{tb:TS}(Pv:Nat->St->Hp->Prop)(h0:Pv 0 σ H)(hl:∀i σ H,i<=min xs.length ys.length->Pv i σ H->K2 t1 K H a xs/\K2 t2 K H b ys)
  (hs:∀i x y p σ H H',xs[i]?=some x->ys[i]?=some y->Pv i σ H->fV H p (.tup [x,y]) H'->g (.ref p) σ H' λσ2 H2=>tb #[Pv (i+1),rt,nx,Pv (i+1)] σ2 H2)(hd:∀σ H,Pv (min xs.length ys.length) σ H->nx σ H):Nc (Itz K t1 t2 a b xs ys) g tb nx rt σ H:=by show#[λi m σ H=>m=min xs.length ys.length-i/\i<=min xs.length ys.length/\Pv i σ H,#[min xs.length ys.length,by simp,aM _,h0],?_];rintro i m σ H ⟨rfl,hi,p⟩;have q:=hl i σ H hi p;by_cases hlt:i<min xs.length ys.length;show .inr #[#[q.1,q.2,hlt],Pv (i+1),λσ' H' p'=>#[min xs.length ys.length-(i+1),∅,rfl,hlt,p'],λx H' y=>?_];let#[pa,x',y',hx,hy,rfl,n]:=y;show hs i x' y' pa σ H H' hx hy p n;have e:i=min xs.length ys.length:=∅;rw[e] at p;show .inl #[#[q.1,q.2,∅],hd σ H p]
def Of(J:It)(g:TG)(tt:TT)(te:TE)(τ0:St)(Q:VK)(H:Hp):Prop:=∃W:Nat->Nat->List V->St->Hp->Prop,(∃m,W 0 m [] τ0 H)/\∀i m ys τ H,W i m ys τ H ->
 (J.stop i H/\∀p,H p=none->Q (.ref p)^upd H p^.lst ys)\/(J.go i H/\ys.length<sizeLine/\∃N:List V->St->Hp->Prop,(∀ys' τ' H',N ys' τ' H'->∃m',m'<m/\W (i+1) m' ys' τ' H') /\
  ∀v H',J.Na i H v H'->g v τ H' λτ2 H2=>tt τ2 H2 λb H3=>if b=true then te τ2 H3 λy H4=>N (ys++[y]) τ2 H4 else N ys τ2 H3)
def aea{wi:TI}(h:wi σ H λJ H1=>Of J g tt te (List.replicate k none++cut ix σ) Q H1):Bs wi g tt te ix k σ H Q:=h
theorem Og{τ0:St}(Pv:Nat->List V->St->Hp->Prop)(h0:Pv 0 [] τ0 H)(hl:∀i zs τ H,i<=min xs.length ys.length->Pv i zs τ H->K2 t1 K H a xs/\K2 t2 K H b ys/\zs.length<=i)(hz:xs.length<=1000000)
  (hs:∀i x y p zs τ H H',xs[i]?=some x->ys[i]?=some y->Pv i zs τ H->fV H p (.tup [x,y]) H'->g (.ref p) τ H' λτ2 H2=>tt τ2 H2 λb H3=>if b=true then te τ2 H3 λy H4=>Pv (i+1) (zs++[y]) τ2 H4 else Pv (i+1) zs τ2 H3)
  (hd:∀zs τ H,Pv (min xs.length ys.length) zs τ H->∀p H',fV H p (.lst zs) H'->Q (.ref p) H'):Of (Itz K t1 t2 a b xs ys) g tt te τ0 Q H:=by show#[λi m zs τ H=>m=min xs.length ys.length-i/\i<=min xs.length ys.length/\Pv i zs τ H,#[min xs.length ys.length,by simp,aM _,h0],?_];rintro i m zs τ H ⟨rfl,hi,p⟩;let#[q1,q2,q3]:=hl i zs τ H hi p;by_cases hlt:i<min xs.length ys.length;show .inr #[#[q1,q2,hlt],cC (show zs.length<1000001 by lia)^by decide,Pv (i+1),λzs' τ' H' p'=>#[min xs.length ys.length-(i+1),∅,rfl,hlt,p'],λx H' y=>?_];let#[pa,x',y',hx,hy,rfl,n]:=y;show hs i x' y' pa zs τ H H' hx hy p n;have e:i=min xs.length ys.length:=∅;rw[e] at p;show .inl #[#[q1,q2,∅],λr hr=>hd zs τ H p r _ #[hr,rfl]]
theorem IY{τ0:St}(Pv:Nat->List V->St->Hp->Prop)(h0:Pv 0 [] τ0 H)(hl:∀i zs τ H,i<=xs.length->Pv i zs τ H->bG K H a xs/\zs.length<=i)(hz:xs.length<=1000000)
  (hs:∀i x p zs τ H H',xs[i]?=some x->Pv i zs τ H->fV H p (.tup [.int i,x]) H'->g (.ref p) τ H' λτ2 H2=>tt τ2 H2 λb H3=>if b=true then te τ2 H3 λy H4=>Pv (i+1) (zs++[y]) τ2 H4 else Pv (i+1) zs τ2 H3)
  (hd:∀zs τ H,Pv xs.length zs τ H->∀p H',fV H p (.lst zs) H'->Q (.ref p) H'):Of (Ite K a xs) g tt te τ0 Q H:=by show#[λi m zs τ H=>m=xs.length-i/\i<=xs.length/\Pv i zs τ H,#[xs.length,by simp,aM _,h0],?_];rintro i m zs τ H ⟨rfl,hi,p⟩;let#[q1,q3]:=hl i zs τ H hi p;by_cases hlt:i<xs.length;show .inr #[#[q1,hlt],cC (show zs.length<1000001 by lia)^by decide,Pv (i+1),λzs' τ' H' p'=>#[xs.length-(i+1),∅,rfl,hlt,p'],λx H' y=>?_];let#[pa,x',hx,rfl,n]:=y;show hs i x' pa zs τ H H' hx p n;have e:i=xs.length:=∅;rw[e] at p;show .inl #[#[q1,∅],λr hr=>hd zs τ H p r _ #[hr,rfl]]
end
def pR(w:World)(K:az)(a:Addr)(kvs:List (Key×V)):Prop:=(a==sysModules)=false/\∀(P:Program)(h:Heap),K.In h->∃vs,KV kvs vs/\h.DictOf (bO P w) a vs
noncomputable def entriesOf(w:World):List (Str×Tok×Value)->List DictEntry
 | []=>[]
 | (k,t,v)::r=>{ hash:=PyData.keyHash w.params k,key:=.str k t,val:=v }::entriesOf w r
theorem lY{P:Program}{w:World}:∀(es:List (Str×Tok×Value)),(∀e∈entriesOf w es,∃k,(bO P w).is k e.key=true/\e.hash=(bO P w).hash k)/\Pairs (bO P w) (entriesOf w es) (es.map λe=>(Sum.inr e.1,e.2.2))
 | []=>by
  show#[λe h=>?_,?_];simp[entriesOf] at h;show Pairs.nil
 | (k,t,v)::r=>by let#[h1,h2]:=lY (P:=P) (w:=w) r;show#[λe he=>?_,.cons (nJ P w k t) rfl h2];rcases aG.mp he with q|q;subst q;show#[.inr k,nJ P w k t,rfl];show h1 e q
def pR.mk'{es:List (Str×Tok×Value)}(l:K.lookup a=some #[.type "dict", none,.dict (entriesOf w es).toArray n,#[]])(hd:(a==sysModules)=false)(nd:(es.map (·.1)).Nodup)
  (hv:KV kvs (es.map λe=>((Sum.inr e.1:Key),e.2.2))):pR w K a kvs:=by
 show#[hd,λP h Zf=>#[_,hv,_,_,_,Zf a _ l,#[rfl,rfl,rfl],rfl,?_,?_,?_]];intro e he;show(lY es).1 e (by simpa using he);simpa using(lY (P:=P) (w:=w) es).2
 .have q:((es.map λe=>((Sum.inr e.1:Key),e.2.2)).map (·.1))=(es.map (·.1)).map (λx=>(Sum.inr x:Key)):=by simp[fJ,Function.comp_def]
  rw[q];show jT.mpr^List.Pairwise.imp (λh e=>h^Sum.inr.inj e) nd
section
variable {o i f:Expr}{ty:TE}
def Oh(a:Addr)(kvs:List (Key×V))(td ty:TE):TE:=λσ H Q=>td σ H λx H1=>ty σ H1 λy H2=>∃k v,x=.ref a/\y=kV k/\eG kvs k=some v/\Q v H2
def xO(C:pR X.w X.K a kvs)(ho:PE X o td)(hi:PE X i ty)(hs:NL i):PE X (.Subscript o i pos)^Oh a kvs td ty:=by intro u5 s σ H Q I h;show Bo PySem.F.slot_dict_getitem.lookup hs (c9 (ho u5 s σ H _ I h) λu s1 zq=>?_);let#[x,H1,I1,rx,q1]:=zq;show c9 (hi u5 s1 σ H1 _ I1 q1) λiv s2 zq=>?_;let#[y,H2,I2,ry,k,v,ex,ey,l,q2]:=zq;subst ex ey;obtain rfl:u=Value.ref a:=rx;let#[vs,rel,dd]:=C.2 X.prog s2.heap I2.zB;let#[w',hw,rw']:=pN.some_of (v:=v) (o:=valueAt vs k) (by rw[<- l];show rel.val k);show#[dd.typeIs,wpAny_getItem_of (qT ry) dd.mapOf hw #[v,H2,I2.tok _,rw',q2]]
def IZ(a:Addr)(kvs:List (Key×V))(td ty tx:TE):TE:=λσ H Q=>td σ H λx H1=>x=.ref a/\ty σ H1 λy H2=>tx σ H2 λz H3=>∃k,y=kV k/\Q ((eG kvs k).getD z) H3
def K7(C:pR X.w X.K a kvs)(ho:PE X o td)(he:PE X e ty)(hf:PE X f tx)(m:M2 X o "get" apos e f cpos):PE X (.Call (.Attribute o "get" apos) [e,f] [] cpos)^IZ a kvs td ty tx:=by intro u5 s σ H Q I h;show wpAny_Call_method m.base m.few m.line vS lQ PySem.F.type_dict_get (c9 (ho u5 s σ H _ I h) λu s1 zq=>?_);let#[x,H1,I1,rx,ex,q1]:=zq;subst ex;obtain rfl:u=Value.ref a:=rx;let#[vs,rel,dd]:=C.2 X.prog s1.heap I1.zB;show#[dd.typeIs,λb q=>?_,?_];cases q;let#[ob,_,_,h1,h2,_]:=dd;show#[ob,h1,h2.2.1];rw[m.trees];show sP rfl^Calls.evalArgs_plain^jQ (c9 (he u5 s1 σ H1 _ I1 q1) λiv s2 zq=>?_);let#[y,H2,I2,ry,q2]:=zq;show jQ (c9 (hf u5 s2 σ H2 _ I2 q2) λfv s3 zq=>?_);let#[z,H3,I3,rz,k,ey,q3]:=zq;show lH ?_;subst ey;let#[vs,rel,dd]:=C.2 X.prog s3.heap I3.zB;show call_meetsIn lQ dd.typeIs vR (vQ _ _ _) (meets_dict_get_default (bO X.prog X.w) a (qT ry) C.1 fv) #[_,dd.mapOf,#[_,H3,I3.tok _,(rel.val k).getD rz,q3]]
end
section
variable {nx bk ct:St->Hp->Prop}{σ:St}{ty:TE}
def rDK(a:Addr)(kvs:List (Key×V)):R2:=λx y H Q=>∃k v,x=.ref a/\y=kV k/\eG kvs k=some v/\Q v H
def aeb(h:td σ H λx H1=>ty σ H1 λy H2=>rDK a kvs x y H2 Q):Oh a kvs td ty σ H Q:=h
def aaY(hv:eG kvs^.inr x=some v)(h:Q v H):rDK a kvs (.ref a) (.str x) H Q:=#[.inr x,v,rfl,rfl,hv,h]
def aaZ(kvs:List (Key×V)):V->V->Hp->VK->Prop:=λy z H Q=>∃k,y=kV k/\Q ((eG kvs k).getD z) H
def aa0(h:td σ H λx H1=>x=.ref a/\ty σ H1 λy H2=>tx σ H2 λz H3=>aaZ kvs y z H3 Q):IZ a kvs td ty tx σ H Q:=h
def aji{A:Prop}(h:A):(V.ref a=.ref a/\A):=#[rfl,h]
def ajj{z:V}(hv:(eG kvs^.inr x).getD z=v)(h:Q v H):aaZ kvs (.str x) z H Q:=#[.inr x,rfl,by rw[hv];show h]
end
def eU(K:az)(a:Addr)(xs:List V):Prop:=∀H:Hp,dJ K H a xs
def eU.sq(c:eU K a xs):dJ K H a xs:=c H
def eU.mk'{od:Option Addr}{its:Array Value}{sl:Array^Option Value}(l:K.lookup a=some #[.type "tuple", od,.seq its n,sl])(r:Vals xs its.toList)(hz:its.size<=1000):eU K a xs :=
 λ_=>.inr #[_,its,n,l,rfl,rfl,bg hz^by decide,r]
def iC(e:X.K=K):WO X^WQ K:=e▸b8
def lZ(e:X.K=K):WO X^WR K:=e▸aR
def zF(e:X.K=K):nu X (compareOp .NotIn)^rIn K true:=e▸lU
def mh(e:X.K=K):dP X (.builtin "len")^Xd K:=e▸bN
def Xq(e:X.K=K):dP X (.builtin "isinstance")^Xe K:=e▸o6
def Si(e:X.K=K)(hu:X.A.units+64<cLine):nu X (compareOp .Eq)^Sg K:=e▸Oe hu
def Sj{t:FZ}(e:X.K=K)(hc:X.calm=true)(h:UP X es t)
  (hn:(assignEach es X.env).length=n:=by rfl)(hst:(assignEach es X.env).findIdx? (·.1)=none:=by rfl):PG X (.Tuple es k pos)^Np K n t:=e▸Nq hc h hn hst
def Oi{l:Expr}(e:X.K=K)(hl:PE X l tl):PI X tg l^Nu K tl:=e▸bS hl
def Oj{α:Type}(x:α)(xs:List α):tH (x::xs) 0=some x:=fR (j:=0) rfl
end L2
def BT.Vi:PySem.bootBuiltins "min" = some^.builtin "min":=by decide +kernel
def BT.Ol:PySem.bootBuiltins "max" = some^.builtin "max":=by decide +kernel
namespace L2
variable {i:Int}
section
variable {nx bk ct:St->Hp->Prop}{σ:St}{P:Bool->Hp->Prop}{ty:TE}{t u:TS}
def rDG:R2:=λx y H Q=>∃a v,x=.ref a/\qU H a y^some v/\Q v H
def af8(h:td σ H λx H1=>ty σ H1 λy H2=>rDG x y H2 Q):U6 td ty σ H Q:=h
def qY(hd:H a=some^.dK kvs)(hv:eG kvs^.inr x=some v)(h:Q v H):rDG (.ref a) (.str x) H Q:=#[a,v,rfl,.inl #[kvs,.inr x,.inl hd,rfl,hv.symm],h]
def aa1(hd:H a=some^.dK kvs)(hv:eG kvs^.inl i=some v)(h:Q v H):rDG (.ref a) (.int i) H Q:=#[a,v,rfl,.inl #[kvs,.inl i,.inl hd,rfl,hv.symm],h]
def rDI:R2:=λy x H Q=>∃a o,x=.ref a/\qU H a y o/\Q (.bl o.isSome) H
def aa2:R2:=λy x H Q=>∃a o,x=.ref a/\qU H a y o/\Q (.bl (!o.isSome)) H
def ajl(h:ty σ H λy H1=>td σ H1 λx H2=>rDI y x H2 Q):aaq ty td σ H Q:=h
def af9(h:ty σ H λy H1=>td σ H1 λx H2=>aa2 y x H2 Q):IK ty td σ H Q:=h
def rD2(ty tx:TE)(σ:St)(Q:VK):V->Hp->Prop:=λx H1=>∃a,x=.ref a/\IsD H1 a/\ty σ H1 λy H2=>tx σ H2 λz H3=>∃o,qU H3 a y o/\Q (o.getD z) H3
def aa3(a:Addr):V->V->Hp->VK->Prop:=λy z H3 Q=>∃o,qU H3 a y o/\Q (o.getD z) H3
def aec(h:td σ H^rD2 ty tx σ Q):NT td ty tx σ H Q:=h
def ak2(hd:H a=some^.dK kvs)(h:ty σ H λy H2=>tx σ H2 λz H3=>aa3 a y z H3 Q):rD2 ty tx σ Q (.ref a) H:=#[a,rfl,.inl #[kvs,.inl hd],h]
def ajn{z:V}(hd:H a=some^.dK kvs)(h:Q ((eG kvs^.inl i).getD z) H):aa3 a (.int i) z H Q:=#[_,.inl #[kvs,.inl i,.inl hd,rfl,rfl],h]
def rDP(v x y:V)(H3:Hp)(R:Hp->Prop):Prop:=∃a H4,x=.ref a/\KL H3 a y v H4/\R H4
def aga(h:tv σ H λv H1=>td σ H1 λx H2=>ty σ H2 λy H3=>rDP v x y H3 λH4=>nx σ H4):U7 td ty tv #[nx,rt,bk,ct] σ H:=h
def ajo{R:Hp->Prop}(hd:H a=some^.dK kvs)(hz:kvs.length<1000000)(h:∀H',tR H a (.dK^putK kvs (.inr x) v) H'->R H'):rDP v (.ref a) (.str x) H R:=#[a,_,rfl,.inl #[kvs,.inr x,hd,rfl,cC hz^by decide,rfl],h _ rfl]
def ajp{R:Hp->Prop}(hd:H a=some^.dK kvs)(hz:kvs.length<1000000)(h:∀H',tR H a (.dK^putK kvs (.inl i) v) H'->R H'):rDP v (.ref a) (.int i) H R:=#[a,_,rfl,.inl #[kvs,.inl i,hd,rfl,cC hz^by decide,rfl],h _ rfl]
def agb(h:∀p H',fV H p (.dK []) H'->Q (.ref p) H'):NQ σ H Q:=λp hp=>h p _ #[hp,rfl]
def tT{ys:List V}(ha:dJ K H a xs)(hb:dJ K H b ys)(hx:xs≠[])(hy:ys≠[])(hz:xs.length+ys.length<=1000000)(h:∀p H',fV H p (.tup (xs++ys)) H'->Q (.ref p) H'):U1 K (.ref a) (.ref b) H Q :=
 #[a,b,xs,ys,rfl,rfl,ha,hb,hx,bg hz^by decide,λe=>absurd e hy,λ_ p hp=>h p _ #[hp,rfl]]
def Vj:List V->Hp->VK->Prop:=λxs H Q=>∃i j,xs=[.int i,.int j]/\Q (.int (if j<i then j else i)) H
def xP(hc:X.calm=true):dP X (.builtin "min") Vj:=Kz hc
def agc{j:Int}(h:Q (.int (if j<i then j else i)) H):Vj [.int i,.int j] H Q:=#[i,j,rfl,h]
def Om{i:Nat}{y:Str}{py spos:Pos}{elt iter:Expr}{xs:List Str}{ifs:List Expr}{wi:TI}(hN:X.N.Nodup)(W9:X.N[i]?=some y)(hy:Loc X.env.scope y)
  (O:fS X scope cl xs fr ix)(hi:PI X tg iter wi)(hg:∀C fp s H,PG (sN X (xs++fr) scope cl C fp s H) tg g)
  (ht:∀C fp s H,PF (sN X (xs++fr) scope cl C fp s H) ifs tt)(he:∀C fp s H,PE (sN X (xs++fr) scope cl C fp s H) elt te)
  (hsw:swapsWith (.ListComp elt [#[tg,iter,ifs,0]] scope pos) (some^.Name y py) spos.line X.env=pure true:=by rfl)
  (hs:∀v,foldedSetIterable iter X.env v=pure v:=by walk_at "ir")(hf:X.fn y=true\/X.env.scope.names.lookup y=some .local:=by walk_at "or"):
  PS X (.Assign [.Name y py] (.ListComp elt [#[tg,iter,ifs,0]] scope pos) spos)^C0 (Bs wi g tt te ix xs.length) i:=by
 intro u5 s σ H D I h;rw[exec_Assign_Name_used _ _ _ _ hsw];show au^wpAny_standAt^au ?_;change wpAny _ X.A (do let _ <- comprehension (.ListComp elt [#[tg,iter,ifs,0]] scope pos) scope X.env _ (newList []) false (eval iter X.env) (some^assign (.Name y py) X.env)) _ _ s;show au (wpAny_mono (wpAny_comprehension_free (use:=some^assign (.Name y py) X.env) (Q:=λ_ s'=>SP X u5 D .next s') rfl hs O.clos O.kind O.names
  (c9 (hi u5 s σ H _ I h) λv s1 h1=>c9 h1 λitv s2 h2=>?_)) (λ_ s' hq=>aL^aL hq) λ_ _ e=>e)
 let#[it,fp,tn,J,H2,e,I2,T,st2,f2,W,#[m0,w0],turn]:=h2;subst e;show nO O hg ht he I2 T st2 f2 (λys H=>∀p,H p=none->D.nx (σ.set i^some^.ref p)^upd H p^.lst ys) W m0 w0 turn λL C s' ys H' I' hm fC hD z=>?_;let#[m,hm]:=hm;change wpAny _ X.A (assign (.Name y py) X.env^.ref L) _ _ _;show wpAny_assign_Name^sY I' hN W9 hy (v:=.ref L) rfl (λs'' I'' Nb=>?_) hf;let#[a,Nb,ha]:=Nb;have hCa:C≠a:=by rcases ha with z|z;rw[z];show fC.2.1;show aQ^fC.2.2.2.2.1 _ _ z
 show#[m,hm.sameBut Nb hCa,λh' hs'=>?_];show#[_,_,I''.turned (t':=s''.toks) (it:=C) (λb o hb e=>hs'.extBut b o hb e) fC.1 fC.2.1 fC.2.2.2.1 fC.2.2.2.2.1 fC.2.2.2.2.2,z L hD]
end
theorem aa4{τ:St}(f:V->V)(hS:bG K H a xs)(hz:xs.length<=1000000)(he:∀x∈xs,∀Q:VK,Q (f x) H->te (some x::τ) H Q)(h:∀p H',fV H p (.lst^xs.map f) H'->Q (.ref p) H'):Oa (Rt K a) W4 te τ Q H:=by show fM (xs:=xs) (λi ys H'=>H'=H/\ys=(xs.take i).map f) #[rfl,rfl] ?_ ?_ ?_;rintro i ys H' hi ⟨rfl,_⟩;show hS;rintro i x ys H' hx ⟨rfl,rfl⟩;have hi:i<xs.length:=(e9 hx).1;show#[cC (show((xs.take i).map f).length<1000001 by rw[ao,cu];lia)^by decide,?_];show aaQ^aat ?_;show he x (gq hx) _ #[rfl,?_];rw[bT,hx,bA];rfl;rintro ys H' ⟨rfl,rfl⟩ p H2 n2;rw[bU] at n2;show h p H2 n2
section
variable {nx bk ct:St->Hp->Prop}{σ:St}{P:Bool->Hp->Prop}{ty:TE}{t u:TS}
def Vk(R:It->Hp->Prop):List V->Hp->Prop:=λvs H1=>∃i j:Int,vs=[.int i,.int j]/\(-(2 ^ 62)<=i/\i<2 ^ 62 /\ -(2 ^ 62)<=j/\j<2 ^ 62)/\R (qL i (j-i).toNat) H1
def aa5{tl:TA}{R:It->Hp->Prop}(h:tl σ H^Vk R):US tl σ H R:=h
def agd{j:Int}{R:It->Hp->Prop}(h1:-(2 ^ 62)<=i/\i<2 ^ 62 /\ -(2 ^ 62)<=j/\j<2 ^ 62)(h:R (qL i (j-i).toNat) H):Vk R [.int i,.int j] H:=#[i,j,rfl,h1,h]
end
end L2
namespace ZP
end ZP
def F.gO:PySem.entryFor PySem.table "dict.update.loop" = some PySem.Builtin.«dict.update.loop»:=PySem.entryFor_of_tree (by kernel_rfl)
def F.cT:PySem.plainId "dict.update.loop" = true:=by decide +kernel
namespace L2
noncomputable def jw(ks:Nat->Key)(vs:Nat->V):Nat->List (Key×V)
 | 0=>[]
 | i+1=>putK (jw ks vs i) (ks i)^vs i
theorem qm(ks:Nat->Key)(vs:Nat->V):∀i,(jw ks vs i).length<=i
 | 0=>av _
 | i+1=>by have h1:=nM (jw ks vs i) (ks i)^vs i;have h2:=qm ks vs i;change(putK (jw ks vs i) (ks i)^vs i).length<=i+1;lia
section
variable {vs:Nat->V}{St:Nat->Heap->Prop}
end
section
variable {vs:Nat->V}{St:Nat->Heap->Prop}
end
end L2
namespace ZP
end ZP
namespace L2
section
variable {σ:St}
end
section
variable {nx bk ct:St->Hp->Prop}{σ:St}{P:Bool->Hp->Prop}{ty:TE}{t u:TS}
def ajq{ti:Zg}{x:V}(e:σ[i]?=some^some x)(h:te σ H λy H1=>ti x y H1 λz H2=>iB i z σ H2 nx):WA i te ti #[nx,rt,bk,ct] σ H:=#[x,e,h]
def ajr{f:Int->Int->Int}{i j:Int}(h:Q (.int^f i j) H):ipI f (.int i) (.int j) H Q:=#[i,j,rfl,rfl,h]
end
section
variable {nx bk ct:St->Hp->Prop}{σ:St}{ta:TA}
end
end L2
namespace HT
def pP{t sl:Addr}{items:Array Value}{vl vu:Value}{lo hi:Option Int}{Q:Value->Shared->Prop}(ht:IsTup s.heap t items)(hs:s.heap.IsSliceOf sl vl vu .none)(pl:IsPart vl lo)(pu:IsPart vu hi)
  (hw:fz items.size 0 lo=0/\fz items.size items.size hi=items.size)(h:Q (.ref t) s):wpAny (model prog w) A (getItem (.ref t)^.ref sl) Q E s:=by
 let#[os,hos,hcs,hds]:=id hs;have hTs:s.TypeIs (.ref sl) "slice" := #[os,hos,hcs];unfold getItem
 try with_reducible show wpAny_holding ?_
 first|show au (aL ?_)|skip
 show au^wpAny_sequenceKey ht.typeIs (by decide) ?_;show au (wpAny_callSpecial?_slot (name:=Str.ofString "__getitem__") ht.typeIs vP
  (wpAny_call_entry vP ht.typeIs entry_tuple_getitem ?_^args_tuple_getitem _ _))
 change wpAny _ _ (Builtin.Tuple.tupleItemsOf (.ref t) >>= _) _ _ s;show au^tupleItemsOf_ ht ?_;show au^wpAny_typeOf hTs ?_;rw[if_pos^by decide];show au^kT hs pl pu ?_;have hyes:(((fz items.size 0 lo:Nat):Int)==0&&(1:Int)==1&&(fz items.size items.size hi-fz items.size 0 lo)==items.size)=true:=by rw[hw.1,hw.2];simp
 change wpAny _ _ (if(((fz items.size 0 lo:Nat):Int)==0&&(1:Int)==1&&(fz items.size items.size hi-fz items.size 0 lo)==items.size)=true then _ else _) _ _ s;rw[if_pos hyes];show au ?_;unfold Builtin.Tuple.tupleIsExact;show au^wpAny_typeOf ht.typeIs^aL ?_;rw[if_pos^by decide];show au^wpAny_rule^aL #[_,rfl,aL h]
end HT
namespace L2
section
variable {nx bk ct:St->Hp->Prop}{σ:St}
def Vl(K:az):V->Option Int->Option Int->Hp->VK->Prop:=λx lo hi H Q=>∃a xs,x=.ref a/\dJ K H a xs /\
 ((HT.fz xs.length 0 lo=0/\HT.fz xs.length xs.length hi=xs.length)->Q (.ref a) H)/\(¬(HT.fz xs.length 0 lo=0/\HT.fz xs.length xs.length hi=xs.length)->∀p,H p=none->Q (.ref p)^upd H p^.tup^gc xs lo hi)
def Sk:SlR X^Vl X.K:=by
 intro u5 s σ H x v vl vu lo hi sl Q I rx hs pl pu h;let#[a,xs,rfl,hx,q1,q2]:=h;by_cases hw:HT.fz xs.length 0 lo=0/\HT.fz xs.length xs.length hi=xs.length
 .cases rx;let#[its,r,ht,hz]:=I.tuple hx;have hlen:its.toArray.size=xs.length:=by rw[aZ];show r.length.symm
  show#["tuple", _,PyProof.Rows.slot_tuple_getitem.lookup,ht.typeIs,?_];show HT.pP ht hs pl pu (by rw[hlen];show hw) #[.ref a,H,I,rfl,q1 hw]
 .show lS _ _ _ _ _ _ _ _ _ _ _ _ I rx hs pl pu #[a,xs,rfl,hx,hw,q2 hw]
def Xr{lo hi:Option Int}(hS:H a=some^.tup xs)(h:∀p H',aA H H'->H' p=some^.tup^gc xs lo hi->Q (.ref p) H'):Vl K (.ref a) lo hi H Q:=by
 show#[a,xs,rfl,dJ.of hS,λhw=>h a H (aA.refl _) ?_,λ_ p hp=>?_]
 .have e:gc xs lo hi=xs:=by unfold gc;rw[hw.1,hw.2,List.drop_zero,Nat.sub_zero,bU]
  rw[e];show hS
 .have n:fV H p (.tup^gc xs lo hi)^upd H p^.tup^gc xs lo hi:=#[hp,rfl];show h p _ n.same n.self
def Oo(K:az):R2:=λx y H Q=>∃a b xs ys,x=.ref a/\y=.ref b/\dJ K H a xs/\dJ K H b ys/\xs.length+ys.length<=sizeLine /\
 (xs=[]->Q (.ref b) H)/\(xs≠[]->ys=[]->Q (.ref a) H)/\(xs≠[]->ys≠[]->∀p,H p=none->Q (.ref p)^upd H p^.tup (xs++ys))
def Oq:nu X (binaryOp .Add)^Oo X.K:=by
 intro u5 s σ H x y v u Q I rx ry h;let#[a,b,xs,ys,rfl,rfl,ha,hb,hz,q0,q1,q2]:=h;by_cases hx:xs=[]
 .cases rx;cases ry;let#[its,r1,p1,_]:=I.tuple ha;let#[its2,r2,p2,_]:=I.tuple hb;let#[#[cls,dd,data,sl],ho,hc,n,hd]:=id p1;let#[#[ae8,dd2,data2,sl2],ho2,hc2,n2,hd2]:=id p2;simp only at hc hd hc2 hd2;subst hc hd hc2 hd2;show concat_meets #[_,ho,rfl] #[_,ho2,rfl] noFill_tuple_add seq_tuple_add PySem.F.slot_tuple_add PySem.F.entry_tuple_add (PySem.F.args_tuple_add_2 _ _)
   (tuple_addW0 a b its.toArray its2.toArray n n2 dd dd2 sl sl2^by simp[r1.vV.mpr hx]) #[ho,ho2,#[.ref b,H,I,rfl,q0 hx]]
 .show lT _ _ _ _ _ _ _ _ _ I rx ry #[a,b,xs,ys,rfl,rfl,ha,hb,hx,hz,q1 hx,q2 hx]
def Sl{ys:List V}(ha:H a=some^.tup xs)(hb:H b=some^.tup ys)(hz:xs.length+ys.length<=1000000)(h:∀p H',aA H H'->H' p=some^.tup (xs++ys)->Q (.ref p) H'):Oo K (.ref a) (.ref b) H Q:=by show#[a,b,xs,ys,rfl,rfl,dJ.of ha,dJ.of hb,bg hz^by decide,λe=>h b H (aA.refl _) ?_,λ_ e=>h a H (aA.refl _) ?_,λ_ _ p hp=>?_];rw[e];show hb;rw[e,fH];show ha;have n:fV H p (.tup (xs++ys))^upd H p^.tup (xs++ys):=#[hp,rfl];show h p _ n.same n.self
end
section
variable {nx bk ct:St->Hp->Prop}{σ:St}{t:TA}{fs fs':List (Str×V)}{f:Str}{z:V}{E:XK}
def Xs{i j:Int}(h:Q (.int (i-j)) H):Z9 (.int i) (.int j) H Q:=#[i,j,rfl,rfl,h]
end
section
variable {co si pl mk wd se an st x:V}
end
section
variable {σ:St}{t:TA}
noncomputable def Bt(i:Int)(n:Nat):List V:=(List.range n).map λk:Nat=>V.int (i+(k:Int))
def Ot(i:Int)(n:Nat):(Bt i n).length=n:=by unfold Bt;simp
def C8(ta:TA):TE:=λσ H Q=>ta σ H λvs H1=>∃i j:Int,vs=[.int i,.int j]/\(-(2 ^ 62)<=i/\i<2 ^ 62 /\ -(2 ^ 62)<=j/\j<2 ^ 62)/\(j-i).toNat<=1000000/\∀p,H1 p=none->Q (.ref p)^upd H1 p^.lst^Bt i (j-i).toNat
theorem K8{i:Int}{acc:Array Value}(h:ItemsOf (λk v=>∃t,v=.int (i+(k:Int)*1) t) acc n):Vals (Bt i n) acc.toList:=by
 let#[h1,h2]:=h;have key:∀(l:List Value)(m:Nat),(∀(k:Nat) v,l[k]?=some v->∃t,v=Value.int (i+((m+k:Nat):Int)) t)->Vals ((List.range' m l.length).map λk:Nat=>V.int (i+(k:Int))) l:=by
  intro l;induction l with
  | nil=>intro m _;show .nil
  | cons x l ih =>
   intro m h;rw[ck,List.range'_succ,bR];show .cons ?_ (ih (m+1) λk v hk=>?_);let#[t,e]:=h 0 x rfl;show#[t,by rw[e];rfl];let#[t,e]:=h (k+1) v (by simpa using hk);show#[t,by rw[e,show m+(k+1)=m+1+k by lia]]
 have:=key acc.toList 0 λk v hk=>by let#[t,e]:=h2 k v (by simpa using hk);show#[t,by rw[e,Int.mul_one,Nat.zero_add]]
 unfold Bt;rw[List.range_eq_range'];have hl:acc.toList.length=n:=by rw[dB,h1]
 rw[hl] at this;show this
theorem Bu{a b:Expr}{ta:TA}{p1 p2 p3 p4:Pos}(N5:Gl X "list")(hm1:X.mg "list" = none)(Zj:Gl X "range")(hm2:X.mg "range" = none)(ha:PA X [a,b] ta)(hc:X.calm=true)(hs:starEach [a,b] X.env=[(false,eval a X.env),(false,eval b X.env)])(hs2:starEach [b] X.env=[(false,eval b X.env)])(he1:starEach [Expr.Call (.Name "range" p2) [a,b] [] p3] X.env=[(false,eval (Expr.Call (.Name "range" p2) [a,b] [] p3) X.env)]):
  PE X (.Call (.Name "list" p1) [.Call (.Name "range" p2) [a,b] [] p3] [] p4)^C8 ta:=by
 intro u5 s σ H Q I h;show wpAny_Call_Name_kw^iA I N5 hm1 BT.tM ?_;show i6 ?_ he1 rfl;rw[he1];change wpAny _ _ (spliced [(false,eval (Expr.Call (.Name "range" p2) [a,b] [] p3) X.env)]) _ _ s;show jQ ?_;show Call_^iA I Zj hm2 boot_range^i6 (c9 (ha p3 u5 s σ H _ I h) λus s1 zq=>?_) (by rw[hs,hs2]) (by rw[hs2];rfl);let#[vs,H1,I1,r1,q1]:=zq;let#[i,j,e,#[q1,q2,q3,q4],hn,q]:=q1;subst e;cases r1 with
 | cons r rr =>
  cases rr with
  | cons r' rr =>
   cases rr;let#[t,rfl]:=r;let#[t',rfl]:=r';show call_range_2^lH ?_;have hA:X.A.in1.in1.handled=none:=I1.ok.hd hc;show call_list_range (n:=(j-i).toNat) hA (IsRange.new ..) (small_one q1 q2 q3 q4) (by rw[rangeSize_one];split<;>lia) (bg hn^by decide) λh' tk acc' c' hk hS hacc=>?_;have hk':∀b o,s1.heap.get? b=some o->h'.get? b=some o:=λb o e=>hk b o^dY _ e;show#[.ref _,_,I1.laid (t':=tk) hk' (by rw[fk];show fN _) (o:=.lst^Bt i (j-i).toNat) #[by rw[Ot];show bg hn^by decide,acc'.toList,c',K8 hacc,?_],rfl,q _^I1.hok.fresh (by rw[fk];show fN _)];rw[hS]
def K9(h:t σ H λvs H1=>∃i j:Int,vs=[.int i,.int j]/\(-(2 ^ 62)<=i/\i<2 ^ 62 /\ -(2 ^ 62)<=j/\j<2 ^ 62)/\(j-i).toNat<=1000000/\∀p,H1 p=none->Q (.ref p)^upd H1 p^.lst^Bt i (j-i).toNat):C8 t σ H Q:=h
end
end L2
namespace ZP
def zG:entryFor table "list.__getattribute__" = some Builtin.«object.__getattribute__»:=entryFor_alias (id' := "object.__getattribute__") (by kernel_rfl) (by decide +kernel) (by decide +kernel) (by kernel_rfl)
def Bv:typeLookup (.type "list") "__getattr__" = pure none:=by rw[typeLookup_type,builtinLookup_eq_fast];kernel_rfl
def Bw:typeLookup (.type "list") "keys" = pure none:=by rw[typeLookup_type,builtinLookup_eq_fast];kernel_rfl
def zH(x:Addr)(its:Array Value)(n:Nat)(sl:Array^Option Value)(u:Tok):
  Meets (Builtin.«object.__getattribute__» #[[.ref x,.str "keys" u],[]]) (λA R s=>s.heap.get? x=some { cls:=.type "list", dict:=none,data:=.seq its n,slots:=sl }/\raisesAttr (.ref x) "keys" A R s):=by
 show Meets.of_wp λprog w A R s q=>?_;let#[h0,g0,d0,t0,o0]:=s;let#[hx,q]:=q;have hT:(#[h0,g0,d0,t0,o0]:Shared).TypeIs (.ref x) "list" := #[_,hx,rfl];have hmiss:=Bw;unfold Builtin.«object.__getattribute__»
 repeat (any_goals (first|assumption|wp_step))
 show wpAny_raiseAttrError q.1 q.2 (attrMsg_fits (by decide +kernel)^by size_fits)
def I0{x:Addr}{its:Array Value}{sl:Array^Option Value}{Q:Option Value->Shared->Prop}(hx:s.heap.get? x=some { cls:=.type "list", dict:=none,data:=.seq its n,slots:=sl })(hA:A.handled=none)
  (q:∀h' tk,(∀b o,s.heap.get? b=some o->h'.get? b=some o)->Q none { s with heap:=h',toks:=tk }):wpAny (model prog w) A (getAttr? (.ref x) "keys") Q E s:=by
 let#[h0,g0,d0,t0,o0]:=s;have hT:∀tk',(#[h0,g0,d0,tk',o0]:Shared).TypeIs (.ref x) "list" := λ_=>#[_,hx,rfl];have e1:=sub_AttributeError;have e2:=F.slot_list_getattribute.lookup;have e3:=F.slot_list_getattribute.bind^.ref x;have e4:=Bv;unfold getAttr? getAttrBy? getAttrBy
 repeat (any_goals (first|assumption|show hT _|((with_reducible show wpAny _ _ (call (Value.builtin "list.__getattribute__") _ _) _ _ _);show call_meets F.slot_list_getattribute (hT _) zG (F.args_list_getattribute_2 _ _) (zH x its n sl _) #[hx,hA,λh' tk' e he=>?_])|wp_step))
 let#[t',u',Xu]:=he.there;change wpAny _ _ (getattributeRaised _ _ _ _ _ _ _) _ _ _;unfold getattributeRaised
 repeat (any_goals (first|assumption|wp_step))
 show q _ _ he.keeps
end ZP
namespace L2
theorem Gv{s0:Shared}{its:Array Value}{vs:Nat->V}(hd:d≠it)(hdl:d≠l)(hli:l≠it)(hh:A.in1.handled=none)(hn:n<=sizeLine)(hsz:its.size=n)
  (hp:∀i,i<n->∃(T:Addr)(u v:Value)(o:Obj)(c:Nat),its[i]?=some^.ref T/\s0.heap.get? T=some o/\o.cls=.type "tuple" /\ o.data=.seq #v[u,v] c/\T≠it/\T≠d/\RelV (kV^ks i) u/\RelV (vs i) v)
  (hl:s0.heap.IsList l its)
  (hR:∀h' tk rs,(∀b o,b≠it->b≠d->s0.heap.get? b=some o->h'.get? b=some o)->h'.DictOf (bO prog w) d rs->KV (jw ks vs n) rs->R (.ok^.ret .none) { s0 with heap:=h',toks:=tk }):
  ∀(k i:Nat)(h:Heap)(t:Nat)(rs:List (Key×Value))(c:Tok),n-i=k->i<=n->(∀b o,b≠it->b≠d->s0.heap.get? b=some o->h.get? b=some o)->h.IsListIter it l i->h.DictOf (bO prog w) d rs->KV (jw ks vs i) rs ->
   codeAny (model prog w) A (.builtin "dict.update.loop" #[[.ref d,.ref it,.int i c,.none],[]]) R { s0 with heap:=h,toks:=t }:=by
 have lst:∀h:Heap,(∀b o,b≠it->b≠d->s0.heap.get? b=some o->h.get? b=some o)->h.IsList l its:=λh kp=>let⟨o,q,r⟩:=hl;#[o,kp l o hli (aQ hdl) q,r];intro k;induction k with
 | zero =>
  intro i h t rs c hk hi kp hit dd rel;have e:i=n:=∅;subst e;show codeAny_builtin F.gO ?_;rw[iu F.cT _];change wpAny _ A.in1 (pyNext (.ref it) >>= _) _ _ _;show au (wpAny_pyNext_list_end (s:={ s0 with heap:=h,toks:=t }) hh hit (lst h kp) (uG ∅) λh' k'=>?_);change wpAny _ A.in1 (Builtin.Dict.addKeywords d [] >>= _) _ _ _;show au^aL^aL ?_;show hR h' t rs (λb o b1 b2 q=>k' b o b1^kp b o b1 b2 q) (let⟨o,es,ep,q,r⟩:=dd;#[o,es,ep,k' d o hd q,r]) rel
 | succ k ih =>
  intro i h t rs c hk hi kp hit dd rel;have hlt:i<n:=∅;let#[T,u,v,o,cc,hx,hT,hTc,hTd,n1,n2,ru,rv]:=hp i hlt;show codeAny_builtin F.gO ?_;rw[iu F.cT _];change wpAny _ A.in1 (pyNext (.ref it) >>= _) _ _ _;show au (wpAny_pyNext_list_item (s:={ s0 with heap:=h,toks:=t }) hit (lst h kp) hx λh1 Xv Vm=>?_);have k1:∀b o,b≠it->h.get? b=some o->h1.get? b=some o:=λb o b1 q=>Vm.extBut b o b1 q;have ht:h1.get? T=some o:=k1 T o n1^kp T o n1 n2 hT;have d1:h1.DictOf (bO prog w) d rs:=let⟨o,es,ep,q,r⟩:=dd;#[o,es,ep,k1 d o hd q,r];have tyT:({ s0 with heap:=h1,toks:=t }:Shared).TypeIs (.ref T) "tuple" := #[_,ht,hTc];change wpAny _ A.in1 (holding [Value.ref T] _ >>= _) _ _ _;show au^wpAny_holding ?_;show au^wpAny_tryCatch ?_;unfold Builtin.Dict.pairItems;show au^wpAny_typeOf tyT ?_;change wpAny _ _ (seqItems? (.ref T) >>= _) _ _ _;show au^wpAny_seqItems ht hTd^aL ?_;change wpAny _ _ (holding [u,v]^dictSet d u v) _ _ _;show wpAny_holding (wpAny_dictSet_pairs (hsz:=?_) (qT ru) d1 λh2 d2 sb=>?_);show aL #[plainId_quiet F.cT _,?_];show ih (i+1) h2 _ (stored rs (ks i) v) 0 ∅ hlt (λb o b1 b2 q=>?_) ?_ d2 (rel.put (ks i) rv);show sb.extBut b o b2^k1 b o b1^kp b o b1 b2 q;let#[oi,CJ,ri]:=Xv;show#[oi,sb.extBut it oi (aQ hd) CJ,ri];rw[<- rel.length];show bg (qm ks vs i)^bg (iZ hlt) hn
def Gw{its:Array Value}{vs:Nat->V}{Q:Value->Shared->Prop}(hx:PlainL s.heap l its)(hh:A.in1.in1.handled=none)(hn:n<=sizeLine)(hsz:its.size=n)
  (hp:∀i,i<n->∃(T:Addr)(u v:Value)(o:Obj)(c:Nat),its[i]?=some^.ref T/\s.heap.get? T=some o/\o.cls=.type "tuple" /\ o.data=.seq #v[u,v] c/\RelV (kV^ks i) u/\RelV (vs i) v)
  (q:∀h' tk rs,(∀b o,s.heap.get? b=some o->h'.get? b=some o)->h'.DictOf (bO prog w) s.heap.objs.size rs->KV (jw ks vs n) rs->Q (.ref s.heap.objs.size) { s with heap:=h',toks:=tk }):
  wpAny (model prog w) A (call (.type "dict") [.ref l]) Q E s:=by
 show callType_codes (Q₁:=λx s1=>x=.ref s.heap.objs.size/\s1={ s with heap:=s.heap.push { cls:=.type "dict", data:=.dict #[] } }) F.kt_called_dict (F.kt_typeCall_dict_1 _) F.entry_dict_init (kt_code_dict_new _ #[rfl,rfl]) ?_;rintro _ _ ⟨rfl,rfl⟩;have dd:(s.heap.push { cls:=.type "dict", data:=.dict #[] }).DictOf (bO prog w) s.heap.objs.size []:=Heap.DictOf.new s.heap;have hx1:PlainL (s.heap.push { cls:=.type "dict", data:=.dict #[] }) l its:=hx.keeps λb o e=>dY _ e;show#[dd.typeIs,F.args_dict_init_2 _ _,?_];unfold Builtin.«dict.__init__»;show au ?_;unfold Builtin.Dict.selfAndRest;show au^wpAny_notOrdered_dict dd.typeIs ?_;show aL (a:=(s.heap.objs.size,[Value.ref l])) ?_;change wpAny _ _ (Builtin.Dict.updateFrom "dict.__init__" s.heap.objs.size (.ref l) [] .none) _ _ _;unfold Builtin.Dict.updateFrom;let#[#[cls,dc,da,sl],c,e0,e1,e2,e3]:=hx1;simp only at e1 e2 e3;subst e1 e2 e3;show au^wpAny_typeOf (T := "list") #[_,e0,rfl] ?_;rw[if_pos^by decide];show au (ZP.I0 e0 hh λh1 t1 k1=>?_);change wpAny _ _ (rule _ >>= _) _ _ _;show au^wpAny_rule ?_;have hl1:h1.IsList l its:=#[_,k1 _ _ e0,rfl,c,rfl];show au^wpAny_pyIter_list (s:={ s with heap:=h1,toks:=t1 }) hl1 ?_;show aL #[plainId_quiet F.cT _,?_];have sz:∀b o,s.heap.get? b=some o->b≠s.heap.objs.size:=λb o e=>aN^aH e;have k0:∀b o,s.heap.get? b=some o->h1.get? b=some o:=λb o e=>k1 b o^dY _ e;have k2:∀b o,h1.get? b=some o->(h1.push { cls:=.type "list_iterator", data:=.fields #v[.ref l,.int 0 0] }).get? b=some o:=λb o e=>dY _ e;have Sm:∀b o,h1.get? b=some o->b≠h1.objs.size:=λb o e=>aN^aH e;have dd1:h1.DictOf (bO prog w) s.heap.objs.size []:=let⟨o,es,ep,x,r⟩:=dd;#[o,es,ep,k1 _ _ x,r];have hdi:s.heap.objs.size≠h1.objs.size:=by let#[o,_,_,x,_]:=dd1;show Sm _ _ x
 let#[ol,nl,Nd,_]:=hx;show Gv (s0:={ s with heap:=h1.push { cls:=.type "list_iterator", data:=.fields #v[.ref l,.int 0 0] },toks:=t1 }) (it:=h1.objs.size) (l:=l) (d:=s.heap.objs.size) (its:=its) (n:=n) (ks:=ks) (vs:=vs) hdi (aQ^sz _ _ Nd) (Sm _ _^k0 _ _ Nd) hh hn hsz (λi hi=>?_) (let⟨o,a,r⟩:=hl1;#[o,k2 _ _ a,r]) (λh' tk rs k' d' rel=>?_) _ 0 _ t1 [] 0 rfl (aM _) (λb o _ _ e=>e) #[_,iI _ rfl,rfl,rfl] (let⟨o,es,ep,x,r⟩:=dd1;#[o,es,ep,k2 _ _ x,r]) .nil;let#[T,u,v,o,c,a1,a2,a3,a4,a5,a6]:=hp i hi;show#[T,u,v,o,c,a1,k2 _ _^k0 _ _ a2,a3,a4,Sm _ _^k0 _ _ a2,sz _ _ a2,a5,a6];show#[rfl,q h' tk rs (λb o e=>k' b o (Sm _ _^k0 _ _ e) (sz _ _ e)^k2 _ _^k0 _ _ e) d' rel]
noncomputable def Bx(ps:List (Key×V)):List (Key×V):=jw (λi=>(ps.getD i (.inl 0,.eW)).1) (λi=>(ps.getD i (.inl 0,.eW)).2) ps.length
def xQ(H:Hp):List V->List (Key×V)->Prop:=Paired λu p=>∃t,u=.ref t/\H t=some^.tup [kV p.1,p.2]
def aa6(K:az):List V->Hp->VK->Prop:=λvs H Q=>∃a us ps,vs=[.ref a]/\bG K H a us/\xQ H us ps/\∀p,H p=none->Q (.ref p)^upd H p^.dK^Bx ps
def La:∀{us:List V}{ps:List (Key×V)},xQ H us ps->us.length=ps.length/\∀i,i<ps.length->∃t,us[i]?=some^.ref t/\H t=some^.tup [kV (ps.getD i (.inl 0,.eW)).1,(ps.getD i (.inl 0,.eW)).2]:=by
 intro us ps h;induction h with
 | nil=>show#[rfl,λi h=>absurd h^dU _]
 | cons h t ih =>
  let#[e,k]:=ih;show#[by simp[e],λi hi=>?_];cases i with
  | zero =>
   let#[z,rfl,hz]:=h;show#[z,rfl,hz]
  | succ i=>show k i^Nat.lt_of_succ_lt_succ hi
theorem C9(hc:X.calm=true):dP X (.type "dict")^aa6 X.K:=by
 intro u5 s σ H xs us Q I r h;let#[l,ul,ps,rfl,hS,hP,q]:=h;let#[u,rfl,r1]:=vals1 r;cases r1;let#[its,rv,pl,hz]:=I.list hS;let#[e1,hk]:=La hP;have hA:X.A.in1.in1.handled=none:=I.ok.hd hc;have big:@LT.lt Nat _ sysModules s.heap.objs.size:=I.big;have n6:@Ne Nat s.heap.objs.size sysModules:=∅;have hl:=rv.length;show Gw (n:=ps.length) (ks:=λi=>(ps.getD i (.inl 0,.eW)).1) (vs:=λi=>(ps.getD i (.inl 0,.eW)).2) pl hA ∅ (by rw[aZ];lia) (λi hi=>?_) λh' tk rs k' d' rel=>?_
 .let#[t,ht,htt]:=hk i hi;let#[w,hw,rw']:=rv.get ht;cases rw';let#[its2,rv2,pt,_]:=I.tuple^dJ.of htt;let#[o,ho,hc',n,hd]:=pt;cases rv2 with
  | cons a1 b1 =>
   cases b1 with
   | cons a2 b2 =>
    cases b2;show#[t,_,_,o,n,by simpa using hw,ho,hc',hd,a1,a2]
 .have I3:Inv X u5 σ H { s with heap:=h',toks:=tk }:=I.kept k';have fd:ig X u5 H s.heap.objs.size:=I.qk (av _)^I.hok.fresh^av _;have I4:=I3.CZ fd (o:=.dK^Bx ps) #[bg (qm _ _ _) ∅,beq_eq_false_iff_ne.mpr n6,rs,rel,d'];show#[.ref _,_,I4,rfl,q _ fd.1]
def aa7{us:List V}{ps:List (Key×V)}(hS:bG K H a us)(hP:xQ H us ps)(h:∀p H',fV H p (.dK^Bx ps) H'->Q (.ref p) H'):aa6 K [.ref a] H Q:=#[a,us,ps,rfl,hS,hP,λp hp=>h p _ #[hp,rfl]]
def ajt{x:Int}(hd:H a=some^.dK kvs)(h:Q (.bl (eG kvs^.inl x).isSome) H):rDI (.int x) (.ref a) H Q:=#[a,_,rfl,.inl #[kvs,.inl x,.inl hd,rfl,rfl],h]
theorem nQ(f:Nat->Int):∀n,argBest (λi j=>decide (f i>f j)) n<=n/\∀i,i<=n->f i<=f (argBest (λi j=>decide (f i>f j)) n)
 | 0=>#[av _,λi h=>by rw[Nat.le_zero.mp h];show Int.le_refl _]
 | n+1=>by
  let#[h1,h2]:=nQ f n;by_cases h:f (n+1)>f^argBest (λi j=>decide (f i>f j)) n
  .have e:argBest (λi j=>decide (f i>f j)) (n+1)=n+1:=by erw[argBest];rw[if_pos^decide_eq_true h]
   rw[e];show#[av _,λi hi=>?_];rcases bE i (n+1) with hl|hl
   .have:=h2 i ∅;lia
   .rw[show i=n+1 by lia];show Int.le_refl _
  .have e:argBest (λi j=>decide (f i>f j)) (n+1)=argBest (λi j=>decide (f i>f j)) n:=by erw[argBest];rw[if_neg^by simpa using h]
   rw[e];show#[∅,λi hi=>?_];rcases bE i (n+1) with hl|hl;show h2 i ∅
   .rw[show i=n+1 by lia];lia
theorem Ah:∀{xs:List Int}{its:List Value},Vals (xs.map V.int) its->∃ps:List (Int×Tok),its=ps.map (λp=>.int p.1 p.2)/\ps.map (·.1)=xs
 | [],_,.nil=>#[[],rfl,rfl]
 | x::xs,_,.cons r t=>by let#[u,rfl]:=r;let#[ps,rfl,e]:=Ah t;show#[(x,u)::ps,rfl,by simp[e]]
section
variable {σ:St}
def Xw{x:V}(d e:PyData)(k:Nat)(hk:k<=64)(hx:RD K H x d)(hy:RD K H y e)(hs:Sh k d)(hs':Sh k e)(h:Q (.bl^PyData.eqv d e) H):Sg K x y H Q:=#[d,e,hx,hy,hs.shaped hk,hs'.shaped hk,h]
end
section
variable {σ:St}
end
section
variable {σ:St}
end
def Ou:List V->Hp->VK->Prop:=λxs H Q=>∃a kvs,xs=[.ref a]/\H a=some^.dK kvs/\∀l,H l=none->Q (.ref l)^upd H l^.lst (kvs.map λz=>kV z.1)
def Lb{k:Key}{v:Value}(h:(bO P w).is k v=true):RelV (kV k) v:=by
 rw[FW] at h;cases k with
 | inl i=>show Value.isInt_shape h
 | inr x=>show Value.isStrOf_shape h
def Lc{vs:List (Key×Value)}(r:KV kvs vs):∀{us:List Value},us.length=vs.length->(∀(j:Nat)(v:Value),us[j]?=some v->∃k x,vs[j]?=some (k,x)/\(bO P w).is k v=true)->Vals (kvs.map λz=>kV z.1) us:=by
 induction r with
 | nil =>
  intro us hl _;cases us with
  | nil=>show .nil
  | cons u us=>simp at hl
 | @cons p q kvs vs h _ ih =>
  intro us hl hk;cases us with
  | nil=>simp at hl
  | cons u us =>
   let#[k,x,e,hi]:=hk 0 u rfl;have e':q=(k,x):=by simpa using e
   show .cons ?_ (ih (by simpa using hl) λj v hv=>by
    let#[k,x,e,hi]:=hk (j+1) v (by simpa using hv);show#[k,x,by simpa using e,hi])
   change RelV (kV p.1) u;rw[h.1,e'];show Lb hi
theorem xS(hc:X.calm=true):dP X (.type "list") Ou:=by intro u5 s σ H xs us Q I r h;let#[a,kvs,rfl,ha,q]:=h;let#[u,rfl,ru]:=vals1 r;cases ru;let#[z,hd,vs,rel,dd]:=U5 I.hok ha;let#[ep,da]:=dd.dictAt;have hl:=rel.length;show PySem.W.kdl_call (PySem.W.kdl_dict (knd:=bO X.prog X.w) hd) (I.ok.hd hc) da ∅ λh' tk acc' c' hk hS hacc=>?_;show#[.ref s.heap.objs.size,_,I.laid (t':=tk) hk (av _) (o:=.lst (kvs.map λz=>kV z.1)) #[by rw[ao];show z,acc'.toList,c',?_,?_],rfl,q _^I.hok.fresh^av _];show Lc rel (by rw[dB];show hacc.1) λj v e=>hacc.2 j v (by rw[<- fY];show e);rw[hS,Array.toArray_toList]
def Dc(K:az)(a:Addr)(n:Nat):It :=
 #[λi H=>i<n/\∃xs x,dJ K H a xs/\xs.length=n/\xs[n-1-i]?=some x,λi H x H'=>H'=H/\∀xs,dJ K H a xs->xs[n-1-i]?=some x,λi H=>i=n/\∃xs,dJ K H a xs/\xs.length=n]
theorem Ld(a it:Addr)(n:Nat):Turn P w K tg (Dc K a n) [it] it (λi h=>RV.tP h it a ((n:Int)-1-(i:Nat))) where
 mem:=by simp
 obj:=λi h st b hb=>by
  have e:b=it:=by simpa using hb
  subst e;let#[o,e,c,d]:=st;show#[o,e,λv z=>by rw[d] at z;cases z]
 keep:=λi h h' st k=>st.at λo e=>k it (by simp) o e
 item:=by
  intro X hP hw hK hc i u5 s σ H E I hf st hg;subst hP hw hK;let#[hi,xs,x,hq,hl,hx]:=hg;let#[its,rv,p,hz]:=I.tuple hq;let#[u,hu,ru]:=rv.get hx;let#[f0,f1,f2,f3,f4,f5]:=hf it (by simp);have hlen:=rv.length;have e:(n:Int)-1-(i:Nat)=((n-1-i:Nat):Int):=∅;rw[e] at st;have h62:its.toArray.size<2 ^ 62:=by rw[aZ];show j9 (show its.length<=sizeLine by lia) (by decide)
  show RV.next_item st p (x:=u) (by simpa using hu) h62 λh' tk st' sb=>?_;have I1:Inv X u5 σ H { s with heap:=h',toks:=tk }:=I.turned (t':=tk) (λb o hb e=>(sb.2 b hb).trans e) f0 f1 f3 f4 f5;have e2:((n-1-i:Nat):Int)-1=(n:Int)-1-((i+1:Nat):Int):=∅;rw[e2] at st';let#[o,eo,c,d]:=id st';show#[u,rfl,CP (s:={ s with heap:=h',toks:=tk }) eo c d (by decide) #[x,H,I1,ru,#[rfl,λys hy=>by rw[I.zW hy hq];show hx],st',λb hb=>(hf b hb).1]]
 done:=by intro X hP hw hK hc i u5 s σ H E I hf st hg;subst hP hw hK;let#[hi,xs,hq,hl]:=hg;let#[f0,f1,f2,f3,f4,f5]:=hf it (by simp);have e:(n:Int)-1-(i:Nat) = -1:=∅;rw[e] at st;show RV.next_end (I.ok.hd hc) st λh' eb=>#[rfl,I.turned (t':=s.toks) (λb o hb e=>eb b o hb e) f0 f1 f3 f4 f5]
 self:=λ_ _ _ _ _ st h=>RV.tQ st h
def Vn(K:az)(tl:TE):TI:=λσ H R=>tl σ H λx H1=>∃a xs,x=.ref a/\dJ K H1 a xs/\R (Dc K a xs.length) H1
theorem I9{x:Expr}{p2 p3:Pos}(hg:Gl X "reversed")(hm:X.mg "reversed" = none)(hx:PE X x tx)(hc:X.calm=true)(he:starEach [x] X.env=[(false,eval x X.env)]):
  PI X tg (.Call (.Name "reversed" p2) [x] [] p3)^Vn X.K tx:=by
 intro u5 s σ H R I h;show wpAny_Call_Name_kw^iA I hg hm BT.xD ?_;show i6 ?_ he rfl;rw[he];change wpAny _ _ (spliced [(false,eval x X.env)]) _ _ s;show jQ (c9 (hx u5 s σ H _ I h) λv s1 zq=>?_);let#[y,H1,I1,r1,q1]:=zq;show lH ?_;let#[a,xs,e,hq,q]:=q1;subst e;cases r1;let#[its,rv,pl,hz]:=I1.tuple hq;have hl:=rv.length;have hsz:its.toArray.size<=sizeLine:=by rw[aZ];lia
 have h62:its.toArray.size<2 ^ 62:=j9 hsz (by decide);show RV.qV pl ∅ λtk0=>?_;have st:RV.tP (s1.heap.push^RV.ql a ((its.toArray.size:Int)-1)) s1.heap.objs.size a ((xs.length:Int)-1-((0:Nat):Int)):=#[_,iI _ rfl,rfl,by simp[RV.ql,hl]];show RV.tQ (s:={ s1 with heap:=_,toks:=tk0 }) st ?_;show#[s1.heap.objs.size,[s1.heap.objs.size],_,_,H1,rfl,I1.kept (t':=tk0) λb o e=>dY _ e,Ld a _ xs.length,st,λb hb=>?_,q];have e:b=s1.heap.objs.size:=by simpa using hb
 subst e;show I1.qk (av _)^I1.hok.fresh^av _
section
variable {nx bk ct:St->Hp->Prop}{σ:St}
def aee(hd:H a=some^.dK kvs)(h:∀l H',fV H l (.lst (kvs.map λz=>kV z.1)) H'->Q (.ref l) H'):Ou [.ref a] H Q:=#[a,kvs,rfl,hd,λl hl=>h l _ #[hl,rfl]]
def uL(K:az)(R:It->Hp->Prop):V->Hp->Prop:=λx H1=>∃a xs,x=.ref a/\dJ K H1 a xs/\R (Dc K a xs.length) H1
def agk{R:It->Hp->Prop}(h:tl σ H^uL K R):Vn K tl σ H R:=h
def o8{p:Addr}{R:It->Hp->Prop}(hS:dJ K H p xs)(h:R (Dc K p xs.length) H):uL K R (.ref p) H:=#[p,xs,rfl,hS,h]
theorem Ov{tb:TS}(Pv:Nat->St->Hp->Prop)(h0:Pv 0 σ H)(hl:∀i σ H,i<=xs.length->Pv i σ H->dJ K H a xs)
  (hs:∀i x σ H,xs.reverse[i]?=some x->Pv i σ H->g x σ H λσ2 H2=>tb #[Pv (i+1),rt,nx,Pv (i+1)] σ2 H2)(hd:∀σ H,Pv xs.length σ H->nx σ H):Nc (Dc K a xs.length) g tb nx rt σ H:=by show#[λi m σ H=>m=xs.length-i/\i<=xs.length/\Pv i σ H,#[xs.length,by simp,aM _,h0],?_];rintro i m σ H ⟨rfl,hi,p⟩;have q:=hl i σ H hi p;by_cases hlt:i<xs.length;have hx:xs[xs.length-1-i]?=some (xs[xs.length-1-i]'∅):=fh ∅;show .inr #[#[hlt,xs,_,q,rfl,hx],Pv (i+1),λσ' H' p'=>#[xs.length-(i+1),∅,rfl,hlt,p'],λx H' y=>?_];let#[e,y]:=y;subst e;show hs i x σ H' ?_ p;rw[List.getElem?_reverse hlt];show y xs q;have e:i=xs.length:=∅;subst e;show .inl #[#[rfl,xs,q,rfl],hd σ H p]
end
def Dd(g:TG)(tb:TS)(rt:VK)(br nx:St->Hp->Prop):List V->St->Hp->Prop
 | []=>nx
 | x::xs=>λσ H=>g x σ H λσ2 H2=>tb #[Dd g tb rt br nx xs,rt,br,Dd g tb rt br nx xs] σ2 H2
section
variable {nx:St->Hp->Prop}{σ:St}{tb:TS}
def Ow{x:V}(hx:xs[i]?=some x):Dd g tb rt nx nx^xs.drop i=λσ H=>g x σ H λσ2 H2=>tb #[Dd g tb rt nx nx^xs.drop (i+1),rt,nx,Dd g tb rt nx nx^xs.drop (i+1)] σ2 H2:=by let#[hi,e]:=e9 hx;rw[A3 hi,e];rfl
def tU(C:∀H,dJ K H a xs)(h:Dd g tb rt nx nx xs σ H):Nc (RO K a) g tb nx rt σ H:=by show f_tup (xs:=xs) (λi σ H=>Dd g tb rt nx nx (xs.drop i) σ H) h (λi σ H _ _=>C H) (λi x σ H hx p=>?_) λσ H p=>?_;rw[Ow hx] at p;show p;rw[List.drop_length] at p;show p
def Ja(C:∀H,dJ K H a xs)(h:Dd g tb rt nx nx xs.reverse σ H):Nc (Dc K a xs.length) g tb nx rt σ H:=by show Ov (xs:=xs) (λi σ H=>Dd g tb rt nx nx (xs.reverse.drop i) σ H) h (λi σ H _ _=>C H) (λi x σ H hx p=>?_) λσ H p=>?_;rw[Ow hx] at p;show p;rw[<- kL,List.drop_length] at p;show p
def vZ(hS:dJ K H a [])(h:nx σ H):Nc (Dc K a 0) g tb nx rt σ H:=#[λi m σ' H'=>i=0/\σ'=σ/\H'=H,#[0,rfl,rfl,rfl],λi m σ' H' ⟨e1,e2,e3⟩=>by
 subst e1 e2 e3;show .inl #[#[rfl,[],hS,rfl],h]]
end
section
variable {τ:St}
end
section
variable {nx bk ct:St->Hp->Prop}{σ:St}{t u:TS}
def Jb(t u:TS):TS:=Wy t u
def agl{D:Ends}(h:Jb t u D σ H):Wy t u D σ H:=h
def Xx(h:∀nx':St->Hp->Prop,(∀σ H,u #[nx,rt,λ_ _=>False,λ_ _=>False] σ H->nx' σ H)->t #[nx',rt,λ_ _=>False,λ_ _=>False] σ H):Jb t u #[nx,rt,λ_ _=>False,λ_ _=>False] σ H:=h _ λ_ _ x=>x
def Gx(h:∀nx':St->Hp->Prop,(∀σ H,u #[nx,rt,bk,ct] σ H->nx' σ H)->t #[nx',rt,bk,ct] σ H):Jb t u #[nx,rt,bk,ct] σ H:=h _ λ_ _ x=>x
def Xy(h:∀no bk' ct':St->Hp->Prop,(∀σ H,nx σ H->no σ H)->(∀σ H,bk σ H->bk' σ H)->(∀σ H,ct σ H->ct' σ H)->∀nx':St->Hp->Prop,(∀σ H,u #[no,rt,bk',ct'] σ H->nx' σ H)->t #[nx',rt,bk',ct'] σ H):Jb t u #[nx,rt,bk,ct] σ H:=h _ _ _ (λ_ _ x=>x) (λ_ _ x=>x) (λ_ _ x=>x) _ λ_ _ x=>x
def aa8{c:TT}(h:∀kt kf:Hp->Prop,(∀H,t #[nx,rt,bk,ct] σ H->kt H)->(∀H,u #[nx,rt,bk,ct] σ H->kf H)->c σ H λb H1=>if b=true then kt H1 else kf H1):ZX c t u #[nx,rt,bk,ct] σ H:=h _ _ (λ_ x=>x) λ_ x=>x
end
end L2
namespace SN
open PySem
variable {xs:Array Nat}
theorem Ox(hs:xs.toList.Pairwise (· < ·)):∀(fuel lo hi:Nat),hi-lo<=fuel->lo<=hi->hi<=xs.size->(∀i v,i<lo->xs[i]?=some v->v<j)->(∀i v,hi<=i->xs[i]?=some v->j<=v) ->
  ∀p,SetTable.below.go xs j fuel lo hi=p->p<=xs.size/\(∀i v,i<p->xs[i]?=some v->v<j)/\∀i v,p<=i->xs[i]?=some v->j<=v:=by
 have mono:∀{i k:Nat}{v u:Nat},i<k->xs[i]?=some v->xs[k]?=some u->v<u:=λ{i k v u} hik hi hk=>by rw[<- fY] at hi hk;let#[h1,e1]:=e9 hi;let#[h2,e2]:=e9 hk;rw[<- e1,<- e2];show nI.mp hs i k h1 h2 hik
 intro fuel;induction fuel with
 | zero =>
  intro lo hi hf hlh hsz h1 h2 p e;unfold SetTable.below.go at e;subst e;have:lo=hi:=∅;show#[∅,h1,λi v hi'=>h2 i v ∅]
 | succ fuel ih =>
  intro lo hi hf hlh hsz h1 h2 p e;unfold SetTable.below.go at e;by_cases hlt:lo<hi
  .rw[if_pos hlt] at e;dsimp only at e;have hm:(lo+hi) / 2<xs.size:=∅;have hg:xs[(lo+hi) / 2]?=some xs[(lo+hi) / 2]:=fX hm;have hgd:xs.getD ((lo+hi) / 2) j=xs[(lo+hi) / 2]:=by simp[Array.getD,hm]
   rw[hgd] at e;by_cases hc:xs[(lo+hi) / 2]<j
   .rw[if_pos hc] at e;show ih ((lo+hi) / 2+1) hi ∅ ∅ hsz (λi v hi' hv=>?_) h2 p e;rcases bE i ((lo+hi) / 2) with hl|hg'
    .have:=mono hl hv hg;lia
    .have:i=(lo+hi) / 2:=∅;subst this;rw[hg] at hv;cases hv;show hc
   .rw[if_neg hc] at e;show ih lo ((lo+hi) / 2) ∅ ∅ ∅ h1 (λi v hi' hv=>?_) p e;rcases bE ((lo+hi) / 2) i with hl|hg'
    .have:=mono hl hg hv;lia
    .have:i=(lo+hi) / 2:=∅;subst this;rw[hg] at hv;cases hv;lia
  .rw[if_neg hlt] at e;subst e;show#[∅,h1,λi v hi'=>h2 i v ∅]
theorem mq(hs:xs.toList.Pairwise (· < ·))(j:Nat):SetTable.below xs j<=xs.size/\(∀i v,i<SetTable.below xs j->xs[i]?=some v->v<j)/\∀i v,SetTable.below xs j<=i->xs[i]?=some v->j<=v :=
 Ox hs xs.size 0 xs.size ∅ ∅ (av _) (λi v h=>absurd h^dU _) (λi v h hv=>by
  have:=(nD.mp hv).1;lia) _ rfl
theorem Gy(hs:xs.toList.Pairwise (· < ·)):SetTable.below xs 0=0:=by let#[h1,h2,_]:=mq hs 0;rcases lN^SetTable.below xs 0 with e|hp;show e;have:=h2 0 xs[0] hp (fX ∅);lia
theorem Gz(hs:xs.toList.Pairwise (· < ·)){v:Nat}(hv:xs[i]?=some v):SetTable.below xs (v+1)=i+1:=by
 let#[h1,h2,h3]:=mq hs (v+1);have hi:=(nD.mp hv).1;have mono:∀{i k:Nat}{v u:Nat},i<k->xs[i]?=some v->xs[k]?=some u->v<u:=λ{i k v u} hik hi hk=>by rw[<- fY] at hi hk;let#[h1,e1]:=e9 hi;let#[h2,e2]:=e9 hk;rw[<- e1,<- e2];show nI.mp hs i k h1 h2 hik
 rcases oW (SetTable.below xs (v+1)) (i+1) with hl|he|hg;have:=h3 i v ∅ hv;lia;show he;have hk:i+1<xs.size:=∅;have hu:=fX hk;have h4:=h2 (i+1) _ hg hu;have h5:=mono (i0 i) hv hu;lia
theorem pS(hs:xs.toList.Pairwise (· < ·))(hj:∀(i:Nat)(v:Nat),xs[i]?=some v->v≠j):(SetTable.insertAt xs (SetTable.below xs j) j).toList.Pairwise (· < ·):=by
 let#[h1,h2,h3]:=mq hs j;rw[SetTable.toList_insertAt];have hmt:∀v∈xs.toList.take^SetTable.below xs j,v<j:=λv hv=>by
  let#[i,hi]:=gG.mp hv;have hlt:i<SetTable.below xs j:=by have:=(e9 hi).1;rw[cu] at this;lia
  rw[sV hlt,fY] at hi;show h2 i v hlt hi
 have hmd:∀v∈xs.toList.drop^SetTable.below xs j,j<v:=λv hv=>by let#[i,hi]:=gG.mp hv;rw[nG,fY] at hi;have h4:=h3 _ v (lO _ _) hi;have h5:=hj _ v hi;lia
 rw[List.pairwise_append];show#[hs.sublist (List.take_sublist ..),?_,λa ha b hb=>?_];rw[qh];show#[hmd,hs.sublist (List.drop_sublist ..)]
 .have:=hmt a ha;rcases aG.mp hb with e|hb;lia
  .have:=hmd b hb;lia
end SN
namespace SG
open PySem
variable {es:Array (Int×Value)}{t:SetTable}{tp:Addr}{o:Obj}{Q:Value->Shared->Prop}{ys:List Nat}
structure Tab (led:Bool) (es:Array (Int×Value)) (t:SetTable):Prop where
 led:t.led=led
 Le:t.dummies=#[]
 up:t.place.toList.Pairwise (· < ·)
 fits:t.fits es.size=true
def Tab.sz(T:Tab led es t):t.place.size=es.size:=by have:=T.fits;unfold SetTable.fits at this;erw[zU,beq_iff_eq] at this;show this.1
def qZ(h:t.dummies=#[])(j:Nat):SetTable.has t.dummies j=false:=by unfold SetTable.has;rw[h];simp
theorem qo(hs:t.place.toList.Pairwise (· < ·))(h:t.slot j=.empty):∀(i:Nat)(v:Nat),t.place[i]?=some v->v≠j:=by
 intro i v hv e;subst e;let#[h1,h2,h3]:=SN.mq hs v;have hi:SetTable.below t.place v<=i:=by rcases bE i^SetTable.below t.place v with hl|hg;show absurd (h2 i v hl hv)^eV _;show hg
 have hlt:=(nD.mp hv).1;have hb:SetTable.below t.place v<t.place.size:=j9 hi hlt;have hg:=fX hb;have h4:=h3 _ _ (av _) hg;have hi2:SetTable.below t.place v=i:=by rcases bE (SetTable.below t.place v) i with hl|hge;rw[<- fY] at hv hg;let#[a1,e1]:=e9 hg;let#[a2,e2]:=e9 hv;have:=nI.mp hs _ _ a1 a2 hl;rw[e1,e2] at this;lia;lia
 unfold SetTable.slot at h;dsimp only at h;rw[hi2,hv] at h;simp at h
def De(hd:t.dummies=#[])(f:Nat->Int)(x:Int):∀(fuel:Nat)(p:SetTable.Probe)(j:Nat)(dm:Option Nat),p.dummy=none->SetTable.probe.go t f x fuel p=some^.empty j dm->dm=none/\t.slot j=.empty:=by
 intro fuel;induction fuel with
 | zero=>intro p j dm _ h;cases h
 | succ fuel ih =>
  intro p j dm hp h;have adv:(t.advance p).dummy=none:=by unfold SetTable.advance;split<;>show hp
  unfold SetTable.probe.go at h;cases hs:t.slot p.j with
  | empty =>
   rw[hs] at h;cases h;show#[hp,hs]
  | dummy =>
   exfalso;unfold SetTable.slot at hs;dsimp only at hs;rw[qZ hd] at hs;split at hs<;>cases hs
  | live i =>
   rw[hs] at h;dsimp only at h;split at h;cases h;show ih _ j dm adv h
def Lf(hd:t.dummies=#[]){x:Int}{b:Bool}(h:t.freeSlot x=some (j,b)):b=false/\t.slot j=.empty:=by
 unfold SetTable.freeSlot at h;cases e:t.probe (λ_=>x+1) x^t.probeStart x with
 | none=>rw[e] at h;cases h
 | some m =>
  cases m with
  | candidate _ _ _=>rw[e] at h;cases h
  | empty k dm =>
   rw[e] at h;let#[rfl,h2]:=De hd _ _ _ _ k dm rfl e;cases h;show#[rfl,h2]
def rf(n:Nat):(Array.range n).toList.Pairwise (· < ·):=by rw[Array.toList_range];show A6
def Tab.lay(T:Tab led es t)(h:Int)(x:Value):
  ∃es1 t1 gv,layNew t es h x=(es1,t1,false,gv)/\Tab led es1 t1/\es1.toList.Perm (es.toList++[(h,x)]):=by
 have hp:=layNew_perm t es h x;have hf:=layNew_fits t es h x;rw[Array.toList_push] at hp;cases e:t.freeSlot h with
 | none =>
  have el:layNew t es h x=(es.push (h,x),t.standIn (es.size+1),false,true):=by unfold layNew;rw[e]
  rw[el] at hp hf;show#[_,_,_,el,#[T.led,rfl,rf _,hf],hp]
 | some q =>
  let#[j,b]:=q;let#[rfl,hs]:=Lf T.Le e;have rg:t.put j=({ t with place:=SetTable.insertAt t.place (SetTable.below t.place j) j },SetTable.below t.place j):=by unfold SetTable.put;rw[qZ T.Le];rfl
  have el:layNew t es h x=(SetTable.insertAt es (SetTable.below t.place j) (h,x),({ t with place:=SetTable.insertAt t.place (SetTable.below t.place j) j }:SetTable).orStandIn (SetTable.insertAt es (SetTable.below t.place j) (h,x)).size,false,!({ t with place:=SetTable.insertAt t.place (SetTable.below t.place j) j }:SetTable).fits (SetTable.insertAt es (SetTable.below t.place j) (h,x)).size):=by unfold layNew;rw[e];dsimp only;rw[rg]
  rw[el] at hp hf;dsimp only at hp hf;show#[_,_,_,el,#[?_,?_,?_,hf],hp];unfold SetTable.orStandIn;split<;>show T.led;unfold SetTable.orStandIn;split;show T.Le;rfl;unfold SetTable.orStandIn;split;show SN.pS T.up^qo T.up hs;show rf _
def Tab.aa9(T:Tab led es t)(n:Nat):
    ∃es1 t1 gv,relayAll t es n=(es1,t1,gv)/\Tab led es1 t1/\es1.toList.Perm es.toList:=by
  have hp:=relayAll_perm t es n;have hf:=relayAll_fits t es n;generalize hR:relayAll t es n=R at hp hf;let#[es1,t1,gv]:=R;dsimp only at hp hf;show#[es1,t1,gv,rfl,#[?_,?_,?_,hf],hp]<;>clear hp hf<;>unfold relayAll at hR<;>cases e:t.relaid (es.map (·.1)) n with
  | none =>
    rw[e] at hR;cases hR
    first|show T.led|rfl|show rf _
  | some q =>
    let#[t',od]:=q;rw[e] at hR;dsimp only at hR;split at hR
    · obtain⟨rfl,rfl,_⟩:_/\_/\_:=by simpa only[Prod.mk.injEq] using hR
      unfold SetTable.relaid SetTable.laid at e;cases e2:SetTable.layClean (SetTable.sizeAbove n-1)^es.map (·.1) with
      | none=>rw[e2] at e;cases e
      | some ow =>
        rw[e2] at e;cases e
        first
          | show T.led
          | rfl
          | (rw[List.toList_toArray,jT]
             show List.Pairwise.filterMap _ (λa b hab x hx y hy=>?_)^A6 (n:=SetTable.sizeAbove n-1+1);let#[_,_,rfl]:=cG.mp hx;let#[_,_,rfl]:=cG.mp hy;show hab)
    · cases hR
      first|show T.led|rfl|show rf _
open PySem.Spec PyProof.Rows
noncomputable def cP(w:World):Bool:=w.params.followText "set-order"
def Sn:entryFor table "set.__iter__" = some Builtin.«frozenset.__iter__»:=entryFor_alias (id' := "frozenset.__iter__") (by kernel_rfl) rfl (by decide +kernel) (by kernel_rfl)
def gP:Slot "set_iterator" "__next__" "set_iterator.__next__" := .of (owner := "set_iterator") (n := "__next__") (by rw[typeLookup_type,builtinLookup_eq_fast];kernel_rfl) (by decide +kernel) (by decide +kernel) (by decide +kernel) (by first|show .inl (by decide +kernel)|show .inr^by decide +kernel) (by rw[isSubtype_type];kernel_rfl)
def v5:entryFor table "set_iterator.__next__" = some Builtin.«set_iterator.__next__»:=entryFor_of_tree (by kernel_rfl)
def v7(a:Value):argsOk "set_iterator.__next__" #[[a],[]]:=by unfold argsOk;kernel_rfl
def v8:Slot "set_iterator" "__iter__" "set_iterator.__iter__" := .of (owner := "set_iterator") (n := "__iter__") (by rw[typeLookup_type,builtinLookup_eq_fast];kernel_rfl) (by decide +kernel) (by decide +kernel) (by decide +kernel) (by first|show .inl (by decide +kernel)|show .inr^by decide +kernel) (by rw[isSubtype_type];kernel_rfl)
def Jc:entryFor table "set_iterator.__iter__" = some Builtin.«dict_keyiterator.__iter__»:=entryFor_alias (id' := "dict_keyiterator.__iter__") (by kernel_rfl) rfl (by decide +kernel) (by kernel_rfl)
def Jd(a:Value):argsOk "set_iterator.__iter__" #[[a],[]]:=by unfold argsOk;kernel_rfl
noncomputable def ord(w:World)(a:Addr)(es:Array (Int×Value))(ep:Nat):Array (Int×Value):=if cP w=true then pickOrder (w.params.setOrder a ep) es else es
theorem qp{α:Type}:∀(l:List α)(i:Nat)(h:i<l.length),(l[i]::l.eraseIdx i).Perm l
 | x::l,0,_=>qd _
 | x::l,i+1,h=>by
  have hi:i<l.length:=by simpa using h
  erw[List.getElem_cons_succ,List.eraseIdx_cons_succ];show(List.Perm.swap x l[i] _).trans^(qp l i hi).cons x
theorem Ai{α:Type}(nx:Nat->Nat):∀(fuel k:Nat)(left:List α)(out:Array α),left.length<=fuel->(pickOrder.go nx fuel k left out).toList.Perm (out.toList++left)
 | 0,k,left,out,h=>by
  unfold pickOrder.go;rw[List.eq_nil_of_length_eq_zero^Nat.le_zero.mp h,fH]
 | fuel+1,k,left,out,h=>by
  unfold pickOrder.go;cases e:left[nx k % left.length]? with
  | none =>
   dsimp only;have:left=[]:=by
    cases left with
    | nil=>rfl
    | cons x l =>
     have hlt:nx k % (x::l).length<(x::l).length:=Nat.mod_lt _^Nat.zero_lt_succ _;rw[fh hlt] at e;cases e
   rw[this,fH]
  | some x =>
   dsimp only;let#[hlt,ex]:=e9 e;have hl:(left.eraseIdx (nx k % left.length)).length<=fuel:=by rw[List.length_eraseIdx_of_lt hlt];lia
   show(Ai nx fuel (k+1) _ (out.push x) hl).trans ?_;rw[Array.toList_push,jq];show List.Perm.append_left _ ?_;have:=qp left _ hlt;rw[ex] at this;show this
def Oz(w:World)(a:Addr)(es:Array (Int×Value))(ep:Nat):(ord w a es ep).toList.Perm es.toList:=by unfold ord;split;unfold pickOrder;have:=Ai (w.params.setOrder a ep) es.size 0 es.toList #[] (by simp);simpa using this;show qd _
def zI{M:Model}{src:Source}{Q:Nat->Shared->Prop}(hn:n≠0)(h:∀i,i<n->Q i { s with drawn:=s.drawn.bump src }):wpAny M A (choose src n) Q E s :=
 λ_ _ _=>#[hn,h _^Nat.mod_lt _^Nat.pos_of_ne_zero hn]
theorem xT{M:Model}{A:Around}{E:Value->Shared->Prop}{α:Type}:∀(n:Nat)(xs:List α)(s:Shared)(Q:List α->Shared->Prop),xs.length<=n->(∀ys d',ys.Perm xs->Q ys { s with drawn:=d' })->wpAny M A (drawOrder n xs) Q E s
 | 0,xs,s,Q,hn,h=>by
  have:xs=[]:=List.eq_nil_of_length_eq_zero^Nat.le_zero.mp hn;subst this;show aL^h [] s.drawn^qd _
 | n+1,[],s,Q,hn,h=>aL^h [] s.drawn^qd _
 | n+1,x::xs,s,Q,hn,h=>by
  unfold drawOrder;show au (zI (by simp) λi hi=>?_);have e:(x::xs)[i]?=some (x::xs)[i]:=fh hi;rw[e];dsimp only;have hl:((x::xs).eraseIdx i).length<=n:=by rw[List.length_eraseIdx_of_lt hi];erw[ck] at hn ⊢;lia
  show au (xT n _ _ _ hl λys d' hp=>aL ?_);show h _ d'^(hp.cons _).trans^qp _ i hi
def Still(w:World)(es:Array (Int×Value))(t:SetTable):Prop:=cP w=true\/t.plain=true\/es.size<=1
def Lg(w:World)(a:Addr)(o:Obj)(es:Array (Int×Value))(ep:Nat)(t:SetTable)(it:Addr)(i:Nat)(h:Heap):Prop :=
 h.get? a=some o/\∃oi sl,h.get? it=some oi/\oi.cls=.type "set_iterator" /\ oi.data=.fields #v[.int ((sl:Nat):Int) 0,.int ((i:Nat):Int) 0,.ref a,.int ((es.size:Nat):Int) 0,.int ((ep:Nat):Int) 0]/\(cP w=false->SetTable.below t.place sl=i)
def Lg.ty(h:Lg w a o es ep t it i s.heap):s.TypeIs (.ref it) "set_iterator" := by let#[_,oi,sl,h1,h2,_]:=h;show#[oi,h1,h2]
theorem Je{sl:Nat}{Q:Option (Value×Nat)->Shared->Prop}(ho:s.heap.get? a=some o)(hd:o.data=.set es ep t)(T:Tab (!cP w) es t)(hst:Still w es t)(hb:cP w=false->SetTable.below t.place sl=i)
  (h:∀Rr,(∀e,(ord w a es ep)[i]?=some e->cP w=false->SetTable.below t.place Rr=i+1)->Q ((ord w a es ep)[i]?.map λe=>(e.2,Rr)) s):wpAny (model prog w) A (setNext a sl i ep) Q E s:=by
 unfold setNext;show au^wpAny_setState_of ho hd T.fits ?_;dsimp only;unfold setsByText;show au^au^wpAny_askSetting^aL ?_;change wpAny _ _ (if cP w=true then _ else _) _ _ _;cases hx:cP w with
 | true =>
  rw[if_pos rfl];erw[bne_self_eq_false,cB,if_false];show au ?_;unfold setWalk;show au^wpAny_setState_of ho hd T.fits ?_;dsimp only;unfold setsByText;show au^au^wpAny_askSetting^aL ?_;change wpAny _ _ (if cP w=true then _ else _) _ _ _;rw[if_pos hx];show au^wpAny_askSetting^aL^aL ?_;have:=h sl (λe _ z=>by rw[hx] at z;cases z);unfold ord at this;rw[if_pos hx] at this;show this
 | false =>
  rw[if_neg^by decide];have aba:t.led=true:=by rw[T.led,hx];rfl
  have hz:=T.sz;have hup:=T.up;have hb':=hb hx;have ho':ord w a es ep=es:=by unfold ord;rw[hx];rfl
  rw[ho'] at h;have hdr:(!t.plain&&decide (es.size>1))=false:=by rcases hst with e|e|e;rw[hx] at e;cases e;rw[e];rfl;have:decide (es.size>1)=false:=decide_eq_false ∅;rw[this,Bool.and_false]
  clear T hb ho hd hst;let#[mask,place,dummies,finger,led,moves,plain]:=t;dsimp only at aba hz hup hb' h hdr;subst aba;change wpAny _ _ (if(!plain&&decide (es.size>1))=true then _ else _) _ _ _;rw[if_neg (by rw[hdr];decide)];show au^wpAny_of_eq (a:=()) rfl ?_;dsimp only;rw[hb'];rcases bE i es.size with hlt|hge
  .have e1:es[i]?=some es[i]:=fX hlt;have e2:place[i]?=some place[i]:=fX ∅;rw[e1,e2];show aL ?_;have:=h (place[i]+1) (λ_ _ _=>SN.Gz hup e2);rw[e1] at this;show this
  .have e1:es[i]?=none:=uG hge;rw[e1];show aL ?_;have:=h 0 (λe z=>by rw[e1] at z;cases z);rw[e1] at this;show this
def So{e:Int×Value}{Q:Option Value->Shared->Prop}(hne:a≠it)(hd:o.data=.set es ep t)(T:Tab (!cP w) es t)(hst:Still w es t)
  (I:Lg w a o es ep t it i s.heap)(hi:(ord w a es ep)[i]?=some e)(hQ:∀h',Lg w a o es ep t it (i+1) h'->(∀b x,b≠it->s.heap.get? b=some x->h'.get? b=some x)->Q (some e.2) { s with heap:=h' }):wpAny (model prog w) A (pyNext^.ref it) Q E s:=by
 have ty:=I.ty;let#[ho,oi,sl,CJ,hc,hf,hb]:=I;unfold pyNext;show au^wpAny_attempt^wpAny_callSpecial?_slot (name:=Str.ofString "__next__") ty gP^wpAny_call_entry gP ty v5 ?_^v7 _;unfold Builtin.«set_iterator.__next__»;show au^wpAny_of_eq (a:=(Value.ref it,[])) rfl ?_;show au^wpAny_fieldsOf CJ hf ?_;dsimp only;show au^wpAny_setEntries_of ho hd T.fits ?_;rw[if_neg^by simp];rw[show((sl:Nat):Int).toNat=sl from rfl,show((i:Nat):Int).toNat=i from rfl,show((ep:Nat):Int).toNat=ep from rfl];show au (Je ho hd T hst hb λRr hb'=>?_);rw[hi];change wpAny _ _ (do setField (.ref it) 0^rawInt Rr;setField (.ref it) 1^rawInt ((i:Int)+1);ret e.2) _ _ s;have g1:=fj (Obj.mapFields (·.setIfInBounds 0 (rawInt Rr))) CJ^jz^eB hf _;have d1:=eB hf (·.setIfInBounds 0 (rawInt Rr));show au^wpAny_setField CJ hf (by simp)^au^wpAny_setField g1 d1 (by simp)^aL #[_,rfl,aL (hQ _ ?_ λb x hb e=>?_)]
 .have hk:∀(f g:Obj->Obj)(b:Addr)(x:Obj),b≠it->s.heap.get? b=some x->((s.heap.update it f).update it g).get? b=some x:=λf g b x hb e=>by rw[gS _ _ _ _ hb,gS _ _ _ _ hb];show e
  show#[hk _ _ _ _ hne ho,_,Rr,fj _ g1^jz^eB d1 _,(lP ..).trans^(lP ..).trans hc,?_,λhx=>hb' e hi hx];rw[eB d1];simp[rawInt]
 .rw[gS _ _ _ _ hb,gS _ _ _ _ hb];show e
def Xz{Q:Option Value->Shared->Prop}(hh:A.handled=none)(hne:a≠it)(hd:o.data=.set es ep t)(T:Tab (!cP w) es t)(hst:Still w es t)
  (I:Lg w a o es ep t it i s.heap)(hi:(ord w a es ep)[i]?=none)(hQ:∀h',(∀b x,b≠it->s.heap.get? b=some x->h'.get? b=some x)->Q none { s with heap:=h' }):wpAny (model prog w) A (pyNext^.ref it) Q E s:=by have ty:=I.ty;let#[ho,oi,sl,CJ,hc,hf,hb]:=I;unfold pyNext;show au^wpAny_attempt^wpAny_callSpecial?_slot (name:=Str.ofString "__next__") ty gP^wpAny_call_entry gP ty v5 ?_^v7 _;unfold Builtin.«set_iterator.__next__»;show au^wpAny_of_eq (a:=(Value.ref it,[])) rfl ?_;show au^wpAny_fieldsOf CJ hf ?_;dsimp only;show au^wpAny_setEntries_of ho hd T.fits ?_;rw[if_neg^by simp];rw[show((sl:Nat):Int).toNat=sl from rfl,show((i:Nat):Int).toNat=i from rfl,show((ep:Nat):Int).toNat=ep from rfl];show au (Je ho hd T hst hb λRr hb'=>?_);rw[hi];change wpAny _ _ (do setField (.ref it) 2 .none;raiseNew (<- newExc (.type "StopIteration") [])) _ _ s;show au^wpAny_setField CJ hf (by simp)^au ?_;erw[newExc,newTuple];show au (wpAny_newObj_type (au (m:=firstArgMember _ _)^wpAny_of_eq (a:=Value.none) (by first|rfl|(erw[firstArgMember];rfl))^wpAny_newObj_type ?_^by size_fits)^by size_fits);erw[raiseNew];show au^wpAny_handled ?_;rw[show A.in1.handled=none from hh];show au^aL^wpAny_throw ?go;show au^wpAny_isInstance (T := "StopIteration") (b:=true) (#[_,iI _ rfl,rfl]) isSubtype_stop ?_;show aL (hQ _ λb x hb e=>?_);show dY _^dY _ (by rw[gS _ _ _ _ hb];show e)
def Lh(hh:A.handled=none)(hne:a≠it)(hd:o.data=.set es ep t)(T:Tab (!cP w) es t)(hst:Still w es t):
  Walks prog w A it [it,a] [it] (ord w a es ep).size (λi v=>∃e,(ord w a es ep)[i]?=some e/\v=e.2) (λi h=>Lg w a o es ep t it i h) where
 sub:=λb hb=>by simp at hb;simp[hb]
 frame:=λi h h' st hk=>by let#[h1,oi,sl,h2,r]:=st;show#[hk a (by simp) o h1,oi,sl,hk it (by simp) oi h2,r]
 item:=λi s Q E hi st hQ=>So hne hd T hst st (fX hi) λh' st' hk=>hQ _ h' s.toks #[_,fX hi,rfl] st' λb x hb e=>hk b x (λz=>hb^by simp[z]) e
 done:=λs Q E st hQ=>Xz hh hne hd T hst st (uG^av _) λh' hk=>hQ h' s.toks λb x hb e=>hk b x (λz=>hb^by simp[z]) e
 self:=λi s Q E st hQ=>by have ty:=st.ty;show wpAny_pyIter_slot ty v8^wpAny_call_entry v8 ty Jc ?_^Jd _;change wpAny _ _ (ret^.ref it) _ _ s;show aL #[_,rfl, "set_iterator", _,ty,gP.lookup,hQ]
def Li(a:Addr)(o:Obj)(es:Array (Int×Value))(ep:Nat)(tp:Addr)(ys:List Nat)(it:Addr)(i:Nat)(h:Heap):Prop :=
 h.get? a=some o/\(∃ot n,h.get? tp=some ot/\ot.data=.seq (ys.map λ(j:Nat)=>rawInt j).toArray n)/\∃oi,h.get? it=some oi/\oi.cls=.type "set_iterator" /\ oi.data=.fields #v[.ref tp,.int ((i:Nat):Int) 0,.ref a,.int ((es.size:Nat):Int) 0,.int ((ep:Nat):Int) 0]
def Li.ty(h:Li a o es ep tp ys it i s.heap):s.TypeIs (.ref it) "set_iterator" := by let#[_,_,oi,h1,h2,_]:=h;show#[oi,h1,h2]
def Sq{e:Int×Value}{Q:Option Value->Shared->Prop}(hne:a≠it)(hnt:tp≠it)(hd:o.data=.set es ep t)(hfit:t.fits es.size=true)
  (I:Li a o es ep tp ys it i s.heap)(hi:ys[i]?=some j)(he:es[j]?=some e)(hQ:∀h',Li a o es ep tp ys it (i+1) h'->(∀b x,b≠it->s.heap.get? b=some x->h'.get? b=some x)->Q (some e.2) { s with heap:=h' }):wpAny (model prog w) A (pyNext^.ref it) Q E s:=by
 have ty:=I.ty;let#[ho,#[ot,nt,FL,hdt],oi,CJ,hc,hf]:=I;unfold pyNext;show au^wpAny_attempt^wpAny_callSpecial?_slot (name:=Str.ofString "__next__") ty gP^wpAny_call_entry gP ty v5 ?_^v7 _;unfold Builtin.«set_iterator.__next__»;show au^wpAny_of_eq (a:=(Value.ref it,[])) rfl ?_;show au^wpAny_fieldsOf CJ hf ?_;dsimp only;show au^wpAny_setEntries_of ho hd hfit ?_;rw[if_neg^by simp];show au^wpAny_seqItems FL hdt ?_;dsimp only;rw[show((i:Nat):Int).toNat=i from rfl];have e1:((ys.map λ(j:Nat)=>rawInt j).toArray)[i]?=some^rawInt j:=by rw[lJ,aV,hi];rfl
 rw[e1];change wpAny _ _ (do let x <- setNextDrawn a ((j:Nat):Int).toNat ((ep:Nat):Int).toNat;setField (.ref it) 1^rawInt ((i:Int)+1);ret x) _ _ s;rw[show((j:Nat):Int).toNat=j from rfl,show((ep:Nat):Int).toNat=ep from rfl];show au ?_;unfold setNextDrawn;show au^wpAny_setState_of ho hd hfit ?_;dsimp only;rw[if_neg^by simp,he];show aL ?_;show au^wpAny_setField CJ hf (by simp)^aL #[_,rfl,aL (hQ _ ?_ λb x hb e=>?_)];show#[by rw[gS _ _ _ _ hne];show ho,#[ot,nt,by rw[gS _ _ _ _ hnt];show FL,hdt],_,fj _ CJ^jz^eB hf _,(lP ..).trans hc,?_];rw[eB hf];simp[rawInt];rw[gS _ _ _ _ hb];show e
def XA{Q:Option Value->Shared->Prop}(hh:A.handled=none)(hne:a≠it)(hd:o.data=.set es ep t)(hfit:t.fits es.size=true)
  (I:Li a o es ep tp ys it i s.heap)(hi:ys[i]?=none)(hQ:∀h',(∀b x,b≠it->s.heap.get? b=some x->h'.get? b=some x)->Q none { s with heap:=h' }):wpAny (model prog w) A (pyNext^.ref it) Q E s:=by
 have ty:=I.ty;let#[ho,#[ot,nt,FL,hdt],oi,CJ,hc,hf]:=I;unfold pyNext;show au^wpAny_attempt^wpAny_callSpecial?_slot (name:=Str.ofString "__next__") ty gP^wpAny_call_entry gP ty v5 ?_^v7 _;unfold Builtin.«set_iterator.__next__»;show au^wpAny_of_eq (a:=(Value.ref it,[])) rfl ?_;show au^wpAny_fieldsOf CJ hf ?_;dsimp only;show au^wpAny_setEntries_of ho hd hfit ?_;rw[if_neg^by simp];show au^wpAny_seqItems FL hdt ?_;dsimp only;rw[show((i:Nat):Int).toNat=i from rfl];have e1:((ys.map λ(j:Nat)=>rawInt j).toArray)[i]?=none:=by rw[lJ,aV,hi];rfl
 rw[e1];change wpAny _ _ (do setField (.ref it) 0^rawInt 0;setField (.ref it) 2 .none;raiseNew (<- newExc (.type "StopIteration") [])) _ _ s;have g1:=fj (Obj.mapFields (·.setIfInBounds 0 (rawInt 0))) CJ^jz^eB hf _;have d1:=eB hf (·.setIfInBounds 0 (rawInt 0));show au^wpAny_setField CJ hf (by simp)^au^wpAny_setField g1 d1 (by simp)^au ?_;erw[newExc,newTuple];show au (wpAny_newObj_type (au (m:=firstArgMember _ _)^wpAny_of_eq (a:=Value.none) (by first|rfl|(erw[firstArgMember];rfl))^wpAny_newObj_type ?_^by size_fits)^by size_fits);erw[raiseNew];show au^wpAny_handled ?_;rw[show A.in1.handled=none from hh];show au^aL^wpAny_throw ?go;show au^wpAny_isInstance (T := "StopIteration") (b:=true) (#[_,iI _ rfl,rfl]) isSubtype_stop ?_;show aL (hQ _ λb x hb e=>?_);show dY _^dY _ (by rw[gS _ _ _ _ hb,gS _ _ _ _ hb];show e)
noncomputable def uM(es:Array (Int×Value))(ys:List Nat):Array (Int×Value):=(ys.map λj=>es.toList.getD j (0,.none)).toArray
def GA(h:ys.Perm^List.range es.size):(uM es ys).toList.Perm es.toList:=by
 unfold uM;rw[List.toList_toArray];show(h.map _).trans ?_;have:(List.range es.size).map (λj=>es.toList.getD j (0,.none))=es.toList:=by show List.ext_getElem (by simp) λi h1 h2=>?_;erw[wX,List.getElem_range];rw[vD,fh h2];rfl
 rw[this]
def Df(hh:A.handled=none)(hne:a≠it)(hnt:tp≠it)(hd:o.data=.set es ep t)(hfit:t.fits es.size=true)(hp:ys.Perm^List.range es.size):
  Walks prog w A it [it,a,tp] [it] (uM es ys).size (λi v=>∃e,(uM es ys)[i]?=some e/\v=e.2) (λi h=>Li a o es ep tp ys it i h) where
 sub:=λb hb=>by simp at hb;simp[hb]
 frame:=λi h h' st hk=>by let#[h1,#[ot,nt,h2,h3],oi,h4,r]:=st;show#[hk a (by simp) o h1,#[ot,nt,hk tp (by simp) _ h2,h3],oi,hk it (by simp) oi h4,r]
 item:=λi s Q E hi st hQ=>by
  have hi':i<ys.length:=by simpa[uM] using hi
  have e1:ys[i]?=some ys[i]:=fh hi';have hj:ys[i]<es.size:=f6.mp^hp.mem_iff.mp^kK hi';have e2:es[ys[i]]?=some es[ys[i]]:=fX hj;show Sq hne hnt hd hfit st e1 e2 λh' st' hk=>hQ _ h' s.toks #[es[ys[i]],?_,rfl] st' λb x hb e=>hk b x (λz=>hb^by simp[z]) e;unfold uM;rw[lJ,aV,e1];change some^es.toList.getD ys[i] (0,.none)=_;rw[vD,fY,e2];rfl
 done:=λs Q E st hQ=>XA hh hne hd hfit st (by simp[uM]) λh' hk=>hQ h' s.toks λb x hb e=>hk b x (λz=>hb^by simp[z]) e
 self:=λi s Q E st hQ=>by have ty:=st.ty;show wpAny_pyIter_slot ty v8^wpAny_call_entry v8 ty Jc ?_^Jd _;change wpAny _ _ (ret^.ref it) _ _ s;show aL #[_,rfl, "set_iterator", _,ty,gP.lookup,hQ]
theorem OA(ho:s.heap.get? a=some o)(hx:o.ExactSet)(hd:o.data=.set es ep t)(T:Tab (!cP w) es t)(hsz:es.size<=100000)
  (h:∀(it:Addr)(h':Heap)(d':Drawn)(fp:List Addr)(od:Array (Int×Value))(St:Nat->Heap->Prop),(∀b x,s.heap.get? b=some x->h'.get? b=some x)->s.heap.objs.size<=it->(∀b∈fp,b=a\/s.heap.objs.size<=b)->od.toList.Perm es.toList ->
   (∀A':Around,A'.handled=none->Walks prog w A' it fp [it] od.size (λi v=>∃e,od[i]?=some e/\v=e.2) St)->St 0 h'->Q (.ref it) { s with heap:=h',drawn:=d' }):wpAny (model prog w) A (pyIter^.ref a) Q E s:=by
 have ty:s.TypeIs (.ref a) "set" := #[o,ho,hx.1];have hlt:=aH ho;show wpAny_pyIter_slot ty F.slot_set_iter^wpAny_call_entry F.slot_set_iter ty Sn ?_^F.args_set_iter_1 _;unfold Builtin.«frozenset.__iter__»;show au^wpAny_of_eq (a:=a) rfl ?_;show au (m:=Builtin.Frozenset.sizeOf a)^au^wpAny_setEntries_of ho hd T.fits^aL ?_;unfold setDrawn;show au^au^wpAny_setState_of ho hd T.fits ?_;dsimp only;unfold setsByText;show au^au^wpAny_askSetting^aL^aL ?_;change wpAny _ _ (if(!cP w&&(!t.plain&&decide (es.size>1)))=true then _ else _) _ _ _;by_cases hdr:(!cP w&&(!t.plain&&decide (es.size>1)))=true
 .rw[if_pos hdr];show au (xT es.size (List.range es.size) s _ (by simp) λys d' hp=>?_);have hyl:ys.length=es.size:=by rw[hp.length_eq,lK]
  show au^wpAny_newTuple ?_ (by rw[ao,hyl,sizeLine_eq];lia);show au^wpAny_setEpoch_of (dY _ ho) hd T.fits^au^wpAny_newObj_type^aL #[_,rfl, "set_iterator", _,#[_,iI _ rfl,rfl],gP.lookup,?_];dsimp only;have hz:(s.heap.push { cls:=.type "tuple", data:=.seq (ys.map λ(i:Nat)=>rawInt i).toArray }).objs.size=s.heap.objs.size+1:=by rw[fk]
  show h _ _ d' [_,a,s.heap.objs.size] (uM es ys) _ (λb x e=>dY _^dY _ e) (by rw[hz];show fN _) (λb hb=>?_) (GA hp) (λA' hA=>Df hA (tp:=s.heap.objs.size) (by rw[hz];show aN^jy hlt) (by rw[hz];show aN^i0 _) hd T.fits hp) ?_
  .erw[aG,iQ,or_false] at hb;rcases hb with e|e|e;rw[e,hz];show .inr^fN _;show .inl e;rw[e];show .inr^av _
  .show#[dY _^dY _ ho,#[_,_,dY _^iI _ rfl,rfl],_,iI _ rfl,rfl,rfl]
 .rw[if_neg hdr];have hst:Still w es t:=by unfold Still;cases hb:cP w;cases hpl:t.plain;rw[hb,hpl] at hdr;simp at hdr;show .inr^.inr hdr;show .inr^.inl rfl;show .inl rfl
  show au^aL^au^wpAny_setEpoch_of ho hd T.fits^au^wpAny_newObj_type^aL #[_,rfl, "set_iterator", _,#[_,iI _ rfl,rfl],gP.lookup,?_];show h s.heap.objs.size _ s.drawn [s.heap.objs.size,a] (ord w a es ep) _ (λb x e=>dY _ e) (av _) (λb hb=>?_) (Oz w a es ep) (λA' hA=>Lh hA (aN hlt) hd T hst) ?_
  .erw[aG,iQ,or_false] at hb;rcases hb with e|e;rw[e];show .inr^av _;show .inl e
  .show#[dY _ ho,_,0,iI _ rfl,rfl,rfl,λ_=>SN.Gy T.up]
def XC(es:List (Int×Value)):Prop:=∀e∈es,∃n k,e=(hashInt n,Value.int n k)
def Small(led:Bool)(h:Heap)(a:Addr)(ns:List Int):Prop :=
 ∃o es ep t,h.get? a=some o/\o.ExactSet/\o.data=.set es ep t/\Tab led es t/\XC es.toList/\es.size=ns.length/\ns.Nodup/\∀n,n∈ns↔∃k,((hashInt n,Value.int n k):Int×Value)∈es.toList
def Small.at'(S:Small led h a ns)(e:∀o,h.get? a=some o->h'.get? a=some o):Small led h' a ns:=by let#[o,es,ep,t,ho,r]:=S;show#[o,es,ep,t,e o ho,r]
def XC.elems{es:List (Int×Value)}(h:XC es):ElemsOf (intKind prog w) es:=λe he=>by let#[n,k,rfl]:=h e he;show#[#[n,intKind_is _ _ _ _,rfl],rfl]
def Dg(b:Bool){s1:Shared}{R:Unit->Shared->Prop}(h:R () s1):wpAny (model prog w) A (match b with|true=>rule "set.scan.the-table-gave-way" | false=>pure ()) R E s1:=by cases b;show aL h;show wpAny_rule h
theorem Dh(ho:s.heap.get? a=some o)(hx:o.ExactSet)(hd:o.data=.set es ep t){es1:Array (Int×Value)}{t1:SetTable}(T1:Tab led es1 t1)(hz:es1.size<=100000)
  {g:Bool->Sem Unit}(hg:∀(b:Bool)(s₁:Shared)(Q':Unit->Shared->Prop),Q' () s₁->wpAny (model prog w) A (g b) Q' E s₁){R:Option Bool->Shared->Prop}
  (h:∀h' o2 rj Lj t2,Heap.SameBut a s.heap h'->h'.get? a=some o2->o2.ExactSet->o2.data=.set rj Lj t2->Tab led rj t2->rj.toList.Perm es1.toList->R (some true) { s with heap:=h' }):
  wpAny (model prog w) A (do
    storeSet a es1 t1
    if(!false&&t1.tooFull)=true then do
      g (relayAll t1 es1^SetTable.grown es1.size).2.2
      storeSet a (relayAll t1 es1^SetTable.grown es1.size).1 (relayAll t1 es1^SetTable.grown es1.size).2.1
      pure^some true
     else pure^some true) R E s:=by
 show au^wpAny_storeSet_of ho hd ?_ (by rw[sizeLine_eq];lia);have N5:=fj (Obj.putSet es1 t1) ho (by rw[putSet_of es1 t1 hd];rfl);rw[putSet_of es1 t1 hd] at N5;have Vm:=kH s.heap a^Obj.putSet es1 t1;split
 .let#[rj,t2,gv,er,T2,perm]:=T1.aa9^SetTable.grown es1.size;rw[er];dsimp only;have hz2:rj.size=es1.size:=by rw[<- dB,perm.length_eq,dB]
  show au^hg _ _ _ ?_;show au^wpAny_storeSet_of N5 rfl ?_ (by rw[sizeLine_eq];lia);have Zj:=fj (Obj.putSet rj t2) N5 (by rw[putSet_of rj t2 rfl];rfl);rw[putSet_of rj t2 rfl] at Zj;show aL^h _ _ rj _ t2 (Vm.trans^kH _ a _) Zj hx rfl T2 perm
 .show aL^h _ _ es1 _ t1 Vm N5 hx rfl T1^qd _
theorem add_int{k:Int}{q:Tok}{Q:Bool->Shared->Prop}(hS:Small led s.heap a ns)(hl:ns.length<=4000)
  (h:∀b h',Heap.SameBut a s.heap h'->Small led h' a (if k∈ns then ns else ns++[k])->Q b { s with heap:=h' }):wpAny (model prog w) A (setAddHashed a (.int k q)^hashInt k) Q E s:=by
 let#[o,es,ep,t,ho,hx,hd,T,hI,hz,nd,mem]:=hS;have hel:=hI.elems (prog:=prog) (w:=w);have hb:es.size<scanBound:=by unfold scanBound;lia
 have isk:(intKind prog w).is k^.int k q=true:=intKind_is _ _ _ _;unfold setAddHashed setAddHashedIn;show wpAny_holding^au^wpAny_setState_of ho hd T.fits ?_;dsimp only;rw[byScan_of (knd:=intKind prog w) rfl hb hel,if_pos rfl];unfold setAddByScan;show au^au^wpAny_rule^au^wpAny_setScan_of (knd:=intKind prog w) isk ho hd T.fits hel ?_;cases hr:es.toList.findIdx? (λe=>(intKind prog w).is k e.2) with
 | some j =>
  dsimp only;let#[hj,hpj,_]:=List.findIdx?_eq_some_iff_getElem.mp hr;have hin:k∈ns:=by rw[mem];have hm:=kK hj;let#[n,c,e3]:=hI _ hm;rw[e3] at hpj hm;have:k=n:=(intKind prog w).inj _ _ _ hpj^intKind_is _ _ _ _;rw[this];show#[c,hm]
  show aL^aL ?_;show h false s.heap (Heap.SameBut.refl a s.heap) (by rw[if_pos hin];show#[o,es,ep,t,ho,hx,hd,T,hI,hz,nd,mem])
 | none =>
  dsimp only;have hno:=List.findIdx?_eq_none_iff.mp hr;have OB:k∉ns:=λhin=>by let#[c,hc]:=(mem _).mp hin;have:=hno _ hc;rw[intKind_is] at this;cases this
  let#[es1,t1,gv,hlay,T1,perm]:=T.lay (hashInt k)^.int k q;have hz1:es1.size=es.size+1:=by rw[<- dB,perm.length_eq,aF,dB];rfl
  rw[hlay];dsimp only;show au^Dg gv ?_;have fin:∀h' o2 rj Lj t2,Heap.SameBut a s.heap h'->h'.get? a=some o2->o2.ExactSet->o2.data=.set rj Lj t2->Tab led rj t2->rj.toList.Perm es1.toList->Q true { s with heap:=h' }:=λh' o2 rj Lj t2 sb g2 x2 d2 T2 p2=>by
   have p3:=p2.trans perm;show h true h' sb ?_;rw[if_neg OB];show#[o2,rj,Lj,t2,g2,x2,d2,T2,λe he=>?_,by rw[aF,<- dB,p3.length_eq,aF,dB,hz];rfl,?_,λn=>?_];rcases aJ.mp^p3.mem_iff.mp he with he|he;show hI e he;show#[k,q,ay.mp he];rw[f7];show#[nd,by simp,λx hx' y hy e=>OB (by rw[<- ay.mp hy,<- e];show hx')]
   .rw[aJ,ay,mem n];constructor;rintro(⟨c,hc⟩|e);show#[c,p3.mem_iff.mpr^iw _ hc];rw[e];show#[q,p3.mem_iff.mpr^by simp];rintro⟨c,hc⟩;rcases aJ.mp^p3.mem_iff.mp hc with hc|hc;show .inl #[c,hc];rw[ay] at hc;have:=congrArg Prod.snd hc;injection this with e1 e2;show .inr e1
  split
  .show au ?_;rw[hashByValue_scannable 8 (x:=.int k q) rfl];show aL ?_;erw[plainKind,if_true];show Dh ho hx hd T1 ∅ (λb s₁ Q' hq=>?_) λh' o2 rj Lj t2 sb g2 x2 d2 T2 p2=>?_
   .cases b<;>first|show aL hq|show wpAny_rule hq
   .show aL^fin h' o2 rj Lj t2 sb g2 x2 d2 T2 p2
  .show au^aL ?_;erw[if_true];show Dh ho hx hd T1 ∅ (λb s₁ Q' hq=>?_) λh' o2 rj Lj t2 sb g2 x2 d2 T2 p2=>?_
   .cases b<;>first|show aL hq|show wpAny_rule hq
   .show aL^fin h' o2 rj Lj t2 sb g2 x2 d2 T2 p2
noncomputable def By(val:Nat->Int):Nat->List Int
 | 0=>[]
 | i+1=>if val i∈By val i then By val i else By val i++[val i]
theorem OC(val:Nat->Int)(i:Nat):(By val i).length<=i:=by induction i with grind [By]
theorem OD(val:Nat->Int)(i:Nat)(n:Int):n∈By val i↔∃j,j<i/\n=val j:=by induction i with grind [By]
theorem OE{G:Array GenState->Array GenState->Prop}{P:Nat->Value->Prop}{St:Nat->Shared->Prop}(W:WalksS prog w A.in1 I fp wr G n P St)(d:Addr)(hd:d∉fp)(Sp:Nat->Heap->Prop)
  (at':∀i h h',Sp i h->(∀b o,b∉wr->h.get? b=some o->h'.get? b=some o)->Sp i h')
  (add:∀(E':Value->Shared->Prop) i v (s':Shared) (Q:Bool->Shared->Prop),i<n->P i v->Sp i s'.heap->(∀b h' tk,s'.toks<=tk->Heap.SameBut d s'.heap h'->Sp (i+1) h'->Q b { s' with heap:=h',toks:=tk })->wpAny (model prog w) A.in1 (setAdd d v) Q E' s'):
  ∀(m i:Nat)(s:Shared),n-i=m->i<=n->St i s->Sp i s.heap->(∀s',Moved (d::wr) G s s'->Sp n s'.heap->R (.ok^.ret .none) s') ->
   codeAny (model prog w) A (.builtin "set.update.loop" #[[.ref d,.ref I],[]]) R s:=by
 have hdw:d∉wr:=λh=>hd^W.sub _ h;have up:∀b∈wr,b∈d::wr:=λb hb=>cM _ hb;intro m;induction m with
 | zero =>
  intro i s em hi st hS hR;obtain rfl:i=n:=∅;show codeAny_builtin PyProof.Rows.F.entry_set_update_loop ?_;rw[iu PyProof.Rows.F.plain_set_update_loop];show au (m:=pyNext^.ref I) (W.done s _ _ st λs' hm=>?_);show aL^hR s' (hm.mono up) (at' _ _ _ hS λb o hb e=>hm.heap b o hb e)
 | succ m ih =>
  intro i s em hi st hS hR;have hlt:i<n:=∅;show codeAny_builtin PyProof.Rows.F.entry_set_update_loop ?_;rw[iu PyProof.Rows.F.plain_set_update_loop];show au (m:=pyNext^.ref I) (W.item i s _ _ hlt st λv s' hP st' hm=>?_);have hS':=at' _ _ _ hS λb o hb e=>hm.heap b o hb e;show au (m:=holding [v]^setAdd d v)^wpAny_holding ?_;show add _ i v s' _ hlt hP hS' λb h' tk htk sb hSi=>?_;show aL #[plainId_quiet PyProof.Rows.F.plain_set_update_loop _,ih (i+1) _ ∅ hlt (W.frame _ s' _ _ st' htk λb hb o e=>?_) hSi λs2 hm2 hS3=>?_];rw[sb.2 b (λz:b=d=>hd (by rw[<- z];show hb))];show e;show hR s2 (Moved.trans W.gtrans ((hm.mono up).then_heap htk λb o hb e=>?_) hm2) hS3;rw[sb.2 b (λz:b=d=>hb (by rw[z];show iP))];show e
def Ss(a:Value)
  (h:Q (.ref s.heap.objs.size) { s with heap:=s.heap.push { cls:=.type "set", dict:=none,data:=.set #[] 0 (.fresh 0 0 (!cP w)) } }):
  codeAny (model prog w) A (.call (.builtin "set.__new__") #[[.type "set", a],[]]) (wants Q E) s:=by
 show codeAny_of_tree ?_;show au (m:=checkBuiltinCall "set.__new__" #[[.type "set", a],[]])^wpAny_of_eq (PySem.F.newCall_set_1 a)^aL #[plainId_quiet F.plain_set_new _,codeAny_builtin F.entry_set_new ?_];rw[iu F.plain_set_new];unfold Builtin.«set.__new__» Builtin.Frozenset.newClass;have hsub:=sub_set_self;let#[hp,g,d,tk,os]:=s;dsimp only
 wp_walk
 show wpAny_askSetting^aL ?_;dsimp only;erw[newObj];show au^wpAny_alloc^aL^aL ?_;show h
def Aj:Tab led #[]^.fresh 0 0 led:=#[rfl,rfl,by change List.Pairwise _ [];show List.Pairwise.nil,rfl]
def Di(e:h.get? a=some { cls:=.type "set", dict:=none,data:=.set #[] 0 (.fresh 0 0 led) }):Small led h a [] :=
 #[_,#[],0,_,e,#[rfl,rfl,rfl],rfl,Aj,(λe he=>by simp at he),rfl,lM,λn=>by simp]
set_option maxHeartbeats 3200000 in
theorem set_list{items:Array Value}(hh:A.handled=none)(hl:s.heap.IsList l items)(Sp:Nat->Heap->Prop)
  (sp0:∀h',(∀b o,s.heap.get? b=some o->h'.get? b=some o)->h'.get? s.heap.objs.size=some { cls:=.type "set", dict:=none,data:=.set #[] 0 (.fresh 0 0 (!cP w)) }->Sp 0 h')
  (at':∀i h h',Sp i h->(∀b o,b<=s.heap.objs.size->h.get? b=some o->h'.get? b=some o)->Sp i h')
  (add:∀(A':Around)(E':Value->Shared->Prop) i v (s':Shared) (Q:Bool->Shared->Prop),A'.handled=none->A'.units<=A.units+8->items[i]?=some v->Sp i s'.heap->(∀b h' tk,s'.toks<=tk->Heap.SameBut s.heap.objs.size s'.heap h'->Sp (i+1) h'->Q b { s' with heap:=h',toks:=tk })->wpAny (model prog w) A' (setAdd s.heap.objs.size v) Q E' s')
  (h:∀(h':Heap)(tk:Nat),Sp items.size h'->(∀b o,b<s.heap.objs.size->s.heap.get? b=some o->h'.get? b=some o)->Q (.ref s.heap.objs.size) { s with heap:=h',toks:=tk }):
  wpAny (model prog w) A (call (.type "set") [.ref l]) Q E s:=by
 let#[c0,t0,m0]:=F.called_set.mro;have m1:=F.called_set.made;have m2:=F.called_set.sub;show wpAny_call^codeAny_of_tree ?_;change wpAny _ _ (callAny (.type "set") #[[.ref l],[]]) _ _ _;show aL #[Code.quiet_builtin _^by decide +kernel,(codeAny_builtin F.entry_type_call ?_)];rw[Around.under_plain (weight_type_call_type "set" [.ref l] []) rfl];have m3:=F.called_set.notType;have m4:=F.called_set.canCreate;have m5:=PySem.F.typeCall_set_1^.ref l
 repeat (any_goals (first|assumption|wp_step))
 show codeAny_mono (Ss (.ref l) (E:=E) (Q:=λobj z=>obj=.ref s.heap.objs.size/\z={ s with heap:=s.heap.push { cls:=.type "set", dict:=none,data:=.set #[] 0 (.fresh 0 0 (!cP w)) } }) #[rfl,rfl]) λr z hr=>?_;cases r with
 | error e=>show hr
 | ok fl =>
  cases fl with
  | ret obj =>
   let#[rfl,rfl]:=hr;generalize hH:s.heap.push { cls:=.type "set", dict:=none,data:=.set #[] 0 (.fresh 0 0 (!cP w)) }=H1;have g1:H1.get? s.heap.objs.size=some { cls:=.type "set", dict:=none,data:=.set #[] 0 (.fresh 0 0 (!cP w)) }:=by rw[<- hH];show iI _ rfl
   have k1:∀b o,s.heap.get? b=some o->H1.get? b=some o:=λb o e=>by rw[<- hH];show dY _ e
   have z1:H1.objs.size=s.heap.objs.size+1:=by rw[<- hH,fk]
   have ty:Shared.TypeIs { s with heap:=H1 } (.ref s.heap.objs.size) "set" := #[_,g1,rfl];have m6:=F.called_set.init.lookup;have m7:=F.called_set.init.bind^.ref s.heap.objs.size
   repeat (any_goals (first|assumption|wp_step))
   show codeAny_mono (codeAny_call_builtin (R:=wants (λr z=>r=.none/\∃h' tk,z={ s with heap:=h',toks:=tk }/\Sp items.size h'/\∀b o,b<s.heap.objs.size->s.heap.get? b=some o->h'.get? b=some o) E)
    F.called_set.init.plain F.entry_set_init^check_set_init_1 ty ?_) λr2 s2 hr2=>?_
   .have hl1:H1.IsList l items:=by let#[ol,e1,e2,n1,e3]:=hl;show#[ol,k1 _ _ e1,e2,n1,e3]
    let#[ol,e1,e2,n1,e3]:=hl;let#[cc,dd,xx,ss]:=ol;simp only at e2 e3;subst e2 e3;have e4:=k1 _ _ e1;have f1:=PySem.F.sub_list_set;have f2:=PySem.F.sub_list_frozenset;have f3:(Value.type "list" == Value.type "dict")=false:=by decide
    unfold Builtin.«set.__init__» noKeywords Builtin.Frozenset.updateFrom;generalize hp:pyIter=PI
    wp_walk
    subst hp;show wpAny_pyIter_list hl1^au^wpAny_runValue ?_;have hlS:l<s.heap.objs.size:=aH e1;have n2:l≠H1.objs.size:=by rw[z1];show aN^jy hlS
    have n3:s.heap.objs.size∉[H1.objs.size,l]:=by rw[z1];intro z;rcases aG.mp z with z|z;lia;show absurd (ay.mp z)^kg hlS
    show OE ((Walks.list (by simp[hh]) _ l n2 items).toS) s.heap.objs.size n3 Sp (λi h h' q hk=>at' i h h' q λb o hb e=>hk b o (λz=>?_) e) (λE' i v s' Q hi hP hSp hQ=>add _ E' i v s' Q (by simp[hh]) (by erw[Around.in1];lia) hP hSp hQ) (items.size-0) 0 _ ∅ (aM _) #[#[_,iI _ rfl,rfl,rfl],(hl1.push _)] (sp0 _ (λb o e=>dY _^k1 _ _ e)^dY _ g1) ?_;rw[ay.mp z,z1] at hb;lia;intro s3 hm hS3;let#[h3,g3,d3,t3,o3]:=s3;obtain rfl:g3=s.gens:=hm.gens;obtain rfl:d3=s.drawn:=hm.drawn;obtain rfl:o3=s.os:=hm.os;show aL^aL #[rfl,h3,t3,rfl,hS3,λb o hb e=>?_];show hm.heap b o (λz=>?_)^dY _^k1 _ _ e;rcases aG.mp z with z|z;show absurd z^aN hb
    .rw[ay.mp z,z1] at hb;lia
   .cases r2 with
    | error e=>show hr2
    | ok f2 =>
     cases f2 with
     | ret r =>
      let#[rfl,h3,t3,rfl,hS3,Zl]:=hr2
      repeat (any_goals (first|assumption|wp_step))
      show h _ _ hS3 Zl
     | _=>show hr2.elim
  | _=>show hr.elim
def ints_of{l:List Value}(h:∀v∈l,∃n k,v=Value.int n k):∃ns:List Int,IntsAre l ns:=by
 induction l with
 | nil=>show#[[],.nil]
 | cons v l ih =>
  let#[n,k,rfl]:=h v (by simp);let#[ns,r]:=ih λu hu=>h u (by simp[hu]);show#[n::ns,.cons n k r]
def Su{l:List Value}(r:IntsAre l ns):∀n,n∈ns↔∃k,Value.int n k∈l:=by
 induction r with
 | nil=>intro n;simp
 | @cons m k l ns _ ih =>
  intro n;rw[aG,ih n];constructor;rintro(e|⟨c,hc⟩);rw[e];show#[k,by simp];show#[c,by simp[hc]];rintro⟨c,hc⟩;rcases aG.mp hc with e|hc;cases e;show .inl rfl;show .inr #[c,hc]
def Sv:typeLookup (.type "set") "__len__" = pure^some^.builtin "set.__len__":=by rw[typeLookup_type,builtinLookup_eq_fast];kernel_rfl
theorem OF{items:Array Value}{val:Nat->Int}(hh:A.handled=none)(hl:s.heap.IsList l items)(hv:∀(i:Nat)(v:Value),items[i]?=some v->∃t,v=Value.int (val i) t)(hn:items.size<=4000)
  (h:∀(h':Heap)(tk:Nat),Small (!cP w) h' s.heap.objs.size^By val items.size->(∀b o,b<s.heap.objs.size->s.heap.get? b=some o->h'.get? b=some o)->Q (.ref s.heap.objs.size) { s with heap:=h',toks:=tk }):
  wpAny (model prog w) A (call (.type "set") [.ref l]) Q E s:=by show set_list hh hl (λi h=>Small (!cP w) h s.heap.objs.size^By val i) (λh' _ e=>Di e) (λi h h' q hk=>q.at' λo e=>hk _ o (av _) e) (λA' E' i v s' Q hh' _ hi hS hQ=>?_) h;let#[t,rfl]:=hv i v hi;unfold setAdd;show wpAny_holding^au^(intKind prog w).pyHash (k:=val i) (intKind_is _ _ _ _) ?_;have hl:=OC val i;have hlt:=(nD.mp hi).1;show add_int (s:={ s' with toks:=s'.toks+1 }) hS ∅ λb h' sb Ru=>?_;show hQ b h' _ (fN _) sb Ru
set_option maxHeartbeats 2000000 in
theorem uN{Q:List Value->Shared->Prop}(hh:A.handled=none)(ho:s.heap.get? a=some o)(hx:o.ExactSet)(hd:o.data=.set es ep t)(T:Tab (!cP w) es t)(hsz:es.size<=100000)
  (hQ:∀(s':Shared)(vs:List Value),(∀b x,s.heap.get? b=some x->s'.heap.get? b=some x)->s'.gens=s.gens->s'.os=s.os->s.heap.objs.size<s'.heap.objs.size->vs.Perm^es.toList.map (·.2)->Q vs s'):
  wpAny (model prog w) A (collect^.ref a) Q E s:=by
 unfold collect;show au^wpAny_runValue^codeAny_builtin F.entry_proto_collect ?_;rw[iu F.plain_proto_collect];show au (m:=newList [])^wpAny_newObj_type^aL #[plainId_quiet F.plain_list_iadd _,codeAny_builtin F.entry_list_iadd ?_];rw[iu F.plain_list_iadd];change wpAny _ A.in1 (Builtin.List.listExtendWith (.ref s.heap.objs.size) (.ref a)^.ref s.heap.objs.size) _ _ _;generalize hH:s.heap.push { cls:=.type "list", data:=.seq ([]:List Value).toArray }=H;have hz:H.objs.size=s.heap.objs.size+1:=by rw[<- hH,fk]
 have hk:∀b x,s.heap.get? b=some x->H.get? b=some x:=λb x e=>by rw[<- hH];show dY _ e
 have hN:H.get? s.heap.objs.size=some { cls:=.type "list", data:=.seq ([]:List Value).toArray }:=by rw[<- hH];show iI _ rfl
 have hlt:=aH ho;unfold Builtin.List.listExtendWith;show au^wpAny_typeOf (T := "set") #[o,hk _ _ ho,hx.1] ?_;have h1:Builtin.List.listSameRef (.ref s.heap.objs.size)^.ref a=false:=by change((s.heap.objs.size==a):Bool)=false;show beq_eq_false_iff_ne.mpr^kg hlt
 have h2:(Value.type "set" == Value.type "list")=false:=by decide
 have h3:(Value.type "set" == Value.type "tuple")=false:=by decide
 erw[h1,h2,h3,Bool.or_false,cB,if_false];show au (OA (s:={ s with heap:=H }) (hk _ _ ho) hx hd T hsz λit H2 d2 fp od St hk2 hit hfp Jf W0 st=>au^wpAny_holding ?_);have hao:H2.get? a=some o:=hk2 _ _^hk _ _ ho;dsimp only at hk2 hit hfp;unfold Builtin.List.listLengthHint;show au^wpAny_specialOf (T := "set") (v:=.ref a) #[o,hao,hx.1] Sv ?_
 wp_delta
 show au^wpAny_isInstance (T := "set") (v:=.ref a) (b:=true) #[o,hao,hx.1] (by rw[isSubtype_type];kernel_rfl) ?_;show au (m:=typeOf^.ref a)^wpAny_typeOf (T := "set") #[o,hao,hx.1]^aL ?_;rw[if_pos^by decide];have hnf:s.heap.objs.size∉fp:=λhm=>by rcases hfp _ hm with e|e;show absurd e^kg hlt;rw[hz] at e;show absurd e^Nat.not_le.mpr^i0 _
 have hn4:od.size<=sizeLine:=by have:=Jf.length_eq;rw[dB,dB] at this;rw[this,sizeLine_eq];lia
 have g1:H2.get? s.heap.objs.size=some { cls:=.type "list", data:=.seq ([]:List Value).toArray }:=hk2 _ _ hN;have g2:=fj (Obj.mapSeq (·.push Value.none)) g1 rfl;have g3:=fj (Obj.mapSeq (·.pop)) g2 rfl;have W:=(W0 A.in1^by simp[hh]).toS;have st':St 0 ((H2.update s.heap.objs.size^Obj.mapSeq (·.push Value.none)).update s.heap.objs.size^Obj.mapSeq (·.pop)) :=
  (W0 A.in1^by simp[hh]).frame 0 _ _ st λb hb o e=>by have hne:b≠s.heap.objs.size:=λz=>hnf (by rw[<- z];show hb);rw[gS _ _ _ _ hne,gS _ _ _ _ hne];show e
 show au (m:=rule "list.extend.makes-room")^wpAny_rule^au (m:=Builtin.List.listTouch^.ref s.heap.objs.size) ?_;show au (m:=updateSeq s.heap.objs.size (·.push .none))^wpAny_updateSeq g1 rfl^wpAny_updateSeq g2 rfl ?_;show aL #[plainId_quiet F.plain_extend_loop _,codeAny_extend_loopS W hn4 _ hnf _ _ 0 _ _ _ rfl (aM _) st' g3 (ItemsOf.nil _) λs' acc' c' hm hS' hacc=>?_];show au (m:=load s.heap.objs.size)^wpAny_load hS'^aL^hQ s' acc'.toList (λb x e=>hm.heap b x (λhb=>?_) ?_) hm.gens hm.os (aH hS') ?_
 .have hl:=aH e;rcases aG.mp hb with z|z;rw[z] at hl;show absurd hl^eV _
  .rw[ay.mp z] at hl;rw[hz] at hit;show absurd (cC hl^Nat.le_of_succ_le hit)^eV _
 .have hb:=aN^aH e;change((H2.update s.heap.objs.size _).update s.heap.objs.size _).get? b=some x;rw[gS _ _ _ _ hb,gS _ _ _ _ hb];show hk2 _ _^hk _ _ e
 .have e:acc'.toList=od.toList.map (·.2):=by
   show sQ λi=>?_;rw[aV];erw[fY];rcases bE i acc'.size with hi|hi
   .let#[e,he,hv]:=hacc.2 i acc'[i]^fX hi;rw[fX hi,he,hv];rfl
   .rw[uG hi,uG (by rw[<- hacc.1];show hi)];rfl
  rw[e];show Jf.map _
theorem sorted_ints(hh:A.handled=none)(S:Small (!cP w) s.heap a ns)(hns:ns.length<64)
  (h:∀(p:Addr)(h':Heap)(d':Drawn)(tk:Nat)(out:Array Value)(c:Nat)(ns':List Int),s.heap.objs.size<=p->(∀b x,s.heap.get? b=some x->h'.get? b=some x)->h'.get? p=some { cls:=.type "list", data:=.seq out c }->IntsAre out.toList ns'->(∀n,n∈ns'↔n∈ns)->ns'.Pairwise (· <= ·)->ns'.length=ns.length->Q (.ref p) { s with heap:=h',drawn:=d',toks:=tk }):
  wpAny (model prog w) A (call (.builtin "sorted") [.ref a]) Q E s:=by
 let#[o,es,ep,t,ho,hx,hd,T,hI0,hz,nd,mem]:=S;show AZ kind_sorted plain_sorted entry_sorted (args_sorted1 _) ?_;unfold Builtin.«sorted»;show au (m:=checkCount "sorted" 1 1 _)^aL^au (uN (by simp[hh]) ho hx hd T ∅ ?_);intro s1 acc k1 g1 o1 GB hp;let#[h1,gg,dd,tk1,oo]:=s1;dsimp only at k1 g1 o1 GB;subst g1 o1;have hal:acc.length=ns.length:=by rw[hp.length_eq,ao,dB,hz]
 have shape:∀v∈acc,∃n k,v=Value.int n k:=λv hv=>by let#[e,he,rfl]:=aE.mp^hp.mem_iff.mp hv;let#[n,k,rfl]:=hI0 e he;show#[n,k,rfl]
 let#[ms,hI]:=ints_of shape;have hmm:∀n,n∈ms↔n∈ns:=λn=>by rw[Su hI n,mem n];constructor;rintro⟨k,hk⟩;let#[e,he,ee]:=aE.mp^hp.mem_iff.mp hk;let#[n',k',rfl]:=hI0 e he;cases ee;show#[_,he];rintro⟨k,hk⟩;show#[k,hp.mem_iff.mpr^aE.mpr #[_,hk,rfl]]
 show au^wpAny_newList ?_ (by rw[hal,sizeLine_eq];lia);have h64:acc.length<64:=∅;have gN:(h1.push^seqObj "list" acc.toArray 0).get? h1.objs.size=some^seqObj "list" acc.toArray 0:=iI _ rfl;show au^wpAny_holding^wpAny_call_entry slot_list_sort #[_,gN,rfl] entry_list_sort (list_sort_tree gN hI h64 λout ns' a1 a2 a3=>#[_,rfl,?_])^args_list_sort _;let#[c,hc]:=sortedHeap_at (h:=h1.push^seqObj "list" acc.toArray 0) (a:=h1.objs.size) (vs:=acc) (n:=0) (out:=out) gN;have hle:s.heap.objs.size<=h1.objs.size:=iZ GB;show aL #[_,rfl,h h1.objs.size _ dd tk1 out c ns' hle (λb x e=>?_) hc a1 (λn=>(a2.mem_iff).trans^hmm n) a3 ?_];have hb:=aH^k1 b x e;rw[sortedHeap_old (aN hb) (by rw[size_push'];show jy hb)];show dY _^k1 b x e;rw[a2.length_eq,<- hal];show(IntsAre.length hI).symm
end SG
namespace SN
open PySem
theorem BA{xs ys:List Int}(h:xs.Nodup)(q:∀x∈xs,x∈ys):xs.length<=ys.length:=by
 induction xs generalizing ys with
 | nil=>simp
 | cons x l ih=>have:=@ih^ys.erase x;grind
theorem abf{ms:List Int}(nd:ns.Nodup)(sub:∀n∈ns,n∈ms)(hl:ms.length<=ns.length):ms.Nodup:=by
 induction ms generalizing ns with
 | nil=>simp
 | cons x l ih=>have:=@ih^ns.erase x;have:=@BA ns l nd;grind
theorem lt_eq{xs ys:List Int}(hx:xs.Pairwise (· < ·))(hy:ys.Pairwise (· < ·))(h:∀n,n∈xs↔n∈ys):xs=ys:=by
 induction xs generalizing ys with
 | nil=>show(List.eq_nil_iff_forall_not_mem.mpr^by grind).symm
 | cons x l ih =>
  cases ys with
  | nil=>have:=h x;grind
  | cons y m =>
   rw[qh] at hx hy;have:=@ih m hx.2 hy.2;have:=h x;have:=h y
   grind
noncomputable def fT(ns:List Int):List Int:=((List.range 8).filter λk:Nat=>decide ((k:Int)∈ns)).map λk:Nat=>(k:Int)
def Dj(ns:List Int):(fT ns).Pairwise (· < ·):=by unfold fT;rw[jT];show List.Pairwise.imp (λh=>Int.ofNat_lt.mpr h)^List.Pairwise.sublist (List.filter_sublist) (A6)
theorem jK(h:∀n∈ns,0<=n/\n<8)(n:Int):n∈fT ns↔n∈ns:=by unfold fT;erw[aE,dS,f6,decide_eq_true_eq];constructor;rintro⟨k,⟨_,h2⟩,rfl⟩;show h2;intro hn;let#[h0,h8]:=h n hn;show#[n.toNat,#[∅,?_],∅];rw[Int.toNat_of_nonneg h0];show hn
end SN
namespace L2
def xU(w:World)(p:Addr)(ns:List Int):Heap->Prop:=λh=>∃ms:List Int,SG.Small (!SG.cP w) h p ms/\∀n,n∈ms↔n∈ns
theorem qq:∀{l:List Value}{ns:List Int},IntsAre l ns->Vals (ns.map V.int) l
 | _,_,.nil=>.nil
 | _,_,.cons n t r=>.cons #[t,rfl]^qq r
def BT.CY:PySem.bootBuiltins "set" = some^.type "set":=by decide +kernel
def BT.kW:PySem.bootBuiltins "sorted" = some^.builtin "sorted":=by decide +kernel
section
variable {σ:St}
def Inv.drw(I:Inv X u5 σ H s)(d':Drawn):Inv X u5 σ H { s with drawn:=d' } :=
 #[I.ok,I.os,I.bare,I.base,I.loc,I.cell,I.free,I.ko,I.pin,I.hok,I.len]
def Jg(K:az)(w:World):List V->Hp->VK->Prop:=λxs H Q=>∃(l:Addr)(ns:List Int),xs=[.ref l]/\bG K H l^ns.map V.int/\ns.length<=4000/\∀p H',fV H p (.ext (xU w p ns)) H'->Q (.ref p) H'
theorem tV(hc:X.calm=true):dP X (.type "set")^Jg X.K X.w:=by
 intro u5 s σ H xs us Q I r h;let#[l,ns,rfl,hl,h4,q]:=h;let#[u,rfl,ru]:=vals1 r;cases ru;let#[vs,rv,#[ol,n0,e1,e2,e3,e4],_]:=I.list hl;have isl:s.heap.IsList l vs.toArray:=#[ol,e1,e2,n0,e4];have hsz:vs.toArray.size=ns.length:=by have:=rv.length;rw[ao] at this;rw[aZ];show this.symm
 have hat:∀(i:Nat)(n:Int),ns[i]?=some n->ns.getD i 0=n:=λi n e=>by rw[vD,e];rfl
 show SG.OF (val:=λi=>ns.getD i 0) (I.ok.hd hc) isl (λi v hv=>?_) ∅ λh' tk hS hk=>?_
 .have hi:i<ns.length:=by have:=(nD.mp hv).1;lia
  have e5:ns[i]?=some ns[i]:=fh hi;let#[u,hu,t,rfl]:=rv.get (i:=i) (x:=.int ns[i]) (by rw[aV,e5];rfl);rw[lJ,hu] at hv;cases hv;rw[hat i _ e5];show#[t,rfl]
 .show#[.ref s.heap.objs.size,_,I.laid (t':=tk) (λb o e=>hk b o (aH e) e) (av _) (o:=.ext (xU X.w s.heap.objs.size ns)) #[#[_,hS,λn=>?_],?_,λh1 h2 hp he=>?_],rfl,q _ _ #[I.hok.fresh^av _,rfl]];rw[SG.OD,hsz];constructor;rintro⟨j,hj,rfl⟩;have e5:ns[j]?=some ns[j]:=fh hj;rw[hat j _ e5];show kK hj;intro hn;let#[j,hj,e5]:=jS.mp hn;show#[j,hj,?_];rw[hat j n^by rw[fh hj,e5]];let#[o,_,_,_,ho,_]:=hS;show#[o,ho];let#[ms,hS',hm]:=hp;show#[ms,hS'.at' he,hm]
def BB(w:World):List V->Hp->VK->Prop:=λxs H Q=>∃(p:Addr)(ns:List Int),xs=[.ref p]/\H p=some^.ext (xU w p ns)/\(∀ms:List Int,ms.Nodup->(∀n,n∈ms↔n∈ns)->ms.length<64)/\∀(l:List Int)(q:Addr)(H':Hp),l.Pairwise (· < ·)->(∀n:Int,n∈l↔n∈ns)->fV H q (.lst^l.map V.int) H'->Q (.ref q) H'
theorem qt(hc:X.calm=true):dP X (.builtin "sorted")^BB X.w:=by
 intro u5 s σ H xs us Q I r h;let#[p,ns,rfl,hp,hb,q]:=h;let#[u,rfl,ru]:=vals1 r;cases ru;let#[#[ms,hS,hm],_,_]:=I.hok p _ hp;have nd:ms.Nodup:=by let#[_,_,_,_,_,_,_,_,_,_,nd,_]:=hS;show nd
 have hml:=hb ms nd hm;show SG.sorted_ints (I.ok.hd hc) hS hml λa h' d' tk out c ns' hle hk ho hI hmem OG hlen=>?_;have nd':ns'.Nodup:=SN.abf nd (λn hn=>(hmem n).mpr hn) ∅;have hlt:ns'.Pairwise (· < ·):=(OG.and nd').imp λ⟨h1,h2⟩=>∅;show#[.ref a,_,(I.drw d').laid (t':=tk) hk hle (o:=.lst^ns'.map V.int) #[?_,out.toList,c,qq hI,?_],rfl,q ns' _ _ hlt (λn=>(hmem n).trans^hm n) #[I.hok.fresh hle,rfl]];rw[ao,sizeLine_eq];lia;rw[ho,Array.toArray_toList]
def OH(hl:bG K H l^ns.map V.int)(h4:ns.length<=4000)(h:∀p H',fV H p (.ext (xU w p ns)) H'->Q (.ref p) H'):Jg K w [.ref l] H Q:=#[l,ns,rfl,hl,h4,h]
theorem XD(hl:bG K H l^ns.map V.int)(hb:∀n∈ns,0<=n/\n<8)(h4:ns.length<=4)(h:∀p H',fV H p (.ext (xU w p ns)) H'->Q (.ref p) H'):Jg K w [.ref l] H Q:=#[l,ns,rfl,hl,∅,h]
def Sw{p:Addr}(hp:H p=some^.ext (xU w p ns))(hb:∀ms:List Int,ms.Nodup->(∀n,n∈ms↔n∈ns)->ms.length<64)(h:∀(l:List Int)(q:Addr)(H':Hp),l.Pairwise (· < ·)->(∀n:Int,n∈l↔n∈ns)->fV H q (.lst^l.map V.int) H'->Q (.ref q) H'):BB w [.ref p] H Q:=#[p,ns,rfl,hp,hb,h]
theorem Jh{p:Addr}(hp:H p=some^.ext (xU w p ns))(hb:∀n∈ns,0<=n/\n<8)(h:∀q H',fV H q (.lst^(SN.fT ns).map V.int) H'->Q (.ref q) H'):BB w [.ref p] H Q:=by
 show#[p,ns,rfl,hp,λms nd hm=>?_,λl q H' hlt hmem n=>?_]
 .have:=SN.BA nd (ys:=[0,1,2,3,4,5,6,7]) λx hx=>by let#[h0,h8]:=hb x^(hm x).mp hx;have:x=0\/x=1\/x=2\/x=3\/x=4\/x=5\/x=6\/x=7:=∅;simpa using this
  simp at this;lia
 .have e:l=SN.fT ns:=SN.lt_eq hlt (SN.Dj ns) λn=>(hmem n).trans (SN.jK hb n).symm;rw[e] at n;show h q H' n
end
end L2
namespace SN
open PySem PySem.W PyProof.Rows
variable {p:Array Nat}{es:Array DictEntry}
structure Pl (n:Nat) (p:Array Nat):Prop where
 sz:p.size=n
 pm:p.toList.Perm^List.range n
def Pl.get(P:Pl n p)(hi:i<n):p.toList[i]?=some^p.getD i 0:=by
 have h:i<p.size:=by rw[P.sz];show hi
 rw[fY,fX h];simp[Array.getD,h]
def Pl.lt{n:Nat}{p:Array Nat}(P:Pl n p){i:Nat}(hi:i<n):p.getD i 0<n:=f6.mp^P.pm.mem_iff.mp^gq^P.get hi
def Pl.inj(P:Pl n p)(hi:i<n)(hj:j<n)(e:p.getD i 0=p.getD j 0):i=j:=by have nd:p.toList.Nodup:=P.pm.nodup_iff.mpr List.nodup_range;have h1:=P.get hi;have h2:=P.get hj;rw[<- e] at h2;show(List.getElem?_inj (e9 h1).1 nd).mp^h1.trans h2.symm
def Pl.of{q:Array Nat}(P:Pl n p)(h:q.Perm p):Pl n q:=#[by rw[h.size_eq];show P.sz,(Array.perm_iff_toList_perm.mp h).trans P.pm]
def Pl.start(n:Nat):Pl n^List.toArray^List.range n:=#[by simp,qd _]
noncomputable def kv(r:Nat->Int)(p:Array Nat)(i:Nat):Int:=r^p.getD i 0
def Up(r:Nat->Int)(p:Array Nat)(k:Nat):Prop:=∀i j,i<j->j<k->kv r p i<kv r p j
def Dn(r:Nat->Int)(p:Array Nat)(k:Nat):Prop:=∀i j,i<j->j<k->kv r p j<kv r p i
def Ji{r:Nat->Int}{q:Array Nat}(h:p[i]?=q[j]?):kv r p i=kv r q j:=by unfold kv;rw[Array.getD_eq_getD_getElem?,Array.getD_eq_getD_getElem?,h]
section
variable {cmp:Nat->Nat->(Bool->Shared->Prop)->Shared->Prop}{r:Nat->Int}{p:Array Nat}
def Pl.ne(P:Pl n p)(inj:∀i j,i<n->j<n->r i=r j->i=j)(hi:i<n)(hj:j<n)(h:i≠j):kv r p i≠kv r p j:=λe=>h^P.inj hi hj^inj _ _ (P.lt hi) (P.lt hj) e
theorem GC(hc:∀i j,i<n->j<n->∀C,C (decide (r i<r j)) s->cmp i j C s)(inj:∀i j,i<n->j<n->r i=r j->i=j)(P:Pl n p){Q:Nat->Shared->Prop}:∀f k,1<=k->k+f<=n->Up r p k ->
  (∀m,k<=m->m<=k+f->Up r p m->(m<k+f->kv r p m<kv r p (m-1))->Q m s)->(kas_asc p f k).kasWp cmp Q s
 | 0,k,_,_,u,h=>h k (av _) (av _) u λz=>absurd z^eV _
 | f+1,k,h1,hn,u,h=>by
  change cmp (p.getD k 0) (p.getD (k-1) 0) _ s;show hc _ _ (P.lt ∅) (P.lt ∅) _ ?_;by_cases hl:r^p.getD k 0<r^p.getD (k-1) 0;rw[decide_eq_true hl];show h k (av _) ∅ u λ_=>hl
  .rw[decide_eq_false hl];show GC hc inj P f (k+1) ∅ ∅ (λi j hij hj=>?_) λm a b c d=>h m ∅ ∅ c λz=>d ∅;by_cases hk:j<k;show u i j hij hk
   .have e:j=k:=∅;subst e;have ne:=P.ne inj (i:=j) (j:=j-1) ∅ ∅ ∅;have lt:kv r p (j-1)<kv r p j:=by have:¬kv r p j<kv r p (j-1):=hl;lia
    by_cases hi:i=j-1;rw[hi];show lt;show Int.lt_trans (u i (j-1) ∅ ∅) lt
theorem Jj(hc:∀i j,i<n->j<n->∀C,C (decide (r i<r j)) s->cmp i j C s)(inj:∀i j,i<n->j<n->r i=r j->i=j)(P:Pl n p){Q:Array Nat×Nat×Nat->Shared->Prop}:∀f k,2<=k->k+f<=n->Dn r p k ->
  (∀m,k<=m->m<=k+f->Dn r p m->Q (p,m,0) s)->(kas_desc f p k 0).kasWp cmp Q s
 | 0,k,_,_,u,h=>h k (av _) (av _) u
 | f+1,k,h1,hn,u,h=>by
  change cmp (p.getD k 0) (p.getD (k-1) 0) _ s;show hc _ _ (P.lt ∅) (P.lt ∅) _ ?_;by_cases hl:r^p.getD k 0<r^p.getD (k-1) 0;rw[decide_eq_true hl];show Jj hc inj P f (k+1) ∅ ∅ (λi j hij hj=>?_) λm a b c=>h m ∅ ∅ c;by_cases hk:j<k;show u i j hij hk;have e:j=k:=∅;subst e;have lt:kv r p j<kv r p (j-1):=hl;by_cases hi:i=j-1;rw[hi];show lt;show Int.lt_trans lt (u i (j-1) ∅ ∅)
  .rw[decide_eq_false hl];change cmp (p.getD (k-1) 0) (p.getD k 0) _ s;show hc _ _ (P.lt ∅) (P.lt ∅) _ ?_;have ne:=P.ne inj (i:=k) (j:=k-1) ∅ ∅ ∅;have lt:r^p.getD (k-1) 0<r^p.getD k 0:=by have:¬kv r p k<kv r p (k-1):=hl;unfold kv at ne this;lia
   rw[decide_eq_true lt];show h k (av _) ∅ u
theorem XE{m:Nat}(P:Pl n p)(hm:m<=n)(d:Dn r p m):Pl n^kas_rev p 0 m/\Up r (kas_rev p 0 m) m:=by
 show#[P.of^mirror_perm _ _ _ _,λi j hij hj=>?_];have at_:∀i,i<m->kv r (kas_rev p 0 m) i=kv r p (m-1-i):=λi hi=>Ji (by
  unfold kas_rev;rw[getElem?_mirror_all (by rw[P.sz];show hm),if_pos #[aM _,hi]];congr 1;lia)
 rw[at_ i ∅,at_ j hj];show d _ _ ∅ ∅
theorem OI(hc:∀i j,i<n->j<n->∀C,C (decide (r i<r j)) s->cmp i j C s)(inj:∀i j,i<n->j<n->r i=r j->i=j)(P:Pl n p){m:Nat}(h1:1<=m)(hm:m<=n)(d:Dn r p m){Q:Nat×Array Nat->Shared->Prop}
  (h:∀k q,Pl n q->1<=k->k<=n->Up r q k->Q (k,q) s):(kas_tail3 m n p).kasWp cmp Q s:=by let#[P',u]:=XE P hm d;unfold kas_tail3;rw[KasT.kasWp_bind];show GC hc inj P' _ _ h1 ∅ u λk a b c _=>h k _ P' ∅ ∅ c
theorem OJ(hc:∀i j,i<n->j<n->∀C,C (decide (r i<r j)) s->cmp i j C s)(inj:∀i j,i<n->j<n->r i=r j->i=j)(P:Pl n p)(h2:2<=n){Q:Nat×Array Nat->Shared->Prop}
  (h:∀k q,Pl n q->1<=k->k<=n->Up r q k->Q (k,q) s):(kas_count n p).kasWp cmp Q s:=by unfold kas_count;rw[KasT.kasWp_bind];show GC hc inj P _ _ (av _) ∅ (λi j _ _=>∅) λm a b c d=>?_;by_cases e:m=n;rw[if_pos^by simp[e]];show h m p P a ∅ c;rw[if_neg^by simp[e]];by_cases g:m>1;rw[if_pos g];change cmp (p.getD 0 0) (p.getD (m-1) 0) _ s;show hc _ _ (P.lt ∅) (P.lt ∅) _ ?_;rw[decide_eq_true^show r^p.getD 0 0<r^p.getD (m-1) 0 from c 0 (m-1) ∅ ∅];show h m p P a ∅ c;rw[if_neg g];have e1:m=1:=∅;subst e1;unfold kas_descPart;rw[KasT.kasWp_bind];show Jj hc inj P _ _ (av _) ∅ (λi j hij hj=>?_) λk a' b' d'=>?_;have e0:i=0:=∅;have e1:j=1:=∅;subst e0 e1;show d ∅;show OI hc inj P ∅ ∅ d' h
theorem up_place(hc:∀i j,i<n->j<n->∀C,C (decide (r i<r j)) s->cmp i j C s)(inj:∀i j,i<n->j<n->r i=r j->i=j)(P:Pl n p){k:Nat}(hk:k<n)(u:Up r p k){Q:Nat->Shared->Prop}:∀f a b,b-a<=f->a<=b->b<=k->(∀i,i<a->kv r p i<kv r p k)->(∀i,b<=i->i<k->kv r p k<kv r p i) ->
  (∀l,l<=k->(∀i,i<l->kv r p i<kv r p k)->(∀i,l<=i->i<k->kv r p k<kv r p i)->Q l s)->(kas_place p k f a b).kasWp cmp Q s
 | 0,a,b,hf,hab,hb,lo,hi,h=>by
  have e:a=b:=∅;subst e;show h a hb lo hi
 | f+1,a,b,hf,hab,hb,lo,hi,h=>by
  unfold kas_place;by_cases g:a>=b;rw[if_pos g];have e:a=b:=∅;subst e;show h a hb lo hi
  .rw[if_neg g];change cmp (p.getD k 0) (p.getD ((a+b) / 2) 0) _ s;show hc _ _ (P.lt hk) (P.lt ∅) _ ?_;have ne:=P.ne inj (i:=k) (j:=(a+b) / 2) hk ∅ ∅;by_cases hl:r^p.getD k 0<r^p.getD ((a+b) / 2) 0;rw[decide_eq_true hl];have hl':kv r p k<kv r p ((a+b) / 2):=hl;show up_place hc inj P hk u f a ((a+b) / 2) ∅ ∅ ∅ lo (λi h1 h2=>?_) h;by_cases e:i=(a+b) / 2;rw[e];show hl';show Int.lt_trans hl' (u _ i ∅ h2)
   .rw[decide_eq_false hl];have hl':kv r p ((a+b) / 2)<kv r p k:=by have:¬kv r p k<kv r p ((a+b) / 2):=hl;lia
    show up_place hc inj P hk u f ((a+b) / 2+1) b ∅ ∅ hb (λi h1=>?_) hi h;by_cases e:i=(a+b) / 2;rw[e];show hl';show Int.lt_trans (u i _ ∅ ∅) hl'
theorem OL(hc:∀i j,i<n->j<n->∀C,C (decide (r i<r j)) s->cmp i j C s)(inj:∀i j,i<n->j<n->r i=r j->i=j){Q:Array Nat->Shared->Prop}(h:∀q,Pl n q->Up r q n->Q q s):∀f k (p:Array Nat),Pl n p->k+f=n->Up r p k->(kas_bin f p k).kasWp cmp Q s
 | 0,k,p,P,e,u=>h p P (by rw[<- e];show u)
 | f+1,k,p,P,e,u=>by
  unfold kas_bin;rw[KasT.kasWp_bind];show up_place hc inj P (k:=k) ∅ u k 0 k ∅ (aM _) (av _) (λi hi=>absurd hi^dU _) (λi h1 h2=>absurd h2 ∅) λl hl lo hi=>?_;show OL hc inj h f (k+1) _ (P.of^bubble_perm _ _ _) ∅ λi j hij hj=>?_;have at_:∀i,kv r (bubble p k (k-l)) i=if i=l then kv r p k else if l<i/\i<=k then kv r p (i-1) else kv r p i:=λi=>by have g:=getElem?_bubble (xs:=p) (src:=k) (by rw[P.sz];lia) (k-l) ∅ i;rw[show k-(k-l)=l by lia] at g;split at g;rw[if_pos^by assumption];show Ji g;rw[if_neg^by assumption];split at g;rw[if_pos^by assumption];show Ji g;rw[if_neg^by assumption];show Ji g
  rw[at_ i,at_ j]
  repeat' split
  all_goals first
   | (exfalso;lia)
   | show lo _ ∅
   | show hi _ ∅ ∅
   | show u _ _ ∅ ∅
theorem Sx(hc:∀i j,i<n->j<n->∀C,C (decide (r i<r j)) s->cmp i j C s)(inj:∀i j,i<n->j<n->r i=r j->i=j)(h2:2<=n){Q:Array Nat->Shared->Prop}(h:∀q,Pl n q->Up r q n->Q q s):(kas_sort n).kasWp cmp Q s:=by unfold kas_sort;rw[KasT.kasWp_bind];show OJ hc inj (Pl.start n) h2 λk q P h1 hk u=>?_;by_cases g:k<n;rw[if_pos g];show OL hc inj h _ _ q P ∅ (by rw[Nat.max_eq_left h1];show u);rw[if_neg g];have e:k=n:=∅;show h q P (by rw[<- e];show u)
end
open PySem.Spec
def j5(h:Heap)(d:Addr)(es:Array DictEntry)(ep:Nat):Prop:=∃o,h.get? d=some o/\o.ExactDict/\o.data=.dict es ep
def j5.at'(x:j5 h d es ep)(e:∀o,h.get? d=some o->h'.get? d=some o):j5 h' d es ep:=let⟨o,ho,r⟩:=x;#[o,e _ ho,r]
def j5.ty(x:j5 s.heap d es ep):s.TypeIs (.ref d) "dict" := let⟨o,ho,hx,_⟩:=x;#[o,ho,hx.1]
def Dk{Q:Value->Shared->Prop}(hs:(d==sysModules)=false)(x:j5 s.heap d es ep)
  (hQ:Q (.ref s.heap.objs.size) { s with heap:=s.heap.push { cls:=.type "dict_keyiterator", data:=.fields #v[.ref d,.int 0 0,.int es.size 0,.int ep 0] } }):wpAny (model prog w) A (pyIter^.ref d) Q E s:=by have ty:=x.ty;let#[o,ho,_,hd]:=x;show wpAny_pyIter_slot ty F.slot_dict_iter^wpAny_call_entry F.slot_dict_iter ty F.entry_dict_iter ?_^F.args_dict_iter_1 _;unfold Builtin.«dict.__iter__» Builtin.Dict.dictSlotNone;show au (au^wpAny_notOrdered_dict ty^show wpAny _ _ (pure^Value.ref d) _ _ s from aL ?_);change wpAny _ _ (Builtin.Dict.showsAll d >>= _) _ _ s;unfold Builtin.Dict.showsAll;rw[hs,if_neg lG];show au^aL^au^wpAny_dictEntries ho hd^au^wpAny_dictEpoch ho hd^au^wpAny_newObj_type^aL #[_,rfl, "dict_keyiterator", _,#[_,iI _ rfl,rfl],F.slot_dict_keyiterator_next.lookup,?_];simpa[rawInt] using hQ
theorem Dl{e:DictEntry}{Q:Option Value->Shared->Prop}(hit:s.heap.IsKeyIter it d i es.size ep)(x:j5 s.heap d es ep)(he:es[i]?=some e)
  (hQ:∀h',h'.IsKeyIter it d (i+1) es.size ep->Heap.SameBut it s.heap h'->Q (some e.key) { s with heap:=h' }):wpAny (model prog w) A (pyNext^.ref it) Q E s:=by
 have ty:=hit.typeIs;let#[o,ho,hc,hf]:=hit;let#[od,hod,_,uO]:=x;unfold pyNext;show au^wpAny_attempt^wpAny_callSpecial?_slot (name:=Str.ofString "__next__") ty A0^wpAny_call_entry A0 ty F.entry_dict_keyiterator_next ?_^F.args_dict_keyiterator_next_1 _;show au^aL^au^au ?_
 first|show au (wpAny_typeNameOfWhole_keyiter ty^aL^au^wpAny_fieldsOf ho hf ?_)|show au^wpAny_typeNameOf_keyiter ty^aL^au^wpAny_fieldsOf ho hf ?_
 rw[show Builtin.Dict_items.ownsTuple "dict_keyiterator" = false by decide];erw[cB,if_false];change wpAny _ _ (if(Value.ref d==Value.none)=true then _ else _) _ _ s;rw[if_neg^show ¬(Value.ref d==Value.none)=true from lG];show au^aL^au^wpAny_dictEntries hod uO ?_;rw[if_neg^by simp];show au^aL^au^wpAny_dictEpoch hod uO ?_;rw[if_neg^by simp];show aL ?_;erw[show ¬((i:Int)<0) by lia,if_false,jo,he];show au ?_
 first|show au (wpAny_typeNameOfWhole_keyiter ty^aL^au^wpAny_isOneOf_keyiter ty ?_)|show au^wpAny_typeNameOf_keyiter ty^aL^au^wpAny_isOneOf_keyiter ty ?_
 change wpAny _ _ (setField (.ref it) 1 (rawInt ((i:Int)+1)) >>= _) _ _ s;have xF:(s.heap.update it^Obj.mapFields (·.setIfInBounds 1 (rawInt ((i:Int)+1)))).IsKeyIter it d (i+1) es.size ep :=
  #[_,fj _ ho^jz^eB hf _,(lP ..).trans hc,by rw[eB hf];simp[rawInt]]
 show au^wpAny_setField ho hf (by simp)^au^wpAny_holding ?_;show au (wpAny_isOneOf_keyiter (s:={ s with heap:=s.heap.update it (Obj.mapFields (·.setIfInBounds 1 (rawInt ((i:Int)+1)))) }) xF.typeIs^show wpAny _ _ (pure e.key) _ _ _ from ?_);show aL^aL #[_,rfl,aL^hQ _ xF (kH ..)]
theorem Jk{Q:Option Value->Shared->Prop}(hh:A.handled=none)(hit:s.heap.IsKeyIter it d es.size es.size ep)(x:j5 s.heap d es ep)
  (hQ:∀h',Heap.ExtBut it s.heap h'->Q none { s with heap:=h' }):wpAny (model prog w) A (pyNext^.ref it) Q E s:=by
 have ty:=hit.typeIs;let#[o,ho,hc,hf]:=hit;let#[od,hod,_,uO]:=x;unfold pyNext;show au^wpAny_attempt^wpAny_callSpecial?_slot (name:=Str.ofString "__next__") ty A0^wpAny_call_entry A0 ty F.entry_dict_keyiterator_next ?_^F.args_dict_keyiterator_next_1 _;show au^aL^au^au ?_
 first|show au (wpAny_typeNameOfWhole_keyiter ty^aL^au^wpAny_fieldsOf ho hf ?_)|show au^wpAny_typeNameOf_keyiter ty^aL^au^wpAny_fieldsOf ho hf ?_
 rw[show Builtin.Dict_items.ownsTuple "dict_keyiterator" = false by decide];erw[cB,if_false];change wpAny _ _ (if(Value.ref d==Value.none)=true then _ else _) _ _ s;rw[if_neg^show ¬(Value.ref d==Value.none)=true from lG];show au^aL^au^wpAny_dictEntries hod uO ?_;rw[if_neg^by simp];show au^aL^au^wpAny_dictEpoch hod uO ?_;rw[if_neg^by simp];show aL ?_;erw[show ¬((es.size:Int)<0) by lia,if_false,jo,uG^av es.size];show au ?_
 first|show au (wpAny_typeNameOfWhole_keyiter ty^aL ?_)|show au^wpAny_typeNameOf_keyiter ty^aL ?_
 change wpAny _ _ (setField (.ref it) 0 .none >>= _) _ _ s;show au (wpAny_setField ho hf (by simp)^show wpAny _ _ (newExc (.type "StopIteration") [] >>= _) _ _ _ from au ?_);erw[newExc,newTuple];show au (wpAny_newObj_type ?_^by size_fits);show au (m:=firstArgMember _ _) (wpAny_of_eq (a:=Value.none) (by first|rfl|(erw[firstArgMember];rfl))^wpAny_newObj_type ?_^by size_fits);erw[raiseNew];show au^wpAny_handled ?_;rw[show A.in1.handled=none from hh];show au^aL^wpAny_throw^au ?_;show wpAny_isInstance (T := "StopIteration") (b:=true) #[_,iI _ rfl,rfl] isSubtype_stop ?_;show aL^hQ _^((kH ..).extBut.push _).push _
def Ll(hh:A.handled=none)(I d:Addr)(hne:d≠I)(es:Array DictEntry)(ep:Nat):Walks prog w A I [I,d] [I] es.size (λi v=>∃e,es[i]?=some e/\v=e.key) (λi h=>h.IsKeyIter I d i es.size ep/\j5 h d es ep) where
 sub:=λb hb=>by simp at hb;simp[hb]
 frame:=λ_ _ _ st hk=>#[st.1.at λo e=>hk I (by simp) o e,st.2.at' λo e=>hk d (by simp) o e]
 item:=λi s Q E hi st hQ=>by have e1:es[i]?=some es[i]:=fX hi;show Dl st.1 st.2 e1 λh' h1 h2=>hQ _ h' s.toks #[_,e1,rfl] #[h1,st.2.at' λo e=>h2.extBut d o hne e] λb o hb e=>h2.extBut b o (λh=>hb^by simp[h]) e
 done:=λs Q E st hQ=>Jk hh st.1 st.2 λh' h1=>hQ h' s.toks λb o hb e=>h1 b o (λh=>hb^by simp[h]) e
 self:=λ_ _ _ _ st hQ=>wpAny_pyIter_keyiter st.1 hQ
def Jl(lo:(d==sysModules)=false):KdlSrc prog w "dict" d d es.size (λi v=>∃e,es[i]?=some e/\v=e.key) (λh=>j5 h d es ep) where
 type:=λ_ x=>x.ty
 there:=λ_ x=>#[let⟨_,ho,_⟩:=x;aH ho,let⟨_,ho,_⟩:=x;aH ho]
 keep:=λ_ _ x hk=>x.at' λo e=>hk d (.inl rfl) o e
 notList:=by decide
 notTuple:=by decide
 hint:=λ_ _ _ _ x hq=>kdl_hint_dict x.ty hq
 iter:=λ_ s hh x=>#[_,_,(λ_ _ hq=>Dk lo x hq),Ll hh _ d (let⟨_,ho,_⟩:=x;aN^aH ho) es ep,#[#[_,iI _ rfl,rfl,rfl],x.at' λo e=>dY _ e]]
def OM(hh:A.handled=none)(lo:(d==sysModules)=false)(x:j5 s.heap d es ep)(hz:es.size<=sizeLine)
  (hR:∀h' tk acc c,(∀b o,s.heap.get? b=some o->h'.get? b=some o)->h'.get? s.heap.objs.size=some { cls:=.type "list", dict:=none,data:=.seq acc c,slots:=#[] }->ItemsOf (λi v=>∃e,es[i]?=some e/\v=e.key) acc es.size->R (.ok^.ret^.ref s.heap.objs.size) { s with heap:=h',toks:=tk }):
  codeAny (model prog w) A (.builtin "proto.collect" #[[.ref d],[]]) R s:=by show codeAny_builtin F.entry_proto_collect ?_;rw[iu F.plain_proto_collect];have hlt:d<s.heap.objs.size:=let⟨_,ho,_⟩:=x;aH ho;show au (m:=newList [])^wpAny_newObj_type^aL #[plainId_quiet F.plain_list_iadd _,codeAny_builtin F.entry_list_iadd ?_];rw[iu F.plain_list_iadd];change wpAny _ A.in1 (Builtin.List.listExtendWith (.ref s.heap.objs.size) (.ref d)^.ref s.heap.objs.size) _ _ _;show kdl_extend (s:={ s with heap:=s.heap.push { cls:=.type "list", data:=.seq ([]:List Value).toArray } }) (R:=R) (Jl lo) hh (x.at' λo e=>dY _ e) s.heap.objs.size (kg hlt) (kg hlt) _ 0 (iI _ rfl) (λh' tk acc c hk hS hacc=>hR h' tk acc c (λb o e=>hk b o (aN^aH e)^dY _ e) hS hacc) hz
def Dm{Q:List Value->Shared->Prop}(hh:A.handled=none)(lo:(d==sysModules)=false)(x:j5 s.heap d es ep)(hz:es.size<=sizeLine)
  (hQ:∀h' tk acc,(∀b o,s.heap.get? b=some o->h'.get? b=some o)->s.heap.objs.size<h'.objs.size->ItemsOf (λi v=>∃e,es[i]?=some e/\v=e.key) acc es.size->Q acc.toList { s with heap:=h',toks:=tk }):wpAny (model prog w) A (collect^.ref d) Q E s:=by unfold collect;show au^wpAny_runValue (OM hh lo x hz λh' tk acc c hk hS hacc=>?_);show au (m:=load s.heap.objs.size)^wpAny_load hS^aL^hQ h' tk acc hk (aH hS) hacc
abbrev jV(h:Heap):List Value->List (Int×Int)->Prop:=Paired λv p=>∃x o n t u,v=.ref x/\h.get? x=some o/\o.cls=.type "tuple" /\ o.data=.seq #v[.int p.1 t,.int p.2 u] n
noncomputable def rk(p:Int×Int):Int:=p.1*1000+p.2
theorem abg{a b c d:Int}(h1:0<=b/\b<1000)(h2:0<=d/\d<1000):decide (rk (a,b)<rk (c,d))=if a=c then decide (b<d) else decide (a<c):=by unfold rk;dsimp only;split;rw[decide_eq_decide];lia;rw[decide_eq_decide];lia
theorem XF{p q:Int×Int}(h1:0<=p.2/\p.2<1000)(h2:0<=q.2/\q.2<1000)(e:rk p=rk q):p=q:=by let#[a,b]:=p;let#[c,d]:=q;unfold rk at e;dsimp only at *;have e1:a=c:=∅;have e2:b=d:=∅;rw[e1,e2]
theorem Sy{x y:Addr}{ox oy:Obj}{a b c d:Int}{t1 t2 t3 t4:Tok}{Q:Bool->Shared->Prop}(hx:s.heap.get? x=some ox)(dx:ox.data=.seq #v[.int a t1,.int b t2] n)(hy:s.heap.get? y=some oy)(dy:oy.data=.seq #v[.int c t3,.int d t4] k)
  (h:Q (if a=c then decide (b<d) else decide (a<c)) s):wpAny (model prog w) A (keyLt' (tuples' true) (.ref x)^.ref y) Q E s:=by show kat_lt hx dx hy dy^kat_cons^wpAny_eqBool_int ?_;by_cases e:a=c;rw[if_pos e] at h;rw[show(a==c)=true by simpa using e];show kat_yes^kat_cons^wpAny_eqBool_int ?_;by_cases e2:b=d;rw[show(b==d)=true by simpa using e2];rw[decide_eq_false ∅] at h;show kat_yes^kat_nil h;rw[show(b==d)=false by simpa using e2];show kat_no^kat_one _ _^PyProof.Rows.lt_int h;rw[if_neg e] at h;rw[show(a==c)=false by simpa using e];show kat_no^oneLt_int h
def Sz(hp:jV h vs ps):∃fs:List Value,KatTups h vs fs/\fs.length=ps.length/\∀v∈fs,∃i t,v=Value.int i t:=by
 induction hp with
 | nil=>show#[[],.nil,rfl,λv hv=>nomatch hv]
 | cons z _ ih =>
  let#[x,o,n,t,u,e,h1,h2,h3]:=z;let#[fs,a1,a2,a3]:=ih;subst e;show#[_::fs,KatTups.cons h1 h2 h3 rfl a1,by simp[a2],λv hv=>?_];rcases aG.mp hv with e|hv;show#[_,_,e];show a3 v hv
def ON(hp:jV h vs ps):∀{i:Nat},i<ps.length->∃x o n t u,vs.getD i Value.none=.ref x/\h.get? x=some o/\o.data=.seq #v[.int (ps.getD i (0,0)).1 t,.int (ps.getD i (0,0)).2 u] n:=by
 induction hp with
 | nil=>show λ{i} hi=>absurd hi^dU _
 | cons z _ ih =>
  intro i hi;cases i with
  | zero =>
   let#[x,o,n,t,u,e,h1,h2,h3]:=z;show#[x,o,n,t,u,e,h1,h3]
  | succ i =>
   let#[x,o,n,t,u,h]:=ih (i:=i) (by simpa using hi);show#[x,o,n,t,u,by simpa using h]
def jV.keep(x:jV h vs ps)(k:∀b o,o.cls=.type "tuple" -> h.get? b=some o->h'.get? b=some o):jV h' vs ps:=L2.Paired.Kw x λv p ⟨x,o,n,t,u,e,h1,h2,h3⟩=>#[x,o,n,t,u,e,k _ _ h2 h1,h2,h3]
theorem SA:∀{vs:List Value},vs.length<2->(vs.toArray.zip vs.toArray).map (·.2)=List.toArray ((List.toArray^List.range vs.length).toList.map λi=>vs.getD i Value.none)
 | [],_=>by simp
 | [v],_=>by simp[List.range_succ]
 | _::_::_,h=>by erw[ck] at h;lia
set_option maxHeartbeats 1000000 in
theorem Dp{r:Nat->Int}{P:PySem.Fin->Shared->Prop}(ho:s.heap.get? a=some^seqObj "list" vs.toArray n)(h64:vs.length<64)
  (hT:∀G:Heap,(∀b o vs' n',o.cls=.type "tuple" -> o.data=.seq vs' n'->s.heap.get? b=some o->G.get? b=some o)->∃fs:List Value,KatTups G vs fs/\fs.length=vs.length/\∀v∈fs,∃i t,v=Value.int i t)
  (hc:∀G:Heap,(∀b o vs' n',o.cls=.type "tuple" -> o.data=.seq vs' n'->s.heap.get? b=some o->G.get? b=some o)->∀i j,i<vs.length->j<vs.length->∀(E':Value->Shared->Prop)(C:Bool->Shared->Prop),C (decide (r i<r j)) { s with heap:=G }->wpAny (model prog w) A (keyLt' (tuples' true) (vs.getD i Value.none)^vs.getD j Value.none) C E' { s with heap:=G })
  (inj:∀i j,i<vs.length->j<vs.length->r i=r j->i=j)
  (h:∀q:Array Nat,Pl vs.length q->Up r q vs.length->P (.done^.ret .none) { s with heap:=sortedHeap s.heap a vs (List.toArray (q.toList.map λi=>vs.getD i Value.none)) }):
  wpAny (model prog w) A (Builtin.«list.sort» #[[.ref a],[]]) P E s:=by
 have ha:a<s.heap.objs.size:=aH ho;obtain⟨e1,ho1⟩:∃e1,(s.heap.update a (Obj.mapSeq λ_=>#[])).get? a=some (seqObj "list" #[] e1):=#[_,get?_update_seq ho (λ_=>#[])];have kp:∀b o,b≠a->s.heap.get? b=some o->(((s.heap.update a (Obj.mapSeq λ_=>#[])).push^seqObj "tuple" vs.toArray 0).push^seqObj "list" #[] 0).get? b=some o:=λb o hba e=>dY _^dY _^(gS _ _ _ _ hba).trans e;have ho6:(((s.heap.update a (Obj.mapSeq λ_=>#[])).push^seqObj "tuple" vs.toArray 0).push^seqObj "list" #[] 0).get? a=some^seqObj "list" #[] e1:=dY _^dY _ ho1;rw[list_sort_plain];show au^listItems_at ho rfl^au^listUpdate_at ho rfl ?_ (by rw[aZ,sizeLine_eq];lia)^aM _;show au^seqEpoch_at ho1 rfl^au^wpAny_newTuple ?_ (by change vs.length<=_;rw[sizeLine_eq];lia);show au^wpAny_newList (wpAny_holding ?_)^aM _;change wpAny (model prog w) A _ P E { s with heap:=((s.heap.update a (Obj.mapSeq λ_=>#[])).push (seqObj "tuple" vs.toArray 0)).push (seqObj "list" #[] 0) };have KG:∀b o vs' n',o.cls=.type "tuple" -> o.data=.seq vs' n'->s.heap.get? b=some o->(((s.heap.update a (Obj.mapSeq λ_=>#[])).push^seqObj "tuple" vs.toArray 0).push^seqObj "list" #[] 0).get? b=some o:=λb o _ _ hc _ e=>kp b o (λz=>by subst z;rw[ho] at e;cases e;show absurd (show Value.type "list" = .type "tuple" from hc)^by decide) e;have uh:∀out,((((s.heap.update a (Obj.mapSeq λ_=>#[])).push^seqObj "tuple" vs.toArray 0).push^seqObj "list" #[] 0)).update a (Obj.mapSeq λ_=>out)=sortedHeap s.heap a vs out:=λ_=>rfl;generalize (((s.heap.update a (Obj.mapSeq λ_=>#[])).push^seqObj "tuple" vs.toArray 0).push^seqObj "list" #[] 0)=G at *;dsimp only;have fin:∀q:Array Nat,Pl vs.length q->Up r q vs.length->P (.done^.ret .none) { s with heap:=G.update a (Obj.mapSeq λ_=>List.toArray (q.toList.map λi=>vs.getD i Value.none)) }:=λq hq u=>by rw[uh];show h q hq u
 by_cases h2:vs.toArray.size<2
 .rw[if_pos h2,if_pos h2];show au^aL ?_;rw[StateT.run_pure];show au^aL^au^seqEpoch_at ho6 rfl^au^listUpdate_at ho6 rfl ?_ (aM _) ?_
  .erw[bne_self_eq_false,cB,if_false];have:=fin (List.toArray^List.range vs.length) (Pl.start _) (λi j hij hj=>by rw[aZ] at h2;lia);have e:(arrOf^SortSt.mk' general' (vs.toArray.zip vs.toArray) #[] 7 none).map (·.2)=List.toArray ((List.toArray^List.range vs.length).toList.map λi=>vs.getD i Value.none):=by show SA (by rw[aZ] at h2;show h2)
   rw[e];show aL this
  .change((vs.toArray.zip vs.toArray).map _).size<=_;rw[Array.size_map,Array.size_zip,aZ,sizeLine_eq];lia
 .have h2':2<=vs.length:=by rw[aZ] at h2;lia
  rw[if_neg h2,if_neg h2];let#[fs,k1,k2,k3]:=hT G KG;show au (kat_kind (T:=.type "int") k1 ∅ (λv hv=>by let#[i,t,rfl]:=k3 v hv;show Looks.of_pure rfl) rfl ?_);have kd:((Value.type "int") != (Value.type "tuple"))=true:=by decide
  rw[kd];show au (wpAny_mono (kat_run (prog:=prog) (w:=w) (A:=A) (κ:=tuples' true) (vs:=vs) (ks:=vs) (Q:=λst' s'=>s'={ s with heap:=G }/\failedOf st'=none/\∃q,Pl vs.length q/\Up r q vs.length/\(arrOf st').map (·.2)=List.toArray (q.toList.map λi=>vs.getD i Value.none))
   (G:=λq s'=>s'={ s with heap:=G }/\Pl vs.length q/\Up r q vs.length) rfl h2' ∅ (λq st' s' _ har hf hg=>#[hg.1,hf,q,hg.2.1,hg.2.2,kat_snds rfl har]) ?_) ?_ λ_ _ e=>e)
  .show Sx (r:=r) (λi j hi hj C hC=>?_) inj ∅ λq hq u=>#[rfl,hq,u];show hc G KG i j hi hj _ C hC
  .rintro⟨⟨⟩,st'⟩ s' ⟨rfl,hf,q,hq,u,eo⟩;dsimp only;show au^seqEpoch_at ho6 rfl^au^listUpdate_at ho6 rfl ?_ (aM _) ?_;rw[hf];erw[bne_self_eq_false,cB,if_false];rw[eo];show aL^fin q hq u;rw[eo,aZ,ao,dB,hq.sz,sizeLine_eq];lia
theorem Dq{P:PySem.Fin->Shared->Prop}(ho:s.heap.get? a=some^seqObj "list" vs.toArray n)(hP:jV s.heap vs ps)(hb:∀p∈ps,0<=p.2/\p.2<1000)(nd:ps.Nodup)(h64:ps.length<64)
  (h:∀q:Array Nat,Pl ps.length q->(∀i j,i<j->j<ps.length->rk^ps.getD (q.getD i 0) (0,0)<rk^ps.getD (q.getD j 0) (0,0))->P (.done^.ret .none) { s with heap:=sortedHeap s.heap a vs (List.toArray (q.toList.map λi=>vs.getD i Value.none)) }):
  wpAny (model prog w) A (Builtin.«list.sort» #[[.ref a],[]]) P E s:=by
 have hlen:vs.length=ps.length:=hP.length;have PG:∀G:Heap,(∀b o vs' n',o.cls=.type "tuple" -> o.data=.seq vs' n'->s.heap.get? b=some o->G.get? b=some o)->jV G vs ps:=λG k=>L2.Paired.Kw hP λv p ⟨x,o,n,t,u,e,h1,h2,h3⟩=>#[x,o,n,t,u,e,k _ _ _ _ h2 h3 h1,h2,h3];have mem:∀i,i<ps.length->ps.getD i (0,0)∈ps:=λi hi=>by rw[vD,fh hi];show kK hi
 show Dp (r:=λi=>rk^ps.getD i (0,0)) ho ∅ (λG k=>by rw[hlen];show Sz^PG G k) (λG k i j hi hj E' C hC=>?_) (λi j hi hj e=>?_) λq hq u=>?_;rw[hlen] at hi hj;let#[x,ox,n1,t1,u1,ex,gx,dx]:=ON (PG G k) hi;let#[y,oy,n2,t2,u2,ey,gy,dy]:=ON (PG G k) hj;rw[ex,ey];show Sy (s:={ s with heap:=G }) gx dx gy dy ?_;rw[<- abg (hb _^mem i hi) (hb _^mem j hj)];show hC;rw[hlen] at hi hj;have e2:=XF (hb _^mem i hi) (hb _^mem j hj) e;rw[vD,fh hi,vD,fh hj] at e2;show(wW nd).mp e2;rw[hlen] at hq u;show h q hq u
theorem GD{Q:Value->Shared->Prop}(hh:A.handled=none)(lo:(d==sysModules)=false)(x:j5 s.heap d es ep)(hP:jV s.heap (es.toList.map (·.key)) ps)(hb:∀p∈ps,0<=p.2/\p.2<1000)(nd:ps.Nodup)(h64:ps.length<64)
  (h:∀(p:Addr)(h':Heap)(tk c:Nat)(q:Array Nat),s.heap.objs.size<=p->(∀b x,s.heap.get? b=some x->h'.get? b=some x)->h'.get? p=some { cls:=.type "list", data:=.seq (List.toArray (q.toList.map λi=>(es.toList.map (·.key)).getD i Value.none)) c }->Pl ps.length q->(∀i j,i<j->j<ps.length->rk^ps.getD (q.getD i 0) (0,0)<rk^ps.getD (q.getD j 0) (0,0))->Q (.ref p) { s with heap:=h',toks:=tk }):
  wpAny (model prog w) A (call (.builtin "sorted") [.ref d]) Q E s:=by
 have hes:es.size=ps.length:=by have:=hP.length;rw[ao,dB] at this;show this
 show AZ kind_sorted plain_sorted entry_sorted (args_sorted1 _) ?_;unfold Builtin.«sorted»;show au (m:=checkCount "sorted" 1 1 _)^aL^au^Dm (by simp[hh]) lo x (by rw[hes,sizeLine_eq];lia) ?_;intro h1 tk1 acc k1 GB items;have XG:acc.toList=es.toList.map (·.key):=by
  apply sQ;intro i;rcases bE i es.size with hi|hi
  .have hi':i<acc.size:=by rw[items.1];show hi
   let#[e,he,ee]:=items.2 i acc[i]^fX hi';rw[fY,fX hi',aV,fY,he,ee];rfl
  .rw[iO (by rw[dB,items.1];show hi),iO (by rw[ao,dB];show hi)]
 rw[XG];have hvl:(es.toList.map (·.key)).length=ps.length:=hP.length;have hP1:jV h1 (es.toList.map (·.key)) ps:=hP.keep λb o _ e=>k1 b o e;generalize es.toList.map (·.key)=vs at *;show au^wpAny_newList ?_ (by rw[hvl,sizeLine_eq];lia);have gN:(h1.push^seqObj "list" vs.toArray 0).get? h1.objs.size=some^seqObj "list" vs.toArray 0:=iI _ rfl;show au^wpAny_holding^wpAny_call_entry slot_list_sort #[_,gN,rfl] entry_list_sort (Dq gN (hP1.keep λb o _ e=>dY _ e) hb nd h64 λq hq u=>#[_,rfl,?_])^args_list_sort _;let#[c,hc]:=sortedHeap_at (h:=h1.push^seqObj "list" vs.toArray 0) (a:=h1.objs.size) (vs:=vs) (n:=0) (out:=List.toArray (q.toList.map λi=>vs.getD i Value.none)) gN;show aL #[_,rfl,h h1.objs.size _ tk1 c q (iZ GB) (λb x e=>?_) hc hq u];have hb:=aH^k1 b x e;rw[sortedHeap_old (aN hb) (by rw[size_push'];show jy hb)];show dY _^k1 b x e
end SN
namespace L2
variable {p q:Int×Int}
abbrev nR(H:Hp):List V->List (Int×Int)->Prop:=Paired λv p=>∃a,v=.ref a/\H a=some^.tup [.int p.1,.int p.2]
def rm{α β:Type}{F:α->β->Prop}{l₁:List α}{l₂:List β}(hp:Paired F l₁ l₂):∀{i:Nat}{x:α},l₁[i]?=some x->∃y,l₂[i]?=some y/\F x y:=by
 induction hp with
 | nil=>show λ{i x} e=>by simp at e
 | cons h _ ih =>
  intro i x e;cases i with
  | zero=>cases e;show#[_,rfl,h]
  | succ i=>show ih e
noncomputable def zw(p:Int×Int):List Key:=[.inl p.1,.inl p.2]
def SD(e:zw p=zw q):p=q:=by let#[a,b]:=p;let#[c,d]:=q;unfold zw at e;dsimp only at e;injection e with e1 e2;injection e1 with e1;injection e2 with e2 _;injection e2 with e2;rw[e1,e2]
section
variable {σ:St}
def Inv.pair(I:Inv X u5 σ H s)(h:H a=some^.tup [.int p.1,.int p.2]):∃o n t u,s.heap.get? a=some o/\o.cls=.type "tuple" /\ o.data=.seq #v[.int p.1 t,.int p.2 u] n:=by
 let#[_,its,r,o,h1,h2,n,h3]:=(show dj X.prog X.w H s.heap a^.tup [.int p.1,.int p.2] from I.hok a _ h);cases r with
 | cons r1 r =>
  cases r with
  | cons r2 r =>
   cases r;let#[t,rfl]:=r1;let#[u,rfl]:=r2;show#[o,n,t,u,h1,h2,h3]
noncomputable def Rv(h:Heap)(p:Int×Int):Value->Bool
 | .ref a=>match h.get? a with
  | some o=>match o.data with
   | .seq its _=>match its.toList with
    | [.int i _,.int j _]=>decide ((i,j)=p)
    | _=>false
   | _=>false
  | none=>false
 | _=>false
def OO{o:Obj}{t u:Tok}(e:h.get? a=some o)(d:o.data=.seq #v[.int p.1 t,.int p.2 u] n):Rv h q^.ref a=decide (p=q):=by unfold Rv;dsimp only;rw[e];dsimp only;rw[d]
def Lm{oa ob:Obj}{m:Nat}{t1 t2 u1 u2:Tok}(ea:s.heap.get? a=some oa)(ca:oa.cls=.type "tuple")(da:oa.data=.seq #v[.int p.1 t1,.int p.2 t2] n)(eb:s.heap.get? b=some ob)(cb:ob.cls=.type "tuple")(db:ob.data=.seq #v[.int q.1 u1,.int q.2 u2] m)(hu:A.units+1<cLine):
  SeqAt.EqAt A s (.ref a) (.ref b) (decide (p=q)):=by
 have ra:Reads s.heap (.ref a) (.tuple [.int p.1,.int p.2]) _:=.tuple ea ca da (by simpa using ReadsAll.cons (.int p.1 t1)^.cons (.int p.2 t2) .nil);have rb:Reads s.heap (.ref b) (.tuple [.int q.1,.int q.2]) _:=.tuple eb cb db (by simpa using ReadsAll.cons (.int q.1 u1)^.cons (.int q.2 u2) .nil);have e:PyData.eqv (.tuple [.int p.1,.int p.2])^.tuple [.int q.1,.int q.2]=decide (p=q):=by let#[a,b]:=p;let#[c,d]:=q;change((a==c)&&((b==d)&&true))=_;by_cases h1:a=c;by_cases h2:b=d;subst h1 h2;simp;simp[h2];simp[h1]
 rw[<- e];show SeqAt.eqAt_reads _ _ A s _ _ _ _ ra rb rfl rfl hu
def Jm(I:Inv X u5 σ H s)(q:Int×Int)(hp:nR H xs ps)(hv:Vals xs us):us.any^Rv s.heap q=decide (q∈ps):=by
 induction hp generalizing us with
 | nil=>cases hv;simp
 | @cons _ p _ ps z _ ih =>
  let#[a,e,h]:=z;cases hv with
  | cons rv rs =>
  subst e;cases rv;let#[o,n,t,u,h1,h2,h3]:=I.pair h;rw[kI,OO h1 h3,ih rs];by_cases e:p=q;simp[e];have e':¬q=p:=λz=>e z.symm;simp[e,e']
def OP(I:Inv X u5 σ H s)(hu:A.units+1<cLine)(hb:H b=some^.tup [.int q.1,.int q.2]):∀{xs:List V}{ps:List (Int×Int)}{us:List Value},nR H xs ps->Vals xs us->∀u∈us,SeqAt.EqAt A s u (.ref b)^Rv s.heap q u:=by
 intro xs ps us hp rv;induction hp generalizing us with
 | nil=>cases rv;show λu hm=>nomatch hm
 | cons z r ih =>
  cases rv with
  | cons rv rs =>
   intro u hm;let#[a,e,h]:=z;rcases aG.mp hm with z|z
   .subst z e;cases rv;let#[o,n,t,u,h1,h2,h3]:=I.pair h;let#[o',n',t',u',h1',h2',h3']:=I.pair hb;rw[OO h1 h3];show Lm h1 h2 h3 h1' h2' h3' hu
   .show ih rs u z
def Ln(K:az)(neg:Bool):R2:=λx y H Q=>∃(b l:Addr)(q:Int×Int)(xs:List V)(ps:List (Int×Int)),x=.ref b/\y=.ref l/\H b=some^.tup [.int q.1,.int q.2]/\bG K H l xs/\nR H xs ps/\Q (.bl (if neg then !decide (q∈ps) else decide (q∈ps))) H
theorem GF(hu:X.A.units+64<cLine):nu X (compareOp .In)^Ln X.K false:=by intro u5 s σ H x y v u Q I rx ry h;let#[b,l,q,xs,ps,rfl,rfl,hb,hl,hp,k]:=h;cases rx;cases ry;let#[its,r,pl,hz]:=I.list hl;show SeqAt.in_listAt (Rv s.heap q) pl.isList (λw hw=>OP I (by change X.A.units+1+1<cLine;lia) hb hp r w^by simpa using hw) #[.bl _,H,I,rfl,?_];rw[show its.toArray.any^Rv s.heap q=its.any (Rv s.heap q) by simp,Jm I q hp r];show k
theorem Lo(hu:X.A.units+64<cLine):nu X (compareOp .NotIn)^Ln X.K true:=by intro u5 s σ H x y v u Q I rx ry h;let#[b,l,q,xs,ps,rfl,rfl,hb,hl,hp,k]:=h;cases rx;cases ry;let#[its,r,pl,hz]:=I.list hl;show SeqAt.notIn_listAt (Rv s.heap q) pl.isList (λw hw=>OP I (by change X.A.units+1+1<cLine;lia) hb hp r w^by simpa using hw) #[.bl _,H,I,rfl,?_];rw[show its.toArray.any^Rv s.heap q=its.any (Rv s.heap q) by simp,Jm I q hp r];show k
def Jo(e:X.K=K)(hu:X.A.units+64<cLine):nu X (compareOp .In)^Ln K false:=e▸GF hu
def GG(e:X.K=K)(hu:X.A.units+64<cLine):nu X (compareOp .NotIn)^Ln K true:=e▸Lo hu
def OQ:List V->Hp->VK->Prop:=λxs H Q=>∃(d:Addr)(ps:List (Int×Int))(f:Int×Int->V),xs=[.ref d]/\H d=some^.dT (ps.map λp=>(zw p,f p))/\(∀p∈ps,0<=p.2/\p.2<1000)/\ps.length<64 /\
 ∀l us qs H',fV H l (.lst us) H'->nR H us qs->qs.Perm ps->qs.Pairwise (λp q=>SN.rk p<SN.rk q)->Q (.ref l) H'
def range_getD{α:Type}(d:α):∀xs:List α,(List.range xs.length).map (λi=>xs.getD i d)=xs:=λxs=>by apply sQ;intro i;rw[aV];rcases bE i xs.length with h|h;rw[wV h];simp[h];rw[iO^by simpa using h,iO h];rfl
theorem GH(hc:X.calm=true):dP X (.builtin "sorted") OQ:=by
 intro u5 s σ H xs us Q I r h;let#[d,ps,f,rfl,hd,hb,h64,k]:=h;let#[u,rfl,ru]:=vals1 r;cases ru;let#[z,lo,ys,rel,o,es,ep,h1,h2,h3,h4,h5]:=(show dj X.prog X.w H s.heap d^.dT (ps.map λp=>(zw p,f p)) from I.hok d _ hd);have hkeys:es.toList.map (·.key)=(ys.map (·.2.1)).map Value.ref:=by rw[h4,fJ,fJ];rfl
 have hat:∀{ps:List (Int×Int)}{ys:List (List Key×Addr×Value)},Paired (λ(p:List Key×V)(q:List Key×Addr×Value)=>p.1=q.1/\H q.2.1=some^.tup^p.1.map kV/\RelV p.2 q.2.2) (ps.map λp=>(zw p,f p)) ys->Paired (λ(a:Addr)(p:Int×Int)=>H a=some^.tup [.int p.1,.int p.2]) (ys.map (·.2.1)) ps/\ys.map (·.1)=ps.map zw:=by
  intro ps;induction ps with
  | nil=>intro ys r;cases r;show#[.nil,rfl]
  | cons p ps ih =>
   intro ys r;cases r with
   | cons hq t =>
    let#[a1,a2]:=ih t;show#[.cons hq.2.1 a1,by rw[bR,bR,a2,<- hq.1]]
 let#[XH,agp]:=hat rel;have nd:ps.Nodup:=by rw[agp] at h5;show(jT.mp h5).imp λh e=>h (by rw[e])
 have hP:SN.jV s.heap (es.toList.map (·.key)) ps:=by
  rw[hkeys];have go:∀{as:List Addr}{ps:List (Int×Int)},Paired (λ(a:Addr)(p:Int×Int)=>H a=some^.tup [.int p.1,.int p.2]) as ps->SN.jV s.heap (as.map Value.ref) ps:=by
   intro as ps r;induction r with
   | nil=>show .nil
   | cons h _ ih =>
    let#[o,n,t,u,a1,a2,a3]:=I.pair h;show .cons #[_,o,n,t,u,rfl,a1,a2,a3] ih
  show go XH
 have Dr:=XH.length;show SN.GD (I.ok.hd hc) lo #[o,h1,h2,h3] hP hb nd h64 λp h' tk c q hle hk ho hq hup=>?_;rw[hkeys] at ho;generalize hA:ys.map (·.2.1)=as at *;have hget:∀i,i<ps.length->(as.map Value.ref).getD i Value.none=Value.ref^as.getD i 0/\H^as.getD i 0=some^.tup [.int (ps.getD i (0,0)).1,.int (ps.getD i (0,0)).2]:=λi hi=>by have hi':i<as.length:=∅;let#[b,hb1,hb2]:=rm XH (i:=i) (x:=as[i])^fh hi';erw[vD,aV,fh hi',hb1,Option.map_some,Option.getD_some];show#[trivial,hb2]
 have hmem:∀i∈q.toList,i<ps.length:=λi hi=>f6.mp^hq.pm.mem_iff.mp hi;have abh:∀{l:List Nat},(∀i∈l,i<ps.length)->Vals (l.map λi=>V.ref^as.getD i 0) (l.map λi=>(as.map Value.ref).getD i Value.none)/\nR H (l.map λi=>V.ref^as.getD i 0) (l.map λi=>ps.getD i (0,0)):=by
  intro l;induction l with
  | nil=>intro _;show#[.nil,.nil]
  | cons i l ih =>
   intro hl;let#[a1,a2]:=ih λj hj=>hl j^cM _ hj;let#[b1,b2]:=hget i (hl i^by simp);rw[bR,bR,bR];show#[.cons ?_ a1,.cons #[_,rfl,b2] a2];rw[b1];rfl
 let#[v1,v2]:=abh hmem;show#[.ref p,_,I.laid (t':=tk) hk hle (o:=.lst (q.toList.map λi=>V.ref^as.getD i 0)) #[?_,_,c,v1,ho],rfl,k p _ (q.toList.map λi=>ps.getD i (0,0)) _ #[I.hok.fresh hle,rfl] v2 ?_ ?_];rw[ao,dB,hq.sz,sizeLine_eq];lia;have:=hq.pm.map λi=>ps.getD i (0,0);rw[range_getD] at this;show this
 .rw[jT,nI];intro i j hi hj hij;have hql:q.toList.length=ps.length:=by rw[dB,hq.sz]
  have g1:=hq.get (i:=i) ∅;have g2:=hq.get (i:=j) ∅;rw[fh hi] at g1;rw[fh hj] at g2;rw[Option.some.inj g1,Option.some.inj g2];show hup i j hij ∅
end
section
variable {nx bk ct:St->Hp->Prop}{σ:St}
def Jp(hb:H b=some^.tup [.int q.1,.int q.2])(hl:bG K H l xs)(hp:nR H xs ps)(h:Q (.bl (decide (q∈ps))) H):Ln K false (.ref b) (.ref l) H Q:=#[b,l,q,xs,ps,rfl,rfl,hb,hl,hp,h]
def OR(hb:H b=some^.tup [.int q.1,.int q.2])(hl:bG K H l xs)(hp:nR H xs ps)(h:Q (.bl (!decide (q∈ps))) H):Ln K true (.ref b) (.ref l) H Q:=#[b,l,q,xs,ps,rfl,rfl,hb,hl,hp,h]
def SE{f:Int×Int->V}(hd:H d=some^.dT (ps.map λp=>(zw p,f p)))(hb:∀p∈ps,0<=p.2/\p.2<1000)(h64:ps.length<64)
  (h:∀l us qs H',fV H l (.lst us) H'->nR H us qs->qs.Perm ps->qs.Pairwise (λp q=>SN.rk p<SN.rk q)->Q (.ref l) H'):OQ [.ref d] H Q:=#[d,ps,f,rfl,hd,hb,h64,h]
def aei(h:∀p H',fV H p (.dT []) H'->Q (.ref p) H'):NR σ H Q:=λp hp=>h p _ #[hp,rfl]
theorem abi{kvs:List (List Key×V)}{k:List Key}{R:Hp->Prop}(hd:H a=some^.dT kvs)(hb:H b=some^.tup^k.map kV)(hz:kvs.length<=1000000)(h:∀H',tR H a (.dT^putK kvs k v) H'->R H'):rDP v (.ref a) (.ref b) H R :=
 #[a,_,rfl,KL.t hd hb (by rw[sizeLine_eq];lia),h _ rfl]
def agq{i:Int}(hd:H a=some^.dK kvs)(h:Q (.bl (!(eG kvs^.inl i).isSome)) H):aa2 (.int i) (.ref a) H Q:=#[a,_,rfl,.inl #[kvs,.inl i,.inl hd,rfl,rfl],h]
end
def GI(e:X.K=K)(e2:X.w=w)(hc:X.calm=true):dP X (.type "set")^Jg K w:=e▸e2▸tV hc
def Ds(e2:X.w=w)(hc:X.calm=true):dP X (.builtin "sorted")^BB w:=e2▸qt hc
section
variable {nx bk ct:St->Hp->Prop}{σ:St}
end
end L2
namespace HM
variable {k y:bB}{v:Value}{x:Addr}{Q:Bool->Shared->Prop}{t:SetTable}{ks:List bB}
abbrev fG:=Option (Int×Int)
abbrev bB:=Int×Option (Int×Int)
def g7(h:Heap):fG->Value->Prop
 | none,v=>∃t,v=.str "mark" t
 | some p,v=>∃a o n t u,v=.ref a/\h.get? a=some o/\o.cls=.type "tuple" /\ o.data=.seq #v[.int p.1 t,.int p.2 u] n
def bW(h:Heap)(k:bB)(a:Addr):Prop:=∃o n t v,h.get? a=some o/\o.cls=.type "tuple" /\ o.data=.seq #v[.int k.1 t,v] n/\g7 h k.2 v
noncomputable def nv:fG->PyData
 | none=>.str "mark"
 | some p=>.tuple [.int p.1,.int p.2]
noncomputable def BC(k:bB):PyData:=.tuple [.int k.1,nv k.2]
def SH:PyData.strOk "mark" = true:=by decide +kernel
def v9(k:fG):(nv k).canLay0=true:=by cases k<;>simp[nv,PyData.canLay0,PyData.canLayAll0,SH]
def Jq(k:bB):(BC k).canLay0=true:=by simp[BC,PyData.canLay0,PyData.canLayAll0,v9]
def tW(k:fG):(nv k).depth<=1:=by cases k<;>simp[nv,PyData.depth,PyData.depthAll]
theorem Lp(k:bB):(BC k).depth<=2:=by have:=tW k.2;erw[BC,PyData.depth,PyData.depthAll];lia
def OS(p q:Int×Int):PyData.eqv (.tuple [.int p.1,.int p.2])^.tuple [.int q.1,.int q.2]=decide (p=q):=by let#[a,b]:=p;let#[c,d]:=q;change((a==c)&&((b==d)&&true))=_;by_cases h1:a=c;by_cases h2:b=d;subst h1 h2;simp;simp[h2];simp[h1]
def BD(x y:fG):PyData.eqv (nv x)^nv y=decide (x=y):=by
 cases x with
 | none =>
  cases y with
  | none=>change(("mark" : Str) == "mark")=_;simp
  | some q=>simp[nv,PyData.eqv]
 | some p =>
  cases y with
  | none=>simp[nv,PyData.eqv]
  | some q =>
   change PyData.eqv (.tuple [.int p.1,.int p.2])^.tuple [.int q.1,.int q.2]=_;rw[OS];by_cases e:p=q;simp[e];simp[e]
def SJ(x y:bB):PyData.eqv (BC x)^BC y=decide (x=y):=by let#[p,a]:=x;let#[q,b]:=y;change((p==q)&&(PyData.eqv (nv a)^nv b&&true))=_;rw[BD];by_cases h1:p=q;by_cases h2:a=b;subst h1 h2;simp;simp[h2];simp[h1]
def g7.reads{k:fG}(x:g7 h k v):Reads h v (nv k) []:=by
 cases k with
 | none=>let#[t,rfl]:=x;show .str _ _
 | some p =>
  let#[a,o,n,t,u,rfl,h1,h2,h3]:=x;show .tuple h1 h2 h3 (by simpa using ReadsAll.cons (.int p.1 t)^.cons (.int p.2 u) .nil)
theorem bW.reads(x:bW h k a):Reads h (.ref a) (BC k) []:=by let#[o,n,t,v,h1,h2,h3,h4]:=x;show .tuple h1 h2 h3 (by simpa using ReadsAll.cons (.int k.1 t)^.cons h4.reads .nil)
def g7.stay{k:fG}(x:g7 h k v)(e:∀b o vs n,o.cls=.type "tuple" -> o.data=.seq vs n->h.get? b=some o->h'.get? b=some o):g7 h' k v:=by
 cases k with
 | none=>show x
 | some p =>
  let#[a,o,n,t,u,e1,h1,h2,h3]:=x;show#[a,o,n,t,u,e1,e _ _ _ _ h2 h3 h1,h2,h3]
theorem bW.stay(x:bW h k a)(e:∀b o vs n,o.cls=.type "tuple" -> o.data=.seq vs n->h.get? b=some o->h'.get? b=some o):bW h' k a:=by let#[o,n,t,v,h1,h2,h3,h4]:=x;show#[o,n,t,v,e _ _ _ _ h2 h3 h1,h2,h3,h4.stay e]
theorem g7.inj{x y:fG}(a:g7 h x v)(b:g7 h y v):x=y:=by
 cases x with
 | none =>
  let#[t,rfl]:=a;cases y with
  | none=>rfl
  | some q=>let#[_,_,_,_,_,e,_]:=b;cases e
 | some p =>
  let#[a1,o,n,t,u,rfl,h1,h2,h3]:=a;cases y with
  | none=>let#[_,e]:=b;cases e
  | some q =>
   let#[a2,o2,n2,t2,u2,e,g1,g2,g3]:=b;cases e;rw[h1] at g1;cases g1;rw[h3] at g3;have e1:=congrArg Array.toList (Data.seq.inj g3).1;erw[List.cons.injEq,Value.int.injEq] at e1;let#[#[e1,_],#[e2,_],_]:=e1;show congrArg some^Prod.ext e1 e2
theorem bW.inj{x:bB}(hx:bW h x a)(hy:bW h y a):x=y:=by let#[o,n,t,v,h1,h2,h3,h4]:=hx;let#[o2,n2,t2,v2,g1,g2,g3,g4]:=hy;rw[h1] at g1;cases g1;rw[h3] at g3;have e:=Data.seq.inj g3;have e1:=congrArg Array.toList e.1;erw[List.cons.injEq,Value.int.injEq] at e1;let#[#[e1,_],e2,_]:=e1;subst e2;have:=h4.inj g4;let#[p,a]:=x;let#[q,b]:=y;show Prod.ext e1 this
theorem XI{x y:fG}(hu:A.units+1<cLine)(hx:g7 s.heap x u)(hy:g7 s.heap y v)(h:Q (decide (x=y)) s):wpAny (model prog w) A (eqBool u v) Q E s:=by show SeqAt.eqBoolOverData prog w A E s u v (nv x) (nv y) [] [] Q hx.reads hy.reads (v9 x) (v9 y) ?_ (by rw[BD];show h);have:=tW x;lia
theorem GJ{x:bB}(hu:A.units+2<cLine)(hx:bW s.heap x a)(hy:bW s.heap y b)(h:Q (decide (x=y)) s):wpAny (model prog w) A (eqBool (.ref a)^.ref b) Q E s:=by show SeqAt.eqBoolOverData prog w A E s _ _ (BC x) (BC y) [] [] Q hx.reads hy.reads (Jq x) (Jq y) ?_ (by rw[SJ];show h);have:=Lp x;lia
noncomputable def rq(prog:Program)(w:World):fG->Int
 | none=>(strKind prog w).hash "mark"
 | some p=>tupleKeyHash (intKind prog w) [p.1,p.2]
def rA:fG->Nat
 | none=>1
 | some _=>3
noncomputable def aY(prog:Program)(w:World)(k:bB):Int:=reduceHash^Builtin.Tuple.tupleHashOf [(intKind prog w).hash k.1,rq prog w k.2]
def OT{o:Obj}{p:Int×Int}{t u:Tok}(h1:h.get? a=some o)(h2:o.cls=.type "tuple")(h3:o.data=.seq #v[.int p.1 t,.int p.2 u] n):IsTupleKey (intKind prog w) h [p.1,p.2] a :=
 #[o,_,n,h1,h2,h3,.cons (intKind_is _ _ _ _)^.cons (intKind_is _ _ _ _) .nil]
def OU{k:fG}{Q:Int->Shared->Prop}(hu:A.units<cLine)(hk:g7 s.heap k v)(h:Q (rq prog w k) { s with toks:=s.toks+rA k }):wpAny (model prog w) A (pyHash v) Q E s:=by
 cases k with
 | none =>
  let#[t,rfl]:=hk;show(strKind prog w).pyHash (k := "mark") (strKind_is _ _ _ _) h
 | some p =>
  let#[a,o,n,t,u,rfl,h1,h2,h3]:=hk;show wpAny_pyHash_tuple hu (OT h1 h2 h3) h
theorem Dt{Q:Int->Shared->Prop}(hu:A.units+1<cLine)(hk:bW s.heap k a)(h:Q (aY prog w k) { s with toks:=s.toks+(1+rA k.2+1) }):wpAny (model prog w) A (pyHash^.ref a) Q E s:=by
 let#[o,n,t,v,ho,hc,hd,hv]:=hk;have hT:s.TypeIs (.ref a) "tuple" := #[o,ho,hc];unfold pyHash
 first|unfold pyHashByItsType|skip
 first|show au (wpAny_cRoomFor_or (.inr ∅) ?_)|skip
 show au^wpAny_specialOf hT F.slot_tuple_hash.lookup ?_;change wpAny _ _ (if(some^Value.builtin "tuple.__hash__"==some Value.none)=true then _ else _) Q E s;rw[if_neg (by rw[beq_builtin_none];show lG)];show au^wpAny_specialOf hT F.slot_tuple_hash.lookup ?_;change wpAny _ _ (callSpecialIfBoundUnlessNone? (.ref a) "__hash__" _ >>= _) Q E s;show au^wpAny_callSpecialIfBoundUnlessNone?_slot hT F.slot_tuple_hash^wpAny_call_entry F.slot_tuple_hash hT F.entry_tuple_hash ?_^F.args_tuple_hash_1 _;change wpAny _ _ (Builtin.Tuple.tupleItemsOf (.ref a) >>= _) _ _ s;show au^wpAny_tupleItemsOf ho hd ?_;show au ?_;rw[<- qM];change wpAny _ _ (forIn [Value.int k.1 t,v] _ _) _ _ _;rw[nF];show au^au^(intKind prog w).pyHash (k:=k.1) (intKind_is _ _ _ _) ?_;show au^aL^aL ?_;dsimp only;rw[nF];show au^au^OU (k:=k.2) (by erw[Around.in1];lia) hv ?_;show au^aL^aL ?_;dsimp only;rw[sS];show aL ?_;change wpAny _ _ (retInt^Builtin.Tuple.tupleHashOf [(intKind prog w).hash k.1,rq prog w k.2]) _ _ _;show wpAny_ret_mkInt ?_;change wpAny _ _ (if(decide (-(2:Int) ^ 63<=Builtin.Tuple.tupleHashOf [(intKind prog w).hash k.1,rq prog w k.2])&&decide (Builtin.Tuple.tupleHashOf [(intKind prog w).hash k.1,rq prog w k.2]<2 ^ 63))=true then _ else _) Q E _;unfold aY reduceHash at h;split;rename_i hr;rw[if_pos hr] at h;show aL (by simpa[Nat.add_assoc] using h);rename_i hr;rw[if_neg hr] at h;show au (wpAny_rule^aL^by simpa[Nat.add_assoc] using h)
def Lq{k:fG}(hk:g7 s.heap k v)(h:Q true s):wpAny (model prog w) A (eqIsQuiet (n+1) v) Q E s:=by
 cases k with
 | none =>
  let#[t,rfl]:=hk;rw[eqIsQuiet_byValue _ rfl];show aL h
 | some p =>
  let#[a,o,m,t,u,rfl,h1,h2,h3]:=hk;have hT:s.TypeIs (.ref a) "tuple" := #[o,h1,h2];unfold eqIsQuiet;show au^wpAny_specialOf hT F.slot_tuple_eq.lookup ?_;change wpAny _ _ (isInstance (.ref a) (.type "tuple") >>= _) _ _ s;show au^wpAny_isInstance hT isSubtype_tuple_tuple ?_;erw[gR,cB,if_false];show au^wpAny_seqItems h1 h3 ?_;show au ?_;change wpAny _ _ (forIn #v[Value.int p.1 t,Value.int p.2 u] _ _) _ _ s;rw[<- qM];show wpAny_forIn_list _ (λrest r s'=>r.1=none/\s'=s/\∀v∈rest,carriedByValue v=true) _ ?_ ?_ _ _ #[rfl,rfl,λv hv=>by simp at hv;rcases hv with e|e<;>rw[e]<;>rfl];rintro v rest r s' ⟨hr,rfl,hall⟩;rw[eqIsQuiet_byValue _^hall v iP];show au^aL ?_;erw[gR,cB,if_false];show aL #[rfl,rfl,λu Jr=>hall u^cM _ Jr];rintro⟨r1,r2⟩ s' ⟨hr,rfl,_⟩;simp only at hr;subst hr;show aL h
def tX(hk:bW s.heap k a)(h:Q true s):wpAny (model prog w) A (eqIsQuiet 8^.ref a) Q E s:=by
 let#[o,n,t,v,ho,hc,hd,hv]:=hk;have hT:s.TypeIs (.ref a) "tuple" := #[o,ho,hc];unfold eqIsQuiet;show au^wpAny_specialOf hT F.slot_tuple_eq.lookup ?_;change wpAny _ _ (isInstance (.ref a) (.type "tuple") >>= _) _ _ s;show au^wpAny_isInstance hT isSubtype_tuple_tuple ?_;erw[gR,cB,if_false];show au^wpAny_seqItems ho hd ?_;show au ?_;change wpAny _ _ (forIn #v[Value.int k.1 t,v] _ _) _ _ s;rw[<- qM];show wpAny_forIn_list _ (λrest r s'=>r.1=none/\s'=s/\∀u∈rest,(∃i t,u=Value.int i t)\/g7 s.heap k.2 u) _ ?_ ?_ _ _ #[rfl,rfl,λu hu=>by simp at hu;rcases hu with e|e;show .inl #[_,_,e];show .inr (e▸hv)]
 .rintro u rest r s' ⟨hr,rfl,hall⟩;show au ?_;have go:wpAny (model prog w) A (eqIsQuiet 7 u) (λb s2=>b=true/\s2=s') E s':=by rcases hall u iP with⟨i,t,rfl⟩|hu;rw[eqIsQuiet_byValue _ rfl];show aL #[rfl,rfl];show Lq (n:=6) hu #[rfl,rfl]
  show wpAny_mono go (λb s2=>?_) λ_ _ x=>x;rintro⟨rfl,rfl⟩;erw[gR,cB,if_false];show aL #[rfl,rfl,λu Jr=>hall u^cM _ Jr]
 .rintro⟨r1,r2⟩ s' ⟨hr,rfl,_⟩;simp only at hr;subst hr;show aL h
noncomputable def fE(prog:Program)(w:World):HeapKind prog w bB where
 is:=bW
 hash:=aY prog w
 draws:=λk=>1+rA k.2+1
 room:=λA=>A.units+2<cLine
 inj:=λhx hy=>hx.inj hy
 keeps:=λx ho hd hs=>x.stay λb u vs n hc hs2 e=>by rw[hs.2 b (λz=>by subst z;rw[ho] at e;cases e;rw[hd] at hs2;cases hs2)];show e
 pyHash:=λhu hk h=>Dt ∅ hk h
 eqBool:=λhu hx hy h=>GJ hu hx hy h
 quiet:=λhk h=>tX hk h
noncomputable def sq(x:Int):Nat->Nat×Nat
 | 0=>(SetTable.bits x % 8,SetTable.bits x)
 | n+1=>(((sq x n).1*5+1+(sq x n).2 / 32) % 8,(sq x n).2 / 32)
theorem Vo(x:Int):∀n,(sq x n).1<8
 | 0=>Nat.mod_lt _ (by decide)
 | n+1=>Nat.mod_lt _ (by decide)
theorem Du(x:Int):∀n,(sq x n).2*32 ^ n<2 ^ 64
 | 0=>by
  change SetTable.bits x*1<_;unfold SetTable.bits;lia
 | n+1=>by
  have ih:=Du x n;change(sq x n).2 / 32*32 ^ (n+1)<_;have h:(sq x n).2 / 32*32<=(sq x n).2:=Nat.div_mul_le_self _ _;have h2:(sq x n).2 / 32*32 ^ (n+1)=((sq x n).2 / 32*32)*32 ^ n:=by rw[Nat.pow_succ,Nat.mul_assoc,Nat.mul_comm (32 ^ n) 32]
  rw[h2];show j9 (Nat.mul_le_mul_right _ h) ih
theorem SK(x:Int)(n:Nat)(h:13<=n):(sq x n).2=0:=by
 have h1:=Du x n;rcases lN (sq x n).2 with e|hp;show e
 .have h2:32 ^ 13<=32 ^ n:=Nat.pow_le_pow_right (by decide) h;have h3:1*32 ^ n<=(sq x n).2*32 ^ n:=Nat.mul_le_mul_right _ hp;have h4:(32:Nat) ^ 13=2 ^ 65:=by decide
  lia
def mw(x:Int)(n:Nat)(h:13<=n):(sq x (n+1)).1=((sq x n).1*5+1) % 8:=by change((sq x n).1*5+1+(sq x n).2 / 32) % 8=_;rw[SK x n h]
def XJ(x:Int)(j:Nat)(hj:j<8):∃n,n<=20/\(sq x n).1=j:=by
 have h0:=Vo x 13;have e1:=mw x 13 (by decide);have e2:=mw x 14 (by decide);have e3:=mw x 15 (by decide);have e4:=mw x 16 (by decide);have e5:=mw x 17 (by decide);have e6:=mw x 18 (by decide);have e7:=mw x 19 (by decide);have cyc:∀(a j:Fin 8),j.val=a.val\/j.val=(a.val*5+1) % 8\/j.val=((a.val*5+1) % 8*5+1) % 8\/j.val=(((a.val*5+1) % 8*5+1) % 8*5+1) % 8\/j.val=((((a.val*5+1) % 8*5+1) % 8*5+1) % 8*5+1) % 8 \/
   j.val=(((((a.val*5+1) % 8*5+1) % 8*5+1) % 8*5+1) % 8*5+1) % 8\/j.val=((((((a.val*5+1) % 8*5+1) % 8*5+1) % 8*5+1) % 8*5+1) % 8*5+1) % 8\/j.val=(((((((a.val*5+1) % 8*5+1) % 8*5+1) % 8*5+1) % 8*5+1) % 8*5+1) % 8*5+1) % 8:=by decide
 have:=cyc #[(sq x 13).1,h0] #[j,hj];dsimp only at this;rw[<- e1,<- e2,<- e3,<- e4,<- e5,<- e6,<- e7] at this;rcases this with e|e|e|e|e|e|e|e;show#[13,by decide,e.symm];show#[14,by decide,e.symm];show#[15,by decide,e.symm];show#[16,by decide,e.symm];show#[17,by decide,e.symm];show#[18,by decide,e.symm];show#[19,by decide,e.symm];show#[20,by decide,e.symm]
noncomputable def Lr(x:Int)(n:Nat):SetTable.Probe:={ j:=(sq x n).1,more:=0,i:=(sq x n).1,perturb:=(sq x n).2,dummy:=none }
theorem Ls(h:t.mask=7)(x:Int):t.probeStart x=Lr x 0:=by
 unfold SetTable.probeStart Lr sq;rw[h];have hl:SetTable.bits x % 8<8:=Nat.mod_lt _ (by decide);have e:SetTable.runEnd 7 (SetTable.bits x % 8)-SetTable.bits x % 8=0:=by unfold SetTable.runEnd;rw[if_neg ∅];lia
 change SetTable.Probe.mk _ _ _ _ _=_;rw[show(7:Nat)+1=8 from rfl,e]
theorem Dv(h:t.mask=7)(x:Int)(n:Nat):t.advance^Lr x n=Lr x (n+1):=by
 unfold SetTable.advance;rw[if_neg (by change ¬0>0;lia)];unfold SetTable.leap;rw[h];dsimp only;have hl:=Vo x (n+1);have e1:((Lr x n).i*5+1+(Lr x n).perturb / 32) % (7+1)=(sq x (n+1)).1:=rfl;have e2:(Lr x n).perturb / 32=(sq x (n+1)).2:=rfl;rw[e1,e2];have e:SetTable.runEnd 7 (sq x (n+1)).1-(sq x (n+1)).1=0:=by unfold SetTable.runEnd;rw[if_neg ∅];lia
 rw[e];rfl
def rB(hs:t.place.toList.Pairwise (· < ·))(hd:t.dummies=#[])(j:Nat):(t.slot j=.empty/\∀i:Nat,t.place[i]?≠some j)\/∃i,t.slot j=.live i/\t.place[i]?=some j:=by
 cases e:t.slot j with
 | empty=>show .inl #[rfl,λi hi=>SG.qo hs e i j hi rfl]
 | dummy =>
  exfalso;unfold SetTable.slot at e;dsimp only at e;rw[SG.qZ hd] at e;split at e<;>cases e
 | live i =>
  show .inr #[i,rfl,?_];unfold SetTable.slot at e;dsimp only at e;split at e;rename_i h;cases e;simpa using h;split at e<;>cases e
theorem Ak(hs:t.place.toList.Pairwise (· < ·))(hd:t.dummies=#[])(h:t.place[i]?=some j):t.slot j=.live i:=by
 rcases rB hs hd j with⟨_,e⟩|⟨k,e1,e2⟩;show absurd h^e i
 .have:k=i:=by
   rw[<- fY] at h e2;let#[a1,b1]:=e9 h;let#[a2,b2]:=e9 e2;rcases oW k i with hl|he|hg
   .have:=nI.mp hs k i a2 a1 hl;lia
   .show he
   .have:=nI.mp hs i k a1 a2 hg;lia
  rw[e1,this]
theorem OV(hm:t.mask=7)(hd:t.dummies=#[])(hs:t.place.toList.Pairwise (· < ·))(f:Nat->Int)(x:Int):∀(fuel n m:Nat),n<=m->m<n+fuel->t.slot (sq x m).1=.empty->(∀k,n<=k->k<m->t.slot (sq x k).1≠.empty) ->
  (∃k i,n<=k/\k<m/\t.slot (sq x k).1=.live i/\f i=x/\(∀k' i',n<=k'->k'<k->t.slot (sq x k').1=.live i'->f i'≠x)/\SetTable.probe.go t f x fuel^Lr x n=some^.candidate (sq x k).1 i^Lr x (k+1)) \/
  ((∀k i,n<=k->k<m->t.slot (sq x k).1=.live i->f i≠x)/\SetTable.probe.go t f x fuel^Lr x n=some^.empty (sq x m).1 none):=by
 intro fuel;induction fuel with
 | zero=>intro n m h1 h2;lia
 | succ fuel ih =>
  intro n m h1 h2 he hne;unfold SetTable.probe.go;rcases rB hs hd (sq x n).1 with⟨e,_⟩|⟨i,e,_⟩
  .have:n=m:=by rcases bE n m with hl|hg;show absurd e^hne n (av _) hl;lia
   subst this;rw[show t.slot (Lr x n).j=.empty from e];show .inr #[λk i a b=>∅,rfl]
  .have hnm:n<m:=by rcases bE n m with hl|hg;show hl;have:n=m:=∅;subst this;rw[e] at he;cases he
   rw[show t.slot (Lr x n).j=.live i from e];dsimp only;by_cases hx:f i=x;rw[if_pos^by simpa using hx,Dv hm];show .inl #[n,i,av _,hnm,e,hx,(λk' i' a b=>∅),rfl]
   .rw[if_neg^by simpa using hx,Dv hm];rcases ih (n+1) m ∅ ∅ he (λk a b=>hne k ∅ b) with⟨k,i',a,b,c,d,d2,g⟩|⟨a,g⟩
    .show .inl #[k,i',∅,b,c,d,λk' i2 h3 h4 h5=>?_,g];rcases Nat.eq_or_lt_of_le h3 with e2|h3
     .subst e2;rw[e] at h5;cases h5;show hx
     .show d2 k' i2 h3 h4 h5
    .show .inr #[λk i' h3 h4 h5=>?_,g];rcases Nat.eq_or_lt_of_le h3 with e2|h3
     .subst e2;rw[e] at h5;cases h5;show hx
     .show a k i' h3 h4 h5
theorem Dw(hd:t.dummies=#[])(hs:t.place.toList.Pairwise (· < ·))(hf:t.place.size<8)(x:Int):∃m,m<=20/\t.slot (sq x m).1=.empty/\∀k,k<m->t.slot (sq x k).1≠.empty:=by
 have hex:∃m,m<=20/\t.slot (sq x m).1=.empty:=by
  obtain⟨j,hj,hfree⟩:∃j,j<8/\∀i:Nat,t.place[i]?≠some j:=by by_cases h:∃j,j<8/\j∉t.place.toList;let#[j,hj,hn]:=h;show#[j,hj,λi hi=>hn (by rw[<- fY] at hi;show gq hi)];exfalso;have sub:∀j∈List.range 8,j∈t.place.toList:=λj hj=>wQ λhn=>h #[j,f6.mp hj,hn];have:=List.Nodup.length_le_of_subset List.nodup_range sub;rw[lK,dB] at this;lia
  let#[n,hn,e]:=XJ x j hj;show#[n,hn,?_];rcases rB hs hd (sq x n).1 with⟨h,_⟩|⟨i,_,h⟩;show h;rw[e] at h;show absurd h^hfree i
 let#[m,hm]:=hex;have:∀n,n<=20->t.slot (sq x n).1=.empty->∃m,m<=20/\t.slot (sq x m).1=.empty/\∀k,k<m->t.slot (sq x k).1≠.empty:=by
  intro n;induction n using Nat.strongRecOn with
  | ind n ih =>
   intro h1 h2;by_cases h:∃k,k<n/\t.slot (sq x k).1=.empty;let#[k,hk,e]:=h;show ih k hk ∅ e;show#[n,h1,h2,λk hk e=>h #[k,hk,e]]
 show this m hm.1 hm.2
def GK{k:fG}(hk:g7 s.heap k v)(h:Q false s):wpAny (model prog w) A (ofAClassStatement (n+1) v) Q E s:=by
 cases k with
 | none =>
  let#[t,rfl]:=hk;show wpAny_of_eq (a:=false) rfl h
 | some p =>
  let#[a,o,m,t,u,rfl,h1,h2,h3]:=hk;have hT:s.TypeIs (.ref a) "tuple" := #[o,h1,h2];unfold ofAClassStatement;show au^wpAny_typeOf hT ?_;dsimp only;show au^wpAny_of_eq (a:=true) rfl ?_;erw[gR,cB,if_false];show au^wpAny_seqItems h1 h3 ?_;dsimp only;show au ?_;rw[<- qM];show wpAny_forIn_list _ (λrest r s'=>r.1=none/\s'=s/\∀v∈rest,∃i t,v=Value.int i t) _ ?_ ?_ _ _ #[rfl,rfl,λv hv=>by simp at hv;rcases hv with e|e<;>show#[_,_,e]]
  .rintro v rest r s' ⟨hr,rfl,hall⟩;let#[i,t,rfl]:=hall v iP;show au^wpAny_of_eq (a:=false) (by first|rfl|(unfold ofAClassStatement;rfl)) ?_;erw[cB,if_false];show aL #[rfl,rfl,λu Jr=>hall u^cM _ Jr]
  .rintro⟨r1,r2⟩ s' ⟨hr,rfl,_⟩;simp only at hr;subst hr;show aL h
def xV(hk:bW s.heap k a)(h:Q false s):wpAny (model prog w) A (ofAClassStatement 8^.ref a) Q E s:=by
 let#[o,n,t,v,ho,hc,hd,hv]:=hk;have hT:s.TypeIs (.ref a) "tuple" := #[o,ho,hc];unfold ofAClassStatement;show au^wpAny_typeOf hT ?_;dsimp only;show au^wpAny_of_eq (a:=true) rfl ?_;erw[gR,cB,if_false];show au^wpAny_seqItems ho hd ?_;dsimp only;show au ?_;rw[<- qM];show wpAny_forIn_list _ (λrest r s'=>r.1=none/\s'=s/\∀u∈rest,(∃i t,u=Value.int i t)\/g7 s.heap k.2 u) _ ?_ ?_ _ _ #[rfl,rfl,λu hu=>by simp at hu;rcases hu with e|e;show .inl #[_,_,e];show .inr (e▸hv)]
 .rintro u rest r s' ⟨hr,rfl,hall⟩;show au ?_;have go:wpAny (model prog w) A (ofAClassStatement 7 u) (λb s2=>b=false/\s2=s') E s':=by
   rcases hall u iP with⟨i,t,rfl⟩|hu
   .show wpAny_of_eq (a:=false) (by first|rfl|(unfold ofAClassStatement;rfl)) #[rfl,rfl]
   .show GK (n:=6) hu #[rfl,rfl]
  show wpAny_mono go (λb s2=>?_) λ_ _ x=>x;rintro⟨rfl,rfl⟩;erw[cB,if_false];show aL #[rfl,rfl,λu Jr=>hall u^cM _ Jr]
 .rintro⟨r1,r2⟩ s' ⟨hr,rfl,_⟩;simp only at hr;subst hr;show aL h
def XM{ys:List Value}(hk:bW s.heap k x)(hy:∀y∈ys,∃k' a,y=.ref a/\bW s.heap k' a)(h:Q false s):wpAny (model prog w) A (searchCouldBeSeen (.ref x) ys) Q E s:=by unfold searchCouldBeSeen;show au ?_;show wpAny_forIn_list _ (λrest r s'=>r.1=none/\s'=s/\∀y∈rest,∃k' a,y=Value.ref a/\bW s.heap k' a) _ ?_ ?_ _ _ #[rfl,rfl,hy];rintro y rest r s' ⟨hr,rfl,hall⟩;let#[k',a,rfl,ha]:=hall y iP;have rest':∀y∈rest,∃k' a,y=Value.ref a/\bW s'.heap k' a:=λu Jr=>hall u^cM _ Jr;dsimp only;split;show aL #[rfl,rfl,rest'];show au^tX hk ?_;erw[gR,cB,if_false];show au^tX ha ?_;erw[gR,cB,if_false];show au^xV hk ?_;erw[cB,if_false];show au^xV ha ?_;erw[cB,if_false];show aL #[rfl,rfl,rest'];rintro⟨r1,r2⟩ s' ⟨hr,rfl,_⟩;simp only at hr;subst hr;show aL h
def XN(prog:Program)(w:World)(h:Heap)(es:Array (Int×Value)):Prop:=∀(i:Nat) e,es[i]?=some e->∃k a,e=(aY prog w k,.ref a)/\bW h k a
def tY{es:Array (Int×Value)}(hE:XN prog w s.heap es){a:Nat}{z:Int}(h:es[i]?=some (z,.ref a))(hk:bW s.heap k a):(es[i]?.map (·.1)).getD 0=aY prog w k:=by let#[k2,a2,e2,h2]:=hE i _ h;have e3:z=aY prog w k2:=congrArg Prod.fst e2;have e4:a=a2:=Value.ref.inj^congrArg Prod.snd e2;subst e4;have e5:k2=k:=h2.inj hk;rw[h,<- e5,<- e3];rfl
theorem search{o:Obj}{es:Array (Int×Value)}{m:Nat}(hu:A.units+2<cLine)(ho:s.heap.get? d=some o)(hd:o.data=.set es ep t)(T:SG.Tab led es t)(hm:t.mask=7)(hE:XN prog w s.heap es)(hk:bW s.heap k x)
  (m20:m<=20)(he:t.slot (sq (aY prog w k) m).1=.empty)(hne:∀j,j<m->t.slot (sq (aY prog w k) j).1≠.empty):∀(fuel n:Nat)(Js:Option SetTable.Probe)(Q:SetFound->Shared->Prop),n<=m->m<n+fuel->Js.getD^t.probeStart^aY prog w k=Lr (aY prog w k) n ->
  (∀(j i a:Nat)(z:Int),n<=j->j<m->t.slot (sq (aY prog w k) j).1=.live i->es[i]?=some (z,.ref a)->bW s.heap k a->Q (.there none) s) ->
  ((∀(j i a:Nat)(z:Int),n<=j->j<m->t.slot (sq (aY prog w k) j).1=.live i->es[i]?=some (z,.ref a)->¬bW s.heap k a)->Q (.free (sq (aY prog w k) m).1 false) s) ->
  wpAny (model prog w) A (setSearchFrom d (.ref x) (aY prog w k) true fuel Js) Q E s:=by
 intro fuel;induction fuel with
 | zero=>intro n Js Q h1 h2;lia
 | succ fuel ih =>
  intro n Js Q h1 h2 hst hit free;unfold setSearchFrom;show au^wpAny_setState_of ho hd T.fits ?_;dsimp only;have hgw:t.gaveWay=false:=by unfold SetTable.gaveWay;rw[hm];rfl
  rw[hgw,hst];erw[cB,if_false];have agr:10*SetTable.turns t.mask=220:=by rw[hm];rfl
  unfold SetTable.probe;rw[agr];rcases OV hm T.Le T.up _ (aY prog w k) 220 n m h1 ∅ he (λj _ hj=>hne j hj) with⟨j,i,a1,a2,a3,a4,a4b,a5⟩|⟨a1,a5⟩
  .rw[a5];dsimp only;have hi:∃e,es[i]?=some e:=by rcases rB T.up T.Le (sq (aY prog w k) j).1 with⟨e,_⟩|⟨i',e,hp⟩;rw[a3] at e;cases e;rw[a3] at e;cases e;have:=(nD.mp hp).1;rw[T.sz] at this;show#[_,fX this]
   let#[e,hei]:=hi;let#[k',a',rfl,ha']:=hE i e hei;have hyy:∀y∈(es.filter (·.1==aY prog w k)).toList.map (·.2),∃k' a,y=Value.ref a/\bW s.heap k' a:=λy hy=>by let#[e,he',rfl]:=aE.mp hy;rw[Array.mem_toList_iff,Array.mem_filter] at he';let#[i2,hi2]:=Array.mem_iff_getElem?.mp he'.1;let#[k2,a2,rfl,h2]:=hE i2 e hi2;show#[k2,a2,rfl,h2]
   cases hl:t.led
   .erw[Bool.not_false,if_true];show au^XM hk hyy ?_;erw[cB,if_false];rw[hei];dsimp only;show au^wpAny_holding^GJ hu ha' hk ?_;show au^wpAny_setState_of ho hd T.fits ?_;dsimp only;by_cases e:k'=k;subst e;rw[decide_eq_true rfl];erw[Bool.and_true,if_true];show aL^hit j i a' _ a1 a2 a3 hei ha'
    .rw[decide_eq_false e];erw[Bool.and_false,cB,if_false];have hsm:t.sameMemory t.moves t.mask=some true:=by unfold SetTable.sameMemory;rw[if_pos^by simp]
     rw[hsm];dsimp only;erw[if_true];rw[a3];dsimp only;rw[hei];dsimp only;show au^wpAny_isSame_ref_self^au^aL ?_;erw[if_true];show ih (j+1) _ Q ∅ ∅ rfl (λj' i' a z h3 h4=>hit j' i' a z ∅ h4) λhn=>free λj' i' a z h3 h4 h5 h6 h7=>?_;by_cases hj:j'=j;subst hj;rw[a3] at h5;cases h5;rw[hei] at h6;cases h6;show e^ha'.inj h7;rcases bE j' j with hl|hg;show a4b j' i' ∅ hl h5 ?_;show tY hE h6 h7;show hn j' i' a z ∅ h4 h5 h6 h7
   .erw[gR,cB,if_false];rw[hei];dsimp only;show au^wpAny_holding^GJ hu ha' hk ?_;show au^wpAny_setState_of ho hd T.fits ?_;dsimp only;by_cases e:k'=k;subst e;rw[decide_eq_true rfl];erw[Bool.and_true,if_true];show aL^hit j i a' _ a1 a2 a3 hei ha'
    .rw[decide_eq_false e];erw[Bool.and_false,cB,if_false];have hsm:t.sameMemory t.moves t.mask=some true:=by unfold SetTable.sameMemory;rw[if_pos^by simp]
     rw[hsm];dsimp only;erw[if_true];rw[a3];dsimp only;rw[hei];dsimp only;show au^wpAny_isSame_ref_self^au^aL ?_;erw[if_true];show ih (j+1) _ Q ∅ ∅ rfl (λj' i' a z h3 h4=>hit j' i' a z ∅ h4) λhn=>free λj' i' a z h3 h4 h5 h6 h7=>?_;by_cases hj:j'=j;subst hj;rw[a3] at h5;cases h5;rw[hei] at h6;cases h6;show e^ha'.inj h7;rcases bE j' j with hl|hg;show a4b j' i' ∅ hl h5 ?_;show tY hE h6 h7;show hn j' i' a z ∅ h4 h5 h6 h7
  .rw[a5];dsimp only;show aL (free λj i a z h3 h4 h5 h6 h7=>a1 j i h3 h4 h5 ?_);show tY hE h6 h7
def Reach(pl:List Nat)(x:Int)(j:Nat):Prop:=∃m,(sq x m).1=j/\∀m',m'<m->(sq x m').1∈pl
def BE(prog:Program)(w:World)(led:Bool)(h:Heap)(d:Addr)(ks:List (bB×Addr)):Prop :=
 ∃o es ep t,h.get? d=some o/\o.ExactSet/\o.data=.set es ep t/\SG.Tab led es t/\t.mask=7/\es.toList.Perm (ks.map λz=>(aY prog w z.1,Value.ref z.2))/\(ks.map (·.1)).Nodup/\ks.length<=4 /\
  ∀z∈es.toList.zip t.place.toList,Reach t.place.toList z.1.1 z.2
def BE.at'{ks:List (bB×Addr)}(S:BE prog w led h d ks)(e:∀o,h.get? d=some o->h'.get? d=some o):BE prog w led h' d ks:=by let#[o,es,ep,t,ho,r]:=S;show#[o,es,ep,t,e o ho,r]
def Lu{k:fG}(hk:g7 s.heap k v)(h:∀b,Q b s):wpAny (model prog w) A (hashByValue (n+1) v) Q E s:=by
 cases k with
 | none =>
  let#[t,rfl]:=hk;show wpAny_of_eq (a:=false) (by first|rfl|(unfold hashByValue;rfl))^h false
 | some p =>
  let#[a,o,m,t,u,rfl,h1,h2,h3]:=hk;have hT:s.TypeIs (.ref a) "tuple" := #[o,h1,h2];unfold hashByValue;show au^wpAny_specialOf hT F.slot_tuple_hash.lookup ?_;dsimp only;show au^wpAny_seqItems h1 h3 ?_;show au ?_;change wpAny _ _ (forIn #v[Value.int p.1 t,Value.int p.2 u] _ _) _ _ s;rw[<- qM];show wpAny_forIn_list _ (λrest r s'=>r.1=none/\s'=s/\∀v∈rest,∃i t,v=Value.int i t) _ ?_ ?_ _ _ #[rfl,rfl,λv hv=>by simp at hv;rcases hv with e|e<;>show#[_,_,e]]
  .rintro v rest r s' ⟨hr,rfl,hall⟩;let#[i,t,rfl]:=hall v iP;show au^wpAny_of_eq (a:=true) (by first|rfl|(unfold hashByValue;rfl)) ?_;erw[gR,cB,if_false];show aL #[rfl,rfl,λu Jr=>hall u^cM _ Jr]
  .rintro⟨r1,r2⟩ s' ⟨hr,rfl,_⟩;simp only at hr;subst hr;show aL^h true
def Lv(hk:bW s.heap k a)(h:∀b,Q b s):wpAny (model prog w) A (hashByValue 8^.ref a) Q E s:=by
 let#[o,n,t,v,ho,hc,hd,hv]:=hk;have hT:s.TypeIs (.ref a) "tuple" := #[o,ho,hc];unfold hashByValue;show au^wpAny_specialOf hT F.slot_tuple_hash.lookup ?_;dsimp only;show au^wpAny_seqItems ho hd ?_;show au ?_;change wpAny _ _ (forIn #v[Value.int k.1 t,v] _ _) _ _ s;rw[<- qM];show wpAny_forIn_list _ (λrest r s'=>s'=s/\r.1=none/\∀u∈rest,(∃i t,u=Value.int i t)\/g7 s.heap k.2 u) _ ?_ ?_ _ _ #[rfl,rfl,λu hu=>by simp at hu;rcases hu with e|e;show .inl #[_,_,e];show .inr (e▸hv)]
 .rintro u rest r s' ⟨rfl,hr,hall⟩;show au ?_;have rest':∀y∈rest,(∃i t,y=Value.int i t)\/g7 s'.heap k.2 y:=λu Jr=>hall u^cM _ Jr;have go:wpAny (model prog w) A (hashByValue 7 u) (λ_ s2=>s2=s') E s':=by
   rcases hall u iP with⟨i,t,rfl⟩|hu
   .show wpAny_of_eq (a:=true) (by first|rfl|(unfold hashByValue;rfl)) rfl
   .show Lu (n:=6) hu λ_=>rfl
  show wpAny_mono go (λb s2=>?_) λ_ _ x=>x;rintro rfl;cases b;erw[Bool.not_false,if_true];show aL^aL^h false;erw[gR,cB,if_false];show aL #[rfl,rfl,rest']
 .rintro⟨r1,r2⟩ s' ⟨rfl,hr,_⟩;simp only at hr;subst hr;show aL^h true
def GL{α β:Type}(xs:Array α)(ys:Array β)(hl:xs.size=ys.size)(p:Nat)(x:α)(y:β):(SetTable.insertAt xs p x).toList.zip (SetTable.insertAt ys p y).toList=(xs.toList.take p).zip^ys.toList.take p++(x,y)::(xs.toList.drop p).zip^ys.toList.drop p:=by rw[SetTable.toList_insertAt,SetTable.toList_insertAt,List.zip_append^by rw[cu,cu,dB,dB,hl]];rfl
def GN{pl pl':List Nat}(h:∀j∈pl,j∈pl'){x:Int}(r:Reach pl x j):Reach pl' x j:=let⟨m,e,q⟩:=r;#[m,e,λm' hm=>h _^q m' hm]
theorem SM{ks:List (bB×Addr)}(hu:A.units+2<cLine)(S:BE prog w led s.heap d ks)(hks:∀z∈ks,bW s.heap z.1 z.2)(hk:bW s.heap k x)(hl:ks.length<=3)
  (h:∀b h' tk,s.toks<=tk->Heap.SameBut d s.heap h'->BE prog w led h' d (if k∈ks.map (·.1) then ks else ks++[(k,x)])->Q b { s with heap:=h',toks:=tk }):wpAny (model prog w) A (setAdd d^.ref x) Q E s:=by
 let#[o,es,ep,t,ho,hx,hd,T,hm,perm,nd,h4,hch]:=S;have hsz:es.size=ks.length:=by rw[<- dB,perm.length_eq,ao]
 have hE:XN prog w s.heap es:=λi e he=>by
  have me:e∈es.toList:=by rw[<- fY] at he;show gq he
  let#[z,hz,rfl]:=aE.mp^perm.mem_iff.mp me;show#[z.1,z.2,rfl,hks z hz]
 unfold setAdd;show wpAny_holding^au (Dt ∅ hk ?_);generalize hs1:({ s with toks:=s.toks+(1+rA k.2+1) }:Shared)=s1;have eh:s1.heap=s.heap:=by rw[<- hs1]
 have et:s.toks<=s1.toks:=by rw[<- hs1];show lO _ _
 have es1:∀h', ({ s1 with heap:=h' }:Shared)={ s with heap:=h',toks:=s1.toks }:=λh'=>by rw[<- hs1]
 rw[<- eh] at ho hE hk;unfold setAddHashed setAddHashedIn;show wpAny_holding^au^wpAny_setState_of ho hd T.fits ?_;dsimp only;have hns:byScan (.ref x) es=false:=rfl;rw[hns];erw[cB,if_false];unfold setSearch;let#[m,m20,he,hne]:=Dw T.Le T.up (by rw[T.sz];lia)^aY prog w k;have inp:∀j,t.slot j≠.empty->j∈t.place.toList:=λj hj=>by rcases rB T.up T.Le j with⟨e,_⟩|⟨i,_,e⟩;show absurd e hj;rw[<- fY] at e;show gq e
 show au (search hu ho hd T hm hE hk m20 he hne 100000 0 none _ (aM _) ∅ (Ls hm _) (λj i a z _ hj hsl hei ha=>?_) (λhn=>?_))
 .dsimp only;have hin:k∈ks.map (·.1):=by
   let#[k2,a2,e2,h2]:=hE i _ hei;have e4:a=a2:=Value.ref.inj^congrArg Prod.snd e2;have me:((z,.ref a):Int×Value)∈es.toList:=by rw[<- fY] at hei;show gq hei
   let#[y,hy,ey]:=aE.mp^perm.mem_iff.mp me;have e5:y.2=a:=Value.ref.inj^congrArg Prod.snd ey;have hy2:=hks y hy;rw[e5,<- eh] at hy2;rw[<- hy2.inj ha];show aE.mpr #[y,hy,rfl]
  show aL ?_;have:=h false s.heap s1.toks et (Heap.SameBut.refl d s.heap) (by rw[if_pos hin];show#[o,es,ep,t,by rw[<- eh];show ho,hx,hd,T,hm,perm,nd,h4,hch]);rw[<- es1,<- eh] at this;show this
 .dsimp only;have OB:k∉ks.map (·.1):=λhin=>by
   let#[y,hy,rfl]:=aE.mp hin;have me:((aY prog w y.1,.ref y.2):Int×Value)∈es.toList:=perm.mem_iff.mpr^aE.mpr #[y,hy,rfl];let#[i,hi]:=gG.mp me;have hil:i<t.place.size:=by rw[T.sz,<- dB];show(e9 hi).1
   have hp:t.place.toList[i]?=some t.place[i]:=by rw[fY];show fX hil
   have hz:(((aY prog w y.1,.ref y.2):Int×Value),t.place[i])∈es.toList.zip t.place.toList:=by show gG.mpr #[i,?_];rw[qe];show#[hi,hp]
   let#[m',e1,e2]:=hch _ hz;dsimp only at e1 e2;have Dy:t.slot t.place[i]=.live i:=Ak T.up T.Le (by rw[fX hil]);have hmm:m'<m:=by
    rcases bE m' m with hl|hg;show hl
    .exfalso;rcases Nat.eq_or_lt_of_le hg with e|hlt
     .rw[e,e1,Dy] at he;cases he
     .have:=e2 m hlt;let#[i2,hi2]:=gG.mp this;rw[fY] at hi2;rw[Ak T.up T.Le hi2] at he;cases he
   rw[fY] at hi;show hn m' i y.2 _ (aM _) hmm (by rw[e1];show Dy) hi (by rw[eh];show hks y hy)
  show au^wpAny_setState_of ho hd T.fits ?_;dsimp only;have rg:t.put (sq (aY prog w k) m).1=({ t with place:=SetTable.insertAt t.place (SetTable.below t.place (sq (aY prog w k) m).1) (sq (aY prog w k) m).1 },SetTable.below t.place (sq (aY prog w k) m).1):=by unfold SetTable.put;rw[SG.qZ T.Le];rfl
  rw[rg];dsimp only;have Vp:=SN.pS T.up^SG.qo T.up he;have OW:(SetTable.insertAt es (SetTable.below t.place (sq (aY prog w k) m).1) (aY prog w k,.ref x)).toList.Perm (es.toList++[(aY prog w k,.ref x)]):=by have:=SetTable.insertAt_perm es (SetTable.below t.place (sq (aY prog w k) m).1) (aY prog w k,Value.ref x);rwa [Array.toList_push] at this
  have GO:(SetTable.insertAt t.place (SetTable.below t.place (sq (aY prog w k) m).1) (sq (aY prog w k) m).1).toList.Perm (t.place.toList++[(sq (aY prog w k) m).1]):=by have:=SetTable.insertAt_perm t.place (SetTable.below t.place (sq (aY prog w k) m).1) (sq (aY prog w k) m).1;rwa [Array.toList_push] at this
  have hz:=GL es t.place T.sz.symm (SetTable.below t.place (sq (aY prog w k) m).1) (aY prog w k,Value.ref x) (sq (aY prog w k) m).1;generalize SetTable.insertAt es (SetTable.below t.place (sq (aY prog w k) m).1) (aY prog w k,Value.ref x)=rj at OW hz ⊢;generalize SetTable.insertAt t.place (SetTable.below t.place (sq (aY prog w k) m).1) (sq (aY prog w k) m).1=OX at GO hz Vp ⊢;have hsz2:rj.size=es.size+1:=by rw[<- dB,OW.length_eq,aF,dB];rfl
  have abj:OX.size=es.size+1:=by rw[<- dB,GO.length_eq,aF,dB,T.sz];rfl
  have T2:∀b:Bool,SG.Tab led rj { t with place:=OX,plain:=b }:=λb=>by show#[T.led,T.Le,Vp,?_];unfold SetTable.fits SetTable.fill;rw[abj,hsz2,T.Le,hm];simp;lia
  have fin:∀b:Bool,wpAny (model prog w) A (do storeSet d rj { t with place:=OX,plain:=b };if(!false&&({ t with place:=OX,plain:=b }:SetTable).tooFull)=true then do setRelay d^SetTable.grown (es.size+1);pure true else pure true) Q E s1:=λb=>by
   show au^wpAny_storeSet_of ho hd ?_ (by rw[hsz2,sizeLine_eq];lia);have N5:=fj (Obj.putSet rj { t with place:=OX,plain:=b }) ho (by rw[putSet_of rj _ hd];rfl);rw[putSet_of rj _ hd] at N5;have Vm:=kH s1.heap d (Obj.putSet rj { t with place:=OX,plain:=b });have full:({ t with place:=OX,plain:=b }:SetTable).tooFull=false:=by unfold SetTable.tooFull SetTable.fill;dsimp only;rw[T.Le,hm,abj];simp;lia
   rw[full];erw[Bool.and_false,cB,if_false];show aL ?_;rw[es1];show h true _ s1.toks et (by rw[<- eh];show Vm) ?_;rw[if_neg OB];show#[_,rj,_,_,N5,hx,rfl,T2 b,hm,?_,?_,by rw[aF];simp;lia,?_];rw[bA];show OW.trans^perm.append_right _
   .rw[bA,f7];show#[nd,by simp,λa ha c hc e=>OB ?_];have hc':c=k:=by simpa using hc
    rw[<- hc',<- e];show ha
   .intro y hy;change Reach OX.toList y.1.1 y.2;have up:∀j∈t.place.toList,j∈OX.toList:=λj hj=>GO.mem_iff.mpr^iw _ hj;replace hy:y∈rj.toList.zip OX.toList:=hy;rw[hz] at hy;have old:∀y,y∈es.toList.zip t.place.toList->Reach OX.toList y.1.1 y.2:=λy hy=>GN up^hch y hy;rcases aJ.mp hy with hy|hy
    .show old y ?_;let#[i,hi]:=gG.mp hy;rw[qe,List.getElem?_take,List.getElem?_take] at hi;show gG.mpr #[i,qe.mpr ?_];split at hi;show hi;show nomatch hi.1
    .rcases aG.mp hy with rfl|hy;show#[m,rfl,λm' hm'=>up _^inp _^hne m' hm'];show old y ?_;let#[i,hi]:=gG.mp hy;rw[qe,nG,nG] at hi;show gG.mpr #[_,qe.mpr hi]
  split;show au (Lv hk λb=>?_);cases b;show fin false;show fin t.plain;show au^aL ?_;show fin t.plain
noncomputable def vG(val:Nat->bB×Addr):Nat->List (bB×Addr)
 | 0=>[]
 | i+1=>if(val i).1∈(vG val i).map (·.1) then vG val i else vG val i++[val i]
theorem OY(val:Nat->bB×Addr)(i:Nat):(vG val i).length<=i:=by induction i with grind [vG]
theorem Dz(val:Nat->bB×Addr)(i:Nat)(z:bB×Addr)(h:z∈vG val i):∃j,j<i/\z=val j:=by induction i with grind [vG]
theorem OZ(val:Nat->bB×Addr)(i:Nat)(k:bB):k∈(vG val i).map (·.1)↔∃j,j<i/\k=(val j).1:=by
 induction i with
 | zero=>simp[vG]
 | succ i ih =>
  unfold vG;split<;>grind
theorem O0{items:Array Value}{val:Nat->bB×Addr}{Q:Value->Shared->Prop}(hu:A.units+10<cLine)(hh:A.handled=none)(hl:s.heap.IsList l items)(hv:∀(i:Nat)(v:Value),items[i]?=some v->v=.ref (val i).2/\bW s.heap (val i).1 (val i).2)(hn:items.size<=4)
  (h:∀(h':Heap)(tk:Nat),BE prog w (!SG.cP w) h' s.heap.objs.size^vG val items.size->(∀b o,b<s.heap.objs.size->s.heap.get? b=some o->h'.get? b=some o)->Q (.ref s.heap.objs.size) { s with heap:=h',toks:=tk }):
  wpAny (model prog w) A (call (.type "set") [.ref l]) Q E s:=by
 show SG.set_list hh hl (λi h=>BE prog w (!SG.cP w) h s.heap.objs.size^vG val i/\∀b o,b<s.heap.objs.size->s.heap.get? b=some o->h.get? b=some o) (λh' k e=>#[#[_,#[],0,_,e,#[rfl,rfl,rfl],rfl,SG.Aj,rfl,qd _,lM,aM _,λz hz=>nomatch hz],λb o _ e=>k b o e])
  (λi h h' ⟨q,k⟩ hk=>#[q.at' λo e=>hk _ o (av _) e,λb o hb e=>hk b o (iZ hb)^k b o hb e]) (λA' E' i v s' Q hh' Jr hi ⟨hS,hkp⟩ hQ=>?_) λh' tk ⟨q,k⟩ kk=>h h' tk q kk
 let#[rfl,hhi]:=hv i v hi;have hlt:=(nD.mp hi).1;have stay:∀j v,items[j]?=some v->bW s'.heap (val j).1 (val j).2:=λj v hj=>(hv j v hj).2.stay λb o _ _ _ _ e=>hkp b o (aH e) e;have hle:=OY val i;show SM ∅ hS (λz hz=>?_) (stay i _ hi) ∅ λb h' tk htk sb Ru=>hQ b h' tk htk sb #[Ru,λb' o hb e=>?_];let#[j,hj,rfl]:=Dz val i z hz;show stay j _ (fX ∅);rw[sb.2 b'^aN hb];show hkp b' o hb e
open PySem.W
noncomputable def tZ(k:bB):Int:=k.1*10000+match k.2 with|none=>0|some p=>SN.rk p
def XO(k:bB):Prop:=∀p,k.2=some p->0<=p.1/\p.1<2/\0<=p.2/\p.2<1000
def Alike(x y:bB):Prop:=x.2.isSome=y.2.isSome
theorem SO{x:bB}(hx:XO x)(hy:XO y)(ha:Alike x y)(e:tZ x=tZ y):x=y:=by
 let#[p,a]:=x;let#[q,b]:=y;unfold tZ at e;cases a with
 | none =>
  cases b with
  | none =>
   dsimp only at e;have:p=q:=∅;rw[this]
  | some y=>cases ha
 | some x =>
  cases b with
  | none=>cases ha
  | some y =>
   have h1:=hx x rfl;have h2:=hy y rfl;let#[x1,x2]:=x;let#[y1,y2]:=y;change p*10000+(x1*1000+x2)=q*10000+(y1*1000+y2) at e;dsimp only at h1 h2;have e1:p=q:=∅;have e2:x1=y1:=∅;have e3:x2=y2:=∅;rw[e1,e2,e3]
def O1{α β:Type}{f:α->β}{l m:List β}(h:l.Perm m):∀{zs:List α},m=zs.map f->∃ys:List α,ys.Perm zs/\l=ys.map f:=by
 induction h with
 | nil=>intro zs e;show#[[],by rw[List.map_eq_nil_iff.mp e.symm],rfl]
 | cons x h ih =>
  intro zs e;cases zs with
  | nil=>cases e
  | cons z zs =>
   have e1:=List.cons.inj e;let#[ys,h1,h2]:=ih e1.2;show#[z::ys,h1.cons z,by rw[bR,<- h2,<- e1.1]]
 | swap x y l =>
  intro zs e;cases zs with
  | nil=>cases e
  | cons z zs =>
   cases zs with
   | nil=>cases(List.cons.inj e).2
   | cons z2 zs =>
    have e1:=List.cons.inj e;have e2:=List.cons.inj e1.2;show#[z2::z::zs,.swap _ _ _,by rw[bR,bR,<- e1.1,<- e2.1,<- e2.2]]
 | trans _ _ i1 i2 =>
  intro zs e;let#[ys,h1,h2]:=i2 e;let#[xs,h3,h4]:=i1 h2;show#[xs,h3.trans h1,h4]
def range_getD{α:Type}(l:List α)(d:α):(List.range l.length).map (λi=>l.getD i d)=l:=by
 apply sQ;intro i;rw[aV];rcases bE i l.length with h|h
 .rw[wV h,fh h];change some^l.getD i d=_;rw[vD,fh h];rfl
 .rw[iO (by rw[lK];show h),iO h];rfl
theorem O2{y:Addr}{ox oy:Obj}{k:Nat}{a b c d:Int}{t1 t2 t3 t4:Tok}{Q:Value->Shared->Prop}(hu:A.units<cLine)(hx:s.heap.get? x=some ox)(cx:ox.cls=.type "tuple")(dx:ox.data=.seq #v[.int a t1,.int b t2] n)(hy:s.heap.get? y=some oy)(cy:oy.cls=.type "tuple")(dy:oy.data=.seq #v[.int c t3,.int d t4] k)
  (h:Q (.bool (if a=c then decide (b<d) else decide (a<c))) s):wpAny (model prog w) A (compareOp .Lt (.ref x)^.ref y) Q E s:=by have tx:s.TypeIs (.ref x) "tuple" := #[ox,hx,cx];have ty:s.TypeIs (.ref y) "tuple" := #[oy,hy,cy];show(show wpAny _ _ (richCompare .Lt (.ref x)^.ref y) _ _ _ from wpAny_richCompare_same_room tx ty F.slot_tuple_lt (wpAny_call_entry F.slot_tuple_lt tx F.entry_tuple_lt ?_^F.args_tuple_lt_2 _ _) hu);change wpAny _ _ (isInstance (.ref y) (.type "tuple") >>= _) _ _ s;show au^wpAny_isInstance ty isSubtype_tuple_tuple ?_;erw[gR,cB,if_false];show au^wpAny_tupleItemsOf hx dx ?_;show au^wpAny_tupleItemsOf hy dy ?_;show au ?_;change wpAny _ _ (forIn [(Value.int a t1,Value.int c t3),(Value.int b t2,Value.int d t4)] _ _) _ _ s;rw[nF];show au^au^wpAny_eqBool_int ?_;by_cases e:a=c;rw[show(a==c)=true by simpa using e];erw[gR,cB,if_false];rw[if_pos e] at h;show aL ?_;dsimp only;rw[nF];show au^au^wpAny_eqBool_int ?_;by_cases e2:b=d;rw[show(b==d)=true by simpa using e2];erw[gR,cB,if_false];show aL ?_;dsimp only;rw[sS];show aL ?_;rw[decide_eq_false ∅] at h;show aL #[_,rfl,(λe=>nomatch e),h];rw[show(b==d)=false by simpa using e2];erw[Bool.not_false,if_true];show au^wpAny_rule ?_;show au (show wpAny _ _ (compareOp .Lt (.int b t2)^.int d t4) _ _ _ from PyProof.Rows.lt_int ?_);show au^aL^aL^aL^aL #[_,rfl,(λe=>nomatch e),h];rw[show(a==c)=false by simpa using e];erw[Bool.not_false,if_true];rw[if_neg e] at h;show au^wpAny_rule ?_;show au (show wpAny _ _ (compareOp .Lt (.int a t1)^.int c t3) _ _ _ from PyProof.Rows.lt_int ?_);show au^aL^aL^aL^aL #[_,rfl,(λe=>nomatch e),h]
theorem XQ{y:Addr}{k1 k2:bB}(hu:A.units+1<cLine)(hx:bW s.heap k1 x)(hy:bW s.heap k2 y)(o1:XO k1)(o2:XO k2)(al:Alike k1 k2)(h:Q (decide (tZ k1<tZ k2)) s):wpAny (model prog w) A (keyLt' (tuples' true) (.ref x)^.ref y) Q E s:=by
 let#[ox,n,t,u,h1,c1,d1,th1]:=hx;let#[oy,m,t',u',h2,c2,d2,th2]:=hy;let#[p,a]:=k1;let#[q,b]:=k2;dsimp only at d1 d2 th1 th2;show kat_lt h1 d1 h2 d2^kat_cons^wpAny_eqBool_int ?_;by_cases e:p=q
 .subst e;rw[show(p==p)=true by simp];show kat_yes^kat_cons^XI hu th1 th2 ?_;by_cases e2:a=b;subst e2;rw[decide_eq_true rfl];rw[decide_eq_false ∅] at h;show kat_yes^kat_nil h
  .rw[decide_eq_false e2];cases a with
   | none =>
    cases b with
    | none=>show absurd rfl e2
    | some y=>cases al
   | some x1 =>
    cases b with
    | none=>cases al
    | some y1 =>
     let#[a1,oa,na,ta,ua,rfl,ga,ca,da]:=th1;let#[b1,ob,nb,tb,ub,rfl,gb,cb,db]:=th2;show kat_no^kat_one _ _ (O2 ∅ ga ca da gb cb db ?_);have b1:=o1 x1 rfl;have b2:=o2 y1 rfl;have er:decide (tZ (p,some x1)<tZ (p,some y1))=if x1.1=y1.1 then decide (x1.2<y1.2) else decide (x1.1<y1.1):=by
      let#[x1,x2]:=x1;let#[y1,y2]:=y1;dsimp only at b1 b2;change decide (p*10000+(x1*1000+x2)<p*10000+(y1*1000+y2))=if x1=y1 then decide (x2<y2) else decide (x1<y1)
      split<;>erw[decide_eq_decide]<;>lia
     rw[er] at h;show h
 .rw[show(p==q)=false by simpa using e];show kat_no^oneLt_int ?_;have er:decide (tZ (p,a)<tZ (q,b))=decide (p<q):=by
   have ba:0<=tZ (p,a)-p*10000/\tZ (p,a)-p*10000<10000:=by
    cases a with
    | none=>change 0<=p*10000+0-p*10000/\p*10000+0-p*10000<10000;lia
    | some x=>have:=o1 x rfl;change 0<=p*10000+(x.1*1000+x.2)-p*10000/\p*10000+(x.1*1000+x.2)-p*10000<10000;lia
   have bb:0<=tZ (q,b)-q*10000/\tZ (q,b)-q*10000<10000:=by
    cases b with
    | none=>change 0<=q*10000+0-q*10000/\q*10000+0-q*10000<10000;lia
    | some x=>have:=o2 x rfl;change 0<=q*10000+(x.1*1000+x.2)-q*10000/\q*10000+(x.1*1000+x.2)-q*10000<10000;lia
   erw[decide_eq_decide];lia
  rw[<- er];show h
abbrev uP(h:Heap):List Value->List bB->Prop:=Paired λv k=>∃a,v=.ref a/\bW h k a
theorem uP.stay(x:uP h vs ks)(e:∀b o vs n,o.cls=.type "tuple" -> o.data=.seq vs n->h.get? b=some o->h'.get? b=some o):uP h' vs ks:=L2.Paired.Kw x λv k ⟨a,e1,e2⟩=>#[a,e1,e2.stay e]
def uP.tups(hp:uP h vs ks):∃fs:List Value,KatTups h vs fs/\fs.length=vs.length/\∀v∈fs,∃i t,v=Value.int i t:=by
 induction hp with
 | nil=>show#[[],.nil,rfl,λv hv=>nomatch hv]
 | cons z _ ih =>
  let#[a,e,o,n,t,v,h1,h2,h3,_]:=z;let#[fs,a1,a2,a3]:=ih;subst e;show#[_::fs,KatTups.cons h1 h2 h3 rfl a1,by simp[a2],λv hv=>?_];rcases aG.mp hv with e|hv;show#[_,_,e];show a3 v hv
def uP.get(hp:uP h vs ks):∀{i:Nat},i<vs.length->∃a,vs.getD i Value.none=.ref a/\bW h (ks.getD i (0,none)) a:=by
 induction hp with
 | nil=>show λ{i} hi=>absurd hi^dU _
 | cons z _ ih =>
  intro i hi;cases i with
  | zero =>
   let#[a,e,q]:=z;show#[a,e,q]
  | succ i =>
   let#[a,h1,h2]:=ih (i:=i) (by simpa using hi);show#[a,by simpa using h1,by simpa using h2]
theorem DA{zs:List (bB×Addr)}{Q:Value->Shared->Prop}(hu:A.units+8<cLine)(hh:A.handled=none)(S:BE prog w (!SG.cP w) s.heap d zs)(hzs:∀z∈zs,bW s.heap z.1 z.2)(hok:∀z∈zs,XO z.1)(hal:∀z∈zs,∀y∈zs,Alike z.1 y.1)
  (h:∀(p:Addr)(h':Heap)(d':Drawn)(tk c:Nat)(vs:List Value)(ks:List bB),s.heap.objs.size<=p->(∀b x,s.heap.get? b=some x->h'.get? b=some x)->h'.get? p=some { cls:=.type "list", data:=.seq vs.toArray c }->Paired (λv k=>∃a,v=Value.ref a/\(k,a)∈zs) vs ks->(∀k,k∈ks↔k∈zs.map (·.1))->ks.Pairwise (λx y=>tZ x<tZ y)->vs.length=zs.length->Q (.ref p) { s with heap:=h',drawn:=d',toks:=tk }):
  wpAny (model prog w) A (call (.builtin "sorted") [.ref d]) Q E s:=by
 let#[o,es,ep,t,ho,hx,hd,T,hm,perm,nd,h4,hch]:=S;have hsz:es.size=zs.length:=by rw[<- dB,perm.length_eq,ao]
 show AZ kind_sorted plain_sorted entry_sorted (args_sorted1 _) ?_;unfold Builtin.«sorted»;show au (m:=checkCount "sorted" 1 1 _)^aL^au (SG.uN (by simp[hh]) ho hx hd T ∅ ?_);intro s1 acc k1 g1 o1 GB hp;let#[h1,gg,dd,tk1,oo]:=s1;dsimp only at k1 g1 o1 GB;subst g1 o1;have pv:acc.Perm (zs.map λz=>Value.ref z.2):=by have:=hp.trans^perm.map (·.2);rw[fJ] at this;show this
 obtain⟨ys,hys,XG⟩:∃ys:List (bB×Addr),ys.Perm zs/\acc=ys.map λz=>Value.ref z.2:=by show O1 pv rfl
 subst XG;have hyl:ys.length=zs.length:=hys.length_eq;have hV:uP h1 (ys.map λz=>Value.ref z.2)^ys.map (·.1):=by
  have all:∀z∈ys,bW h1 z.1 z.2:=λz hz=>(hzs z^hys.mem_iff.mp hz).stay λb o _ _ _ _ e=>k1 b o e;clear hys hyl pv hp;induction ys with
  | nil=>show .nil
  | cons z ys ih=>show .cons #[z.2,rfl,all z^by simp] (ih λy hy=>all y^by simp[hy])
 show au^wpAny_newList ?_ (by rw[ao,hyl,sizeLine_eq];lia);have gN:(h1.push^seqObj "list" (ys.map λz=>Value.ref z.2).toArray 0).get? h1.objs.size=some^seqObj "list" (ys.map λz=>Value.ref z.2).toArray 0:=iI _ rfl;have hV2:=hV.stay (h':=h1.push^seqObj "list" (ys.map λz=>Value.ref z.2).toArray 0) λb o _ _ _ _ e=>dY _ e;have atk:∀i,i<ys.length->(ys.map (·.1)).getD i (0,none)=((ys.getD i ((0,none),0)).1:bB)/\ys.getD i ((0,none),0)∈ys:=λi hi=>by rw[vD,vD,aV,fh hi];show#[rfl,kK hi]
 have lm:(ys.map λz=>Value.ref z.2).length=ys.length:=ao _;show au^wpAny_holding^wpAny_call_entry slot_list_sort #[_,gN,rfl] entry_list_sort (SN.Dp (r:=λi=>tZ^(ys.map (·.1)).getD i (0,none)) gN (by rw[lm,hyl];lia) (λG k=>(hV2.stay k).tups) (λG k i j hi hj E' C hC=>?_) (λi j hi hj e=>?_) λq hq u=>#[_,rfl,?_])^args_list_sort _;let#[x,ex,gx]:=(hV2.stay k).get hi;let#[y,ey,gy]:=(hV2.stay k).get hj;rw[lm] at hi hj;let#[e1,m1]:=atk i hi;let#[e2,m2]:=atk j hj;rw[ex,ey];show XQ (by erw[Around.in1];lia) gx gy ?_ ?_ ?_ hC;rw[e1];show hok _^hys.mem_iff.mp m1;rw[e2];show hok _^hys.mem_iff.mp m2;rw[e1,e2];show hal _ (hys.mem_iff.mp m1) _^hys.mem_iff.mp m2;rw[lm] at hi hj;let#[e1,m1]:=atk i hi;let#[e2,m2]:=atk j hj;change tZ^(ys.map (·.1)).getD i (0,none)=tZ^(ys.map (·.1)).getD j (0,none) at e;rw[e1,e2] at e;have e3:=SO (hok _^hys.mem_iff.mp m1) (hok _^hys.mem_iff.mp m2) (hal _ (hys.mem_iff.mp m1) _^hys.mem_iff.mp m2) e;have nd2:(ys.map (·.1)).Nodup:=(hys.map (·.1)).nodup_iff.mpr nd;rw[<- e1,<- e2,vD,fh^by simpa using hi,vD,fh^by simpa using hj] at e3;show(wW nd2).mp e3
 .rw[lm] at hq u;let#[c,hc]:=sortedHeap_at (h:=h1.push^seqObj "list" (ys.map λz=>Value.ref z.2).toArray 0) (a:=h1.objs.size) (vs:=ys.map λz=>Value.ref z.2) (n:=0) (out:=List.toArray (q.toList.map λi=>(ys.map λz=>Value.ref z.2).getD i Value.none)) gN;show aL #[_,rfl,h h1.objs.size _ dd tk1 c _ (q.toList.map λi=>(ys.map (·.1)).getD i (0,none)) (iZ GB) (λb x e=>?_) hc ?_ (λk=>?_) ?_^by rw[ao,dB,hq.sz,hyl]];have hb:=aH^k1 b x e;rw[sortedHeap_old (aN hb) (by rw[size_push'];show jy hb)];show dY _^k1 b x e
  .have all:∀i∈q.toList,i<ys.length:=λi hi=>f6.mp^hq.pm.mem_iff.mp hi;clear u hc hq;generalize q.toList=l at all;induction l with
   | nil=>show .nil
   | cons i l ih =>
    have hi:=all i (by simp);show .cons ?_ (ih λj hj=>all j^by simp[hj]);let#[e1,m1]:=atk i hi;show#[(ys.getD i ((0,none),0)).2,?_,?_];change(List.map (λz=>Value.ref z.snd) ys).getD i Value.none=_;rw[vD,aV,vD,fh hi];rfl;change((ys.map (·.1)).getD i (0,none),_)∈zs;rw[e1];show hys.mem_iff.mp m1
  .have:=(hq.pm.map λi=>(ys.map (·.1)).getD i (0,none)).mem_iff (a:=k);rw[this];have e:=range_getD (ys.map (·.1)) ((0,none):bB);rw[ao] at e;rw[e];show(hys.map (·.1)).mem_iff
  .rw[nI];intro i j hi hj hij;rw[ao,dB,hq.sz] at hi hj;have:=u i j hij hj;unfold SN.kv at this;rw[wX,wX];have g:∀i(hi:i<q.toList.length),q.toList[i]=q.getD i 0:=λi hi=>by rw[Array.getD_eq_getD_getElem?,<- fY,fh hi];rfl
   rw[g,g];show this
end HM
namespace SN
open PySem PySem.W PySem.Spec PyProof.Rows
end SN
namespace L2
variable {k:HM.bB}{kvs:gA}{xs:List (HM.bB×Addr×Value)}
def fK(H:Hp):HM.fG->V->Prop
 | none,v=>v=.str "mark"
 | some p,v=>∃a,v=.ref a/\H a=some^.tup [.int p.1,.int p.2]
def bf(H:Hp)(v:V)(k:HM.bB):Prop:=∃a u,v=.ref a/\H a=some^.tup [.int k.1,u]/\fK H k.2 u
abbrev bJ(H:Hp):List V->List HM.bB->Prop:=Paired^bf H
def fK.same{k:HM.fG}(h:fK H k v)(s:aA H H'):fK H' k v:=by
 cases k with
 | none=>show h
 | some p=>let#[a,e,q]:=h;show#[a,e,s _ _ q]
theorem bf.same(h:bf H v k)(s:aA H H'):bf H' v k:=let⟨a,u,e,q,t⟩:=h;#[a,u,e,s _ _ q,t.same s]
theorem bJ.same{vs:List V}{ks:List HM.bB}(h:bJ H vs ks)(s:aA H H'):bJ H' vs ks:=Paired.Kw h λ_ _ x=>x.same s
def adr:V->Addr
 | .ref a=>a
 | _=>0
theorem bf.adr(h:bf H v k):v=.ref^L2.adr v:=by let#[a,u,rfl,_]:=h;rfl
section
variable {σ:St}
def Inv.thg(I:Inv X u5 σ H s){k:HM.fG}(h:fK H k v)(r:RelV v u):HM.g7 s.heap k u:=by
 cases k with
 | none =>
  have h:v=.str "mark" := h;subst h;show r
 | some p =>
  let#[a,rfl,q]:=h;cases r;let#[o,n,t,u,h1,h2,h3]:=I.pair q;show#[a,o,n,t,u,rfl,h1,h2,h3]
def Inv.hrm(I:Inv X u5 σ H s)(h:bf H (.ref a) k):HM.bW s.heap k a:=by
 let#[a',u,e,q,t]:=h;cases e;let#[_,its,r,o,h1,h2,n,h3]:=(show dj X.prog X.w H s.heap a^.tup [.int k.1,u] from I.hok a _ q);cases r with
 | cons r1 r =>
  cases r with
  | cons r2 r =>
   cases r;let#[t1,rfl]:=r1;show#[o,n,t1,_,h1,h2,h3,I.thg t r2]
def xW(P:Program)(w:World)(p:Addr)(zs:List (HM.bB×Addr)):Heap->Prop:=λh=>HM.BE P w (!SG.cP w) h p zs
def Vq(K:az)(P:Program)(w:World):List V->Hp->VK->Prop:=λxs H Q=>∃(l:Addr)(vs:List V)(ks:List HM.bB),xs=[.ref l]/\bG K H l vs/\bJ H vs ks/\ks.length<=4 /\
 ∀p H' zs,fV H p (.ext (xW P w p zs)) H'->(∀z∈zs,bf H (.ref z.2) z.1)->(∀k,k∈zs.map (·.1)↔k∈ks)->Q (.ref p) H'
theorem Lw(hu:X.A.units+64<cLine)(hc:X.calm=true):dP X (.type "set")^Vq X.K X.prog X.w:=by
 intro u5 s σ H xs us Q I r h;let#[l,vs,ks,rfl,hl,hk,h4,q]:=h;let#[u,rfl,ru]:=vals1 r;cases ru;let#[its,rv,#[ol,n0,e1,e2,e3,e4],_]:=I.list hl;have isl:s.heap.IsList l its.toArray:=#[ol,e1,e2,n0,e4];have Dy:vs.length=ks.length:=hk.length;have hsz:its.toArray.size=ks.length:=by have:=rv.length;rw[aZ];lia
 have hat:∀i,i<ks.length->bf H (.ref^adr^vs.getD i^.int 0)^ks.getD i (0,none)/\vs[i]?=some^.ref^adr^vs.getD i^.int 0:=λi hi=>by
  have hi':i<vs.length:=∅;let#[k,hk1,hk2]:=rm hk (i:=i) (x:=vs[i])^fh hi';have e1:vs.getD i^.int 0=vs[i]:=by rw[vD,fh hi'];rfl
  have e2:ks.getD i (0,none)=k:=by rw[vD,hk1];rfl
  rw[e1,e2,<- hk2.adr];show#[hk2,fh hi']
 show HM.O0 (val:=λi=>(ks.getD i (0,none),adr^vs.getD i^.int 0)) ∅ (I.ok.hd hc) isl (λi v hv=>?_) ∅ λh' tk hS hkp=>?_
 .have hi:i<ks.length:=by have:=(nD.mp hv).1;lia
  let#[a1,a2]:=hat i hi;let#[u,hu,ru]:=rv.get a2;rw[lJ,hu] at hv;cases hv;cases ru;show#[rfl,I.hrm a1]
 .rw[hsz] at hS;show#[.ref s.heap.objs.size,_,I.laid (t':=tk) (λb o e=>hkp b o (aH e) e) (av _) (o:=.ext (xW X.prog X.w s.heap.objs.size _)) #[hS,?_,λh1 h2 hp he=>hp.at' he],rfl,q _ _ _ #[I.hok.fresh^av _,rfl] (λz hz=>?_) λk=>?_];let#[o,_,_,_,ho,_]:=hS;show#[o,ho];let#[j,hj,rfl]:=HM.Dz _ _ _ hz;show(hat j hj).1;rw[HM.OZ];constructor;rintro⟨j,hj,rfl⟩;change ks.getD j (0,none)∈ks;rw[vD,fh hj];show kK hj;intro hn;let#[j,hj,e5]:=jS.mp hn;show#[j,hj,?_];change k=ks.getD j (0,none);rw[vD,fh hj,<- e5];rfl
def O3(P:Program)(w:World):List V->Hp->VK->Prop:=λxs H Q=>∃(p:Addr)(zs:List (HM.bB×Addr)),xs=[.ref p]/\H p=some^.ext (xW P w p zs)/\(∀z∈zs,bf H (.ref z.2) z.1)/\(∀z∈zs,HM.XO z.1)/\(∀z∈zs,∀y∈zs,HM.Alike z.1 y.1) /\
 ∀q H' vs ks,fV H q (.lst vs) H'->bJ H vs ks->(∀k,k∈ks↔k∈zs.map (·.1))->ks.Pairwise (λx y=>HM.tZ x<HM.tZ y)->Q (.ref q) H'
theorem GP(hu:X.A.units+64<cLine)(hc:X.calm=true):dP X (.builtin "sorted")^O3 X.prog X.w:=by
 intro u5 s σ H xs us Q I r h;let#[p,zs,rfl,hp,hz,hok,hal,q]:=h;let#[u,rfl,ru]:=vals1 r;cases ru;let#[hS,_,_]:=I.hok p _ hp;have h4:zs.length<=4:=by let#[_,_,_,_,_,_,_,_,_,_,_,h4,_]:=hS;show h4
 show HM.DA ∅ (I.ok.hd hc) hS (λz hz'=>I.hrm^hz z hz') hok hal λa h' d' tk c vs ks hle hk ho hP hmem OG hvl=>?_;have hV:∀{vs:List Value}{ks:List HM.bB},Paired (λv k=>∃a,v=Value.ref a/\(k,a)∈zs) vs ks->∃us:List V,Vals us vs/\bJ H us ks:=by
  intro vs ks r;induction r with
  | nil=>show#[[],.nil,.nil]
  | cons h _ ih =>
   let#[a,rfl,hm]:=h;let#[us,u1,u2]:=ih;show#[.ref a::us,.cons rfl u1,.cons (hz _ hm) u2]
 let#[us,u1,u2]:=hV hP;have hl:us.length<=sizeLine:=by have e1:=u1.length;rw[sizeLine_eq];lia
 show#[.ref a,_,(I.drw d').laid (t':=tk) hk hle (o:=.lst us) #[hl,vs,c,u1,ho],rfl,q _ _ us ks #[I.hok.fresh hle,rfl] u2 hmem OG]
def XR{vs:List V}{ks:List HM.bB}(hl:bG K H l vs)(hk:bJ H vs ks)(h4:ks.length<=4)(h:∀p H' zs,fV H p (.ext (xW P w p zs)) H'->(∀z∈zs,bf H (.ref z.2) z.1)->(∀k,k∈zs.map (·.1)↔k∈ks)->Q (.ref p) H'):Vq K P w [.ref l] H Q:=#[l,vs,ks,rfl,hl,hk,h4,h]
def SQ{p:Addr}{zs:List (HM.bB×Addr)}(hp:H p=some^.ext (xW P w p zs))(hz:∀z∈zs,bf H (.ref z.2) z.1)(hok:∀z∈zs,HM.XO z.1)(hal:∀z∈zs,∀y∈zs,HM.Alike z.1 y.1)(h:∀q H' vs ks,fV H q (.lst vs) H'->bJ H vs ks->(∀k,k∈ks↔k∈zs.map (·.1))->ks.Pairwise (λx y=>HM.tZ x<HM.tZ y)->Q (.ref q) H'):O3 P w [.ref p] H Q:=#[p,zs,rfl,hp,hz,hok,hal,h]
end
def fK.rd{k:HM.fG}{x:V}(h:fK H k x):RD K H x^HM.nv k:=by
 cases k with
 | none=>have h:x=.str "mark" := h;subst h;show .str _
 | some p=>let#[a,rfl,q]:=h;show .tup (dJ.of q)^.cons (.int _)^.cons (.int _) .nil
def O4(k:HM.fG):Sh 1^HM.nv k:=#[HM.v9 k,HM.tW k]
def Vr{k:HM.fG}{x:V}(h:fK H k x)(q:Q (.bl k.isNone) H):Sg K x (.str "mark") H Q:=by show Xw (HM.nv k) (.str "mark") 1 (by decide) h.rd (.str _) (O4 k) (O4 none) ?_;have:=HM.BD k none;rw[show PyData.str "mark" = HM.nv none from rfl,this];cases k<;>show q
abbrev gA:=List (HM.bB×Addr×V)
def qu:gA->List (HM.bB×Addr×Value)->Prop:=Paired λ(p:HM.bB×Addr×V)(q:HM.bB×Addr×Value)=>p.1=q.1/\p.2.1=q.2.1/\RelV p.2.2 q.2.2
def dQ(P:Program)(w:World)(d:Addr)(ep:Nat)(kvs:gA):Heap->Prop:=λh=>kvs.length<=sizeLine/\(d==sysModules)=false/\∃xs,qu kvs xs/\∃o es,h.get? d=some o/\o.ExactDict/\o.data=.dict es ep/\es.toList=xs.map^entryOfKey^HM.fE P w/\(xs.map (·.1)).Nodup
def cE(H:Hp)(kvs:gA):Prop:=∀x∈kvs,bf H (.ref x.2.1) x.1
theorem cE.same(h:cE H kvs)(s:aA H H'):cE H' kvs:=λx hx=>(h x hx).same s
noncomputable def kN(kvs:gA)(k:HM.bB):Option V:=(kvs.find? λx=>decide (x.1=k)).map (·.2.2)
noncomputable def kX(kvs:gA)(k:HM.bB)(a:Addr)(v:V):gA:=if(kN kvs k).isSome then kvs.map (λx=>if x.1=k then(x.1,x.2.1,v) else x) else kvs++[(k,a,v)]
def qu.val(r:qu kvs xs)(k:HM.bB):pN (kN kvs k)^(atKey xs k).map (·.2):=by
 unfold qu at r;induction r with
 | nil=>show iz
 | @cons p q ps qs h t ih =>
  unfold kN atKey at ih ⊢;rw[iN,iN,<- h.1];by_cases e:p.1=k;rw[decide_eq_true e];show h.2.2;rw[decide_eq_false e];show ih
def qu.put(r:qu kvs xs)(k:HM.bB)(ry:RelV y u):qu (kX kvs k b y)^storedH xs k b u:=by
 have e:(kN kvs k).isSome=(atKey xs k).isSome:=by rw[(r.val k).jI,Option.isSome_map]
 unfold kX storedH;rw[e];by_cases q:(atKey xs k).isSome=true
 .rw[if_pos q,if_pos q];clear e q;unfold qu at r ⊢;induction r with
  | nil=>show .nil
  | @cons p q ps qs h t ih =>
   rw[bR,bR];show .cons ?_ ih;let#[h1,h2,h3]:=h;unfold putAt;by_cases e:p.1=k;rw[if_pos e,if_pos^h1.symm.trans e];show#[h1,h2,ry];rw[if_neg e,if_neg (λz=>e^h1.trans z)];show#[h1,h2,h3]
 .rw[if_neg q,if_neg q];show dD r #[rfl,rfl,ry]
def DB(kvs:gA)(k:HM.bB)(a:Addr)(v:V):(kX kvs k a v).length<=kvs.length+1:=by unfold kX;split<;>simp
section
variable {σ:St}{kvs:gA}{k:HM.bB}
def DH(P:Program)(w:World)(H:Hp)(d:Addr)(ep:Nat)(kvs:gA):Prop:=H d=some^.ext (dQ P w d ep kvs)/\cE H kvs
def Inv.dh(I:Inv X u5 σ H s)(h:DH X.prog X.w H d ep kvs):kvs.length<=sizeLine/\(d==sysModules)=false/\∃xs,qu kvs xs/\s.heap.DictOfH (HM.fE X.prog X.w) d xs:=by
 let#[#[z,hd,xs,rel,o,es,h1,h2,h3,h4,h5],_,_]:=I.hok d _ h.1;show#[z,hd,xs,rel,o,es,ep,h1,h2,h3,h4,λx hx=>?_,h5];have all:∀{kvs:gA}{xs:List (HM.bB×Addr×Value)},qu kvs xs->cE H kvs->∀x∈xs,HM.bW s.heap x.1 x.2.1:=by
  intro kvs xs r;unfold qu at r;induction r with
  | nil=>intro _ x hx;show nomatch hx
  | @cons p q ps qs hq t ih =>
   intro hk x hx;rcases aG.mp hx with e|hx
   .subst e;have:=I.hrm (hk p^by simp);rw[hq.1,hq.2.1] at this;show this
   .show ih (λy hy=>hk y^by simp[hy]) x hx
 show all rel h.2 x hx
theorem BF(hu:A.units+64<cLine):(HM.fE X.prog X.w).room A.in1:=by change A.in1.units+2<cLine;erw[Around.in1];lia
def xX{Q:Value->Shared->Prop}(hu:A.units+64<cLine)(I:Inv X u5 σ H s)(h:DH X.prog X.w H d ep kvs)(hb:bf H (.ref b) k)(hv:kN kvs k=some v)(q:∀w' s',Inv X u5 σ H s'->RelV v w'->Q w' s'):
  wpAny (model X.prog X.w) A (getItem (.ref d)^.ref b) Q E s:=by let#[z,hd,xs,rel,dd]:=I.dh h;let#[w',hw,rw']:=pN.some_of (v:=v) (o:=(atKey xs k).map (·.2)) (by rw[<- hv];show rel.val k);let#[p,hp,hp2]:=cG.mp hw;show wpAny_getItem_heap (BF hu) (I.hrm hb) dd hp ?_;rw[hp2];show q w' _ (I.tok _) rw'
def GQ(z:kvs.length<=sizeLine)(hd:(d==sysModules)=false)(rel:qu kvs xs)(dd:h'.DictOfH (HM.fE X.prog X.w) d xs):∃ep,∀{H':Hp},dj X.prog X.w H' h' d^.ext (dQ X.prog X.w d ep kvs):=by let#[o,es,ep,h1,h2,h3,h4,_,h5]:=dd;show#[ep,λ{H'}=>#[#[z,hd,xs,rel,o,es,h1,h2,h3,h4,h5],#[o,h1],λg1 g2 hp he=>?_]];let#[z,hd,xs,rel,o,es,h1,h2]:=hp;show#[z,hd,xs,rel,o,es,he _ h1,h2]
theorem xY{r:Value}{Q:Unit->Shared->Prop}(hu:A.units+64<cLine)(I:Inv X u5 σ H s)(h:DH X.prog X.w H d ep kvs)(hb:bf H (.ref b) k)(hl:kvs.length<sizeLine)(rv:RelV v r)
  (q:∀uH s',Inv X u5 σ (upd H d^.ext (dQ X.prog X.w d uH^kX kvs k b v)) s'->Q () s'):wpAny (model X.prog X.w) A (setItem (.ref d) (.ref b) r) Q E s:=by
 let#[z,hd,xs,rel,dd]:=I.dh h;have hz:xs.length<=sizeLine:=by rw[<- kh rel];show z
 have hl2:(kX kvs k b v).length<=sizeLine:=by have:=DB kvs k b v;lia
 show wpAny_setItem_heap (hsz:=hz) (BF hu) (I.hrm hb) dd λh' Zi hs=>?_;let#[uH,ho']:=GQ (X:=X) hl2 hd (rel.put k rv) Zi;show q uH _ ?_;have ho:=ho' (H':=upd H d^.ext (dQ X.prog X.w d uH^kX kvs k b v));show Bm I (by rw[h.1];show iz) hs ho.2.1 ho
end
def O5(P:Program)(w:World):R2:=λx y H Q=>∃d b ep kvs k v,x=.ref d/\y=.ref b/\DH P w H d ep kvs/\bf H (.ref b) k/\kN kvs k=some v/\Q v H
def O6(P:Program)(w:World)(v x y:V)(H:Hp)(R:Hp->Prop):Prop:=∃d b ep kvs k,x=.ref d/\y=.ref b/\DH P w H d ep kvs/\bf H (.ref b) k/\kvs.length<=1000000/\∀uH H',tR H d (.ext (dQ P w d uH^kX kvs k b v)) H'->R H'
def O7(P:Program)(w:World)(td ty tv:TE):TS:=λD σ H=>tv σ H λv H1=>td σ H1 λx H2=>ty σ H2 λy H3=>O6 P w v x y H3 λH4=>D.nx σ H4
def O8(P:Program)(w:World)(td ty tv:TE)(rd:V->V->Hp->VK->Prop):TS:=λD σ H=>td σ H λx H1=>ty σ H1 λy H2=>O5 P w x y H2 λv H3=>tv σ H3 λy2 H4=>rd v y2 H4 λz H5=>O6 P w z x y H5 λH6=>D.nx σ H6
def O9(P:Program)(w:World):TE:=λ_ H Q=>∀p ep H',fV H p (.ext (dQ P w p ep [])) H'->Q (.ref p) H'
section
variable {o i:Expr}{ty:TE}
def DC:PE X (.Dict [] [] pos)^O9 X.prog X.w:=λu5 s σ H Q I h =>
 let⟨ep,ho⟩:=GQ (X:=X) (kvs:=[]) (aM _) (beq_eq_false_iff_ne.mpr^aQ^aN I.big) .nil (Heap.DictOfH.new s.heap)
 wpAny_Dict_empty #[.ref s.heap.objs.size,_,I.laid (a:=s.heap.objs.size) (o:=.ext (dQ X.prog X.w s.heap.objs.size ep [])) (t':=s.toks) (λ_ _ q=>dY _ q) (av _) ho,rfl,h _ ep _ #[I.hok.fresh^av _,rfl]]
def Inv.dhT{σ:St}(I:Inv X u5 σ H s)(h:DH X.prog X.w H d ep kvs):s.TypeIs (.ref d) "dict" := by let#[_,_,_,_,dd]:=I.dh h;show dd.typeIs
def jW(hu:X.A.units+64<cLine)(ho:PE X o td)(hi:PE X i ty)(hs:NL i):PE X (.Subscript o i pos)^RS (O5 X.prog X.w) td ty:=by intro u5 s σ H Q I h;show Bo PySem.F.slot_dict_getitem.lookup hs (c9 (ho u5 s σ H _ I h) λu s1 zq=>?_);let#[x,H1,I1,rx,q1]:=zq;show c9 (hi u5 s1 σ H1 _ I1 q1) λiv s2 zq=>?_;let#[y,H2,I2,ry,d,b,ep,kvs,k,v,ex,ey,hd,hb,hv,q2]:=zq;subst ex ey;obtain rfl:u=Value.ref d:=rx;obtain rfl:iv=Value.ref b:=ry;show#[I2.dhT hd,xX hu I2 hd hb hv λw' s3 I3 rw'=>#[v,H2,I3,rw',q2]]
theorem DE(hu:X.A.units+64<cLine)(ho:PE X o td)(hi:PE X i ty)(hv:PE X value tv)(hs:swapsWith value (some^.Subscript o i pos') pos.line X.env=pure false):
  PS X (.Assign [.Subscript o i pos'] value pos)^O7 X.prog X.w td ty tv:=by intro u5 s σ H D I h;show wpAny_Assign_Subscript (c9 (hv u5 s σ H _ I h) λr s1 zq=>?_) hs;let#[v,H1,I1,rv,q1]:=zq;show c9 (ho u5 s1 σ H1 _ I1 q1) λu s2 zq=>?_;let#[x,H2,I2,rx,q2]:=zq;show c9 (hi u5 s2 σ H2 _ I2 q2) λiv s3 zq=>?_;let#[y,H3,I3,ry,d,b,ep,kvs,k,ex,ey,hd,hb,hl,q3]:=zq;subst ex ey;obtain rfl:u=Value.ref d:=rx;obtain rfl:iv=Value.ref b:=ry;show xY hu I3 hd hb (by rw[sizeLine_eq];lia) rv λuH s4 I4=>#[σ,_,I4,q3 uH _ rfl]
theorem Pa{op:Operator}{rd:V->V->Hp->VK->Prop}(hu:X.A.units+64<cLine)(ho:PE X o td)(hi:PE X i ty)(hv:PE X value tv)(hop:Z8 X op rd)
  (ha:∀ov iv new,augStore i ov iv new=(do holding [new,ov,iv]^setItem ov iv new;release [new,ov,iv] [];pure .next)):PS X (.AugAssign (.Subscript o i tpos) op value pos)^O8 X.prog X.w td ty tv rd:=by intro u5 s σ H D I h;show wpAny_AugAssign_SubscriptAny (c9 (ho u5 s σ H _ I h) λu s1 zq=>?_) ha;let#[x,H1,I1,rx,q1]:=zq;show c9 (hi u5 s1 σ H1 _ I1 q1) λiv s2 zq=>?_;let#[y,H2,I2,ry,d,b,ep,kvs,k,v,ex,ey,hd,hb,hvl,q2]:=zq;subst ex ey;obtain rfl:u=Value.ref d:=rx;obtain rfl:iv=Value.ref b:=ry;show xX hu I2 hd hb hvl λw' s3 I3 rw'=>c9 (hv u5 s3 σ H2 _ I3 q2) λw2 s4 zq=>?_;let#[y2,H3,I4,ry2,q3]:=zq;show c9 (hop u5 s4 σ H3 v y2 w' w2 _ I4 rw' ry2 q3) λw3 s5 zq=>?_;let#[z,H4,I5,rz,d5,b5,ep5,alk,k5,ex5,ey5,vH,hb5,zx,q4]:=zq;cases ex5;cases ey5;show xY hu I5 vH hb5 (by rw[sizeLine_eq];lia) rz λuH s6 I6=>#[σ,_,I6,q4 uH _ rfl]
end
noncomputable def Pb(P:Program)(w:World)(d:Addr)(ep:Nat)(kvs:gA):It :=
 #[λi H=>H d=some^.ext (dQ P w d ep kvs)/\i<kvs.length,λi H x H'=>H'=H/\∃e,kvs[i]?=some e/\x=.ref e.2.1,λi H=>H d=some^.ext (dQ P w d ep kvs)/\i=kvs.length]
theorem Inv.raw{σ:St}(I:Inv X u5 σ H s)(h:H d=some^.ext (dQ X.prog X.w d ep kvs)):
  (d==sysModules)=false/\kvs.length<=sizeLine/\∃es:Array DictEntry,SN.j5 s.heap d es ep/\es.size=kvs.length/\∀(i:Nat) e,kvs[i]?=some e->∃u,es[i]?=some u/\u.key=.ref e.2.1/\RelV e.2.2 u.val:=by
 let#[#[z,hd,xs,rel,o,es,h1,h2,h3,h4,h5],_,_]:=I.hok d _ h;have hl:xs.length=kvs.length:=(kh rel).symm;have hs:es.size=xs.length:=by rw[<- dB,h4,ao]
 show#[hd,z,es,#[o,h1,h2,h3],∅,λi e he=>?_];let#[x,hx,r1,r2,r3]:=rm rel he;show#[entryOfKey (HM.fE X.prog X.w) x,?_,?_,?_];rw[<- fY,h4,aV,hx];rfl;change Value.ref x.2.1=_;rw[r2];show r3
def GR(d it:Addr)(ep:Nat)(kvs:gA):Turn P w K tg (Pb P w d ep kvs) [it] it (λi h=>h.IsKeyIter it d i kvs.length ep) where
 mem:=by simp
 obj:=λi h st b hb=>by
  have e:b=it:=by simpa using hb
  subst e;let#[o,e,c,dd]:=st;show#[o,e,λv z=>by rw[dd] at z;cases z]
 keep:=λi h h' st k=>st.at λo e=>k it (by simp) o e
 item:=by intro X hP hw hK hc i u5 s σ H E I hf st hg;subst hP hw hK;let#[hd,hi]:=hg;let#[_,_,es,rd,hs,hat]:=I.raw hd;let#[f0,f1,f2,f3,f4,f5]:=hf it (by simp);have he:kvs[i]?=some kvs[i]:=fh hi;let#[u,hu,hk,_]:=hat i _ he;rw[<- hs] at st;show SN.Dl st rd hu λh' st' sb=>?_;have I1:Inv X u5 σ H { s with heap:=h' }:=I.turned (t':=s.toks) (λb o hb e=>(sb.2 b hb).trans e) f0 f1 f3 f4 f5;rw[hs] at st';let#[o,e,c,dd]:=id st';show#[u.key,rfl,CP (s:={ s with heap:=h' }) e c dd (by decide) #[.ref kvs[i].2.1,H,I1,hk,#[rfl,_,he,rfl],st',λb hb=>(hf b hb).1]]
 done:=by intro X hP hw hK hc i u5 s σ H E I hf st hg;subst hP hw hK;let#[hd,hi]:=hg;let#[_,_,es,rd,hs,hat]:=I.raw hd;let#[f0,f1,f2,f3,f4,f5]:=hf it (by simp);subst hi;rw[<- hs] at st;show SN.Jk (I.ok.hd hc) st rd λh' eb=>#[rfl,I.turned (t':=s.toks) (λb o hb e=>eb b o hb e) f0 f1 f3 f4 f5]
 self:=λ_ _ _ _ _ st h=>wpAny_pyIter_keyiter st h
def XS(P:Program)(w:World)(R:It->Hp->Prop):V->Hp->Prop:=λx H=>∃d ep kvs,x=.ref d/\H d=some^.ext (dQ P w d ep kvs)/\R (Pb P w d ep kvs) H
def Pc(P:Program)(w:World)(tl:TE):TI:=λσ H R=>tl σ H^XS P w R
def rC{l:Expr}(hl:PE X l tl):PI X tg l^Pc X.prog X.w tl:=by
 intro u5 s σ H R I h;show c9 (hl u5 s σ H _ I h) λv s1 zq=>?_;let#[x,H1,I1,r1,q1]:=zq;let#[d,ep,kvs,e,hd,q]:=q1;subst e;cases r1;let#[lo,_,es,rd,hs,hat]:=I1.raw hd;show SN.Dk lo rd ?_;show#[s1.heap.objs.size,[s1.heap.objs.size],_,_,H1,rfl,I1.kept (t':=s1.toks) λb o e=>dY _ e,GR d _ ep kvs,#[_,iI _ rfl,rfl,by rw[<- hs];rfl],λb hb=>?_,q];have e:b=s1.heap.objs.size:=by simpa using hb
 subst e;show I1.qk (av _)^I1.hok.fresh^av _
section
variable {nx bk ct:St->Hp->Prop}{σ:St}
def abm{R:It->Hp->Prop}(h:tl σ H^XS P w R):Pc P w tl σ H R:=h
def ajA{R:It->Hp->Prop}(hd:H d=some^.ext (dQ P w d ep kvs))(h:R (Pb P w d ep kvs) H):XS P w R (.ref d) H:=#[d,ep,kvs,rfl,hd,h]
theorem SR{tb:TS}(Pv:Nat->St->Hp->Prop)(h0:Pv 0 σ H)(hl:∀i σ H,i<=kvs.length->Pv i σ H->H d=some^.ext (dQ P w d ep kvs))
  (hs:∀i e σ H,kvs[i]?=some e->Pv i σ H->g (.ref e.2.1) σ H λσ2 H2=>tb #[Pv (i+1),rt,nx,Pv (i+1)] σ2 H2)(hd:∀σ H,Pv kvs.length σ H->nx σ H):Nc (Pb P w d ep kvs) g tb nx rt σ H :=
 #[λi m σ H=>m=kvs.length-i/\i<=kvs.length/\Pv i σ H,#[kvs.length,∅,∅,h0],λi m σ' H' ⟨e,hi,p⟩=>by
  rcases bE i kvs.length with hlt|hge;show .inr #[#[hl i _ _ hi p,hlt],Pv (i+1),λσ2 H2 q=>#[kvs.length-(i+1),∅,rfl,hlt,q],?_];rintro x H2 ⟨rfl,e,he,rfl⟩;show hs i e σ' _ he p
  .have e:i=kvs.length:=∅;subst e;show .inl #[#[hl _ _ _ hi p,rfl],hd _ _ p]]
theorem BG{τ:St}(Pv:Nat->List V->Hp->Prop)(h0:Pv 0 [] H)(hl:∀i ys H,i<=kvs.length->Pv i ys H->H d=some^.ext (dQ P w d ep kvs))
  (hs:∀i e ys H,kvs[i]?=some e->Pv i ys H->ys.length<sizeLine/\tt (some^.ref e.2.1::τ) H λb H3=>if b=true then te (some^.ref e.2.1::τ) H3 λy H4=>Pv (i+1) (ys++[y]) H4 else Pv (i+1) ys H3)
  (hd:∀ys H,Pv kvs.length ys H->∀p H',fV H p (.lst ys) H'->Q (.ref p) H'):Oa (Pb P w d ep kvs) tt te τ Q H:=by
 show#[λi m ys H=>m=kvs.length-i/\i<=kvs.length/\Pv i ys H,#[kvs.length,by simp,aM _,h0],?_];rintro i m ys H ⟨rfl,hi,p⟩;have q:=hl i ys H hi p;by_cases hlt:i<kvs.length
 .have hx:kvs[i]?=some kvs[i]:=by simp[hlt]
  let#[hz,q']:=hs i _ ys H hx p;show .inr #[#[q,hlt],hz,Pv (i+1),λσ' H' p'=>#[kvs.length-(i+1),∅,rfl,hlt,p'],λx H' y=>?_];let#[e,e2,he,y]:=y;subst e y;rw[hx] at he;cases he;show q'
 .have e:i=kvs.length:=∅;subst e;show .inl #[#[q,rfl],λr hr=>hd ys H p r _ #[hr,rfl]]
end
noncomputable def kO(ks:Nat->HM.bB×Addr)(vs:Nat->V):Nat->gA
 | 0=>[]
 | n+1=>kX (kO ks vs n) (ks n).1 (ks n).2^vs n
theorem xZ(ks:Nat->HM.bB×Addr)(vs:Nat->V):∀n,(kO ks vs n).length<=n
 | 0=>av _
 | n+1=>by have h1:=xZ ks vs n;have h2:=DB (kO ks vs n) (ks n).1 (ks n).2^vs n;change(kX (kO ks vs n) (ks n).1 (ks n).2^vs n).length<=n+1;lia
def Lx(h:k∉kvs.map (·.1)):kN kvs k=none:=by unfold kN;rw[List.find?_eq_none.mpr λx hx e=>h^aE.mpr #[x,hx,by simpa using e]];rfl
def ya(h:k∉kvs.map (·.1)):kX kvs k a v=kvs++[(k,a,v)]:=by unfold kX;rw[Lx h];rfl
theorem Al{ks:Nat->HM.bB×Addr}{vs:Nat->V}:∀{n:Nat},(∀i j,i<j->j<n->(ks i).1≠(ks j).1)->kO ks vs n=(List.range n).map λi=>((ks i).1,(ks i).2,vs i)
 | 0,_=>rfl
 | n+1,h=>by have ih:=Al (ks:=ks) (vs:=vs) (n:=n) λi j hi hj=>h i j hi ∅;change kX (kO ks vs n) (ks n).1 (ks n).2^vs n=_;rw[ih,ya,List.range_succ,bA];rfl;intro hm;let#[x,hx,e]:=aE.mp hm;let#[i,hi,rfl]:=aE.mp hx;show h i n (f6.mp hi) ∅ e
def Jt(dd:h.DictOfH (HM.fE prog w) d xs)(hd:d≠it)(hi:∀o vs n,h.get? it=some o->o.data≠.seq vs n)(k:∀b o,b≠it->h.get? b=some o->h'.get? b=some o):h'.DictOfH (HM.fE prog w) d xs:=by let#[o,es,ep,h1,h2,h3,h4,h5,h6]:=dd;show#[o,es,ep,k d o hd h1,h2,h3,h4,λx hx=>?_,h6];show HM.bW.stay (h5 x hx) λb o vs n _ ds e=>k b o (λz=>by subst z;show hi o vs n e ds) e
theorem DF{s0:Shared}{its:Array Value}{ks:Nat->HM.bB×Addr}{vs:Nat->V}(hu:A.units+10<cLine)(hd:d≠it)(hdl:d≠l)(hli:l≠it)(hh:A.in1.handled=none)(hn:n<=sizeLine)(hsz:its.size=n)
  (hni:∀o vs n,s0.heap.get? it=some o->o.data≠.seq vs n)(hnd:∀o vs n,s0.heap.get? d=some o->o.data≠.seq vs n)
  (hp:∀i,i<n->∃(T:Addr)(v:Value)(o:Obj)(c:Nat),its[i]?=some^.ref T/\s0.heap.get? T=some o/\o.cls=.type "tuple" /\ o.data=.seq #v[.ref (ks i).2,v] c/\T≠it/\T≠d/\HM.bW s0.heap (ks i).1 (ks i).2/\RelV (vs i) v)
  (hl:s0.heap.IsList l its)
  (hR:∀h' tk rs,(∀b o,b≠it->b≠d->s0.heap.get? b=some o->h'.get? b=some o)->h'.DictOfH (HM.fE prog w) d rs->qu (kO ks vs n) rs->R (.ok^.ret .none) { s0 with heap:=h',toks:=tk }):
  ∀(k i:Nat)(h:Heap)(t:Nat)(rs:List (HM.bB×Addr×Value))(c:Tok),n-i=k->i<=n->(∀b o,b≠it->b≠d->s0.heap.get? b=some o->h.get? b=some o)->h.IsListIter it l i->h.DictOfH (HM.fE prog w) d rs->qu (kO ks vs i) rs ->
   codeAny (model prog w) A (.builtin "dict.update.loop" #[[.ref d,.ref it,.int i c,.none],[]]) R { s0 with heap:=h,toks:=t }:=by
 have lst:∀h:Heap,(∀b o,b≠it->b≠d->s0.heap.get? b=some o->h.get? b=some o)->h.IsList l its:=λh kp=>let⟨o,q,r⟩:=hl;#[o,kp l o hli (aQ hdl) q,r];have itd:∀{h:Heap}{i:Nat},h.IsListIter it l i->∀o vs n,h.get? it=some o->o.data≠.seq vs n:=λhit o vs n e z=>by let#[o',e',_,d']:=hit;rw[e] at e';cases e';rw[d'] at z;cases z
 intro k;induction k with
 | zero =>
  intro i h t rs c hk hi kp hit dd rel;have e:i=n:=∅;subst e;show codeAny_builtin F.gO ?_;rw[iu F.cT _];change wpAny _ A.in1 (pyNext (.ref it) >>= _) _ _ _;show au (wpAny_pyNext_list_end (s:={ s0 with heap:=h,toks:=t }) hh hit (lst h kp) (uG ∅) λh' k'=>?_);change wpAny _ A.in1 (Builtin.Dict.addKeywords d [] >>= _) _ _ _;show au^aL^aL ?_;show hR h' t rs (λb o b1 b2 q=>k' b o b1^kp b o b1 b2 q) (Jt dd hd (itd hit) λb o b1 q=>k' b o b1 q) rel
 | succ k ih =>
  intro i h t rs c hk hi kp hit dd rel;have hlt:i<n:=∅;let#[T,v,o,cc,hx,hT,hTc,hTd,n1,n2,hk0,rv]:=hp i hlt;show codeAny_builtin F.gO ?_;rw[iu F.cT _];change wpAny _ A.in1 (pyNext (.ref it) >>= _) _ _ _;show au (wpAny_pyNext_list_item (s:={ s0 with heap:=h,toks:=t }) hit (lst h kp) hx λh1 Xv Vm=>?_);have k1:∀b o,b≠it->h.get? b=some o->h1.get? b=some o:=λb o b1 q=>Vm.extBut b o b1 q;have ht:h1.get? T=some o:=k1 T o n1^kp T o n1 n2 hT;have d1:h1.DictOfH (HM.fE prog w) d rs:=Jt dd hd (itd hit) k1;have hk1:HM.bW h1 (ks i).1 (ks i).2:=HM.bW.stay hk0 λb o vs n _ ds e=>by
   have b1:b≠it:=λz=>by subst z;show hni o vs n e ds
   have b2:b≠d:=λz=>by subst z;show hnd o vs n e ds
   show k1 b o b1^kp b o b1 b2 e
  have tyT:({ s0 with heap:=h1,toks:=t }:Shared).TypeIs (.ref T) "tuple" := #[_,ht,hTc];change wpAny _ A.in1 (holding [Value.ref T] _ >>= _) _ _ _;show au^wpAny_holding ?_;show au^wpAny_tryCatch ?_;unfold Builtin.Dict.pairItems;show au^wpAny_typeOf tyT ?_;change wpAny _ _ (seqItems? (.ref T) >>= _) _ _ _;show au^wpAny_seqItems ht hTd^aL ?_;change wpAny _ _ (holding [.ref (ks i).2,v]^dictSet d (.ref (ks i).2) v) _ _ _;show wpAny_holding (wpAny_dictSet_heap (hsz:=?_) (by change A.in1.units+2<cLine;erw[Around.in1];lia) hk1 d1 λh2 d2 sb=>?_);show aL #[plainId_quiet F.cT _,?_];show ih (i+1) h2 _ (storedH rs (ks i).1 (ks i).2 v) 0 ∅ hlt (λb o b1 b2 q=>?_) ?_ d2 (rel.put (ks i).1 rv);show sb.extBut b o b2^k1 b o b1^kp b o b1 b2 q;let#[oi,CJ,ri]:=Xv;show#[oi,sb.extBut it oi (aQ hd) CJ,ri];rw[<- kh rel];show bg (xZ ks vs i)^bg (iZ hlt) hn
theorem DG{its:Array Value}{ks:Nat->HM.bB×Addr}{vs:Nat->V}{Q:Value->Shared->Prop}(hu:A.units+20<cLine)(hx:PlainL s.heap l its)(hh:A.in1.in1.handled=none)(hn:n<=sizeLine)(hsz:its.size=n)
  (hp:∀i,i<n->∃(T:Addr)(v:Value)(o:Obj)(c:Nat),its[i]?=some^.ref T/\s.heap.get? T=some o/\o.cls=.type "tuple" /\ o.data=.seq #v[.ref (ks i).2,v] c/\HM.bW s.heap (ks i).1 (ks i).2/\RelV (vs i) v)
  (q:∀h' tk rs,(∀b o,s.heap.get? b=some o->h'.get? b=some o)->h'.DictOfH (HM.fE prog w) s.heap.objs.size rs->qu (kO ks vs n) rs->Q (.ref s.heap.objs.size) { s with heap:=h',toks:=tk }):
  wpAny (model prog w) A (call (.type "dict") [.ref l]) Q E s:=by show callType_codes (Q₁:=λx s1=>x=.ref s.heap.objs.size/\s1={ s with heap:=s.heap.push { cls:=.type "dict", data:=.dict #[] } }) F.kt_called_dict (F.kt_typeCall_dict_1 _) F.entry_dict_init (kt_code_dict_new _ #[rfl,rfl]) ?_;rintro _ _ ⟨rfl,rfl⟩;have dd:(s.heap.push { cls:=.type "dict", data:=.dict #[] }).DictOfH (HM.fE prog w) s.heap.objs.size []:=Heap.DictOfH.new s.heap;have hx1:PlainL (s.heap.push { cls:=.type "dict", data:=.dict #[] }) l its:=hx.keeps λb o e=>dY _ e;show#[dd.typeIs,F.args_dict_init_2 _ _,?_];unfold Builtin.«dict.__init__»;show au ?_;unfold Builtin.Dict.selfAndRest;show au^wpAny_notOrdered_dict dd.typeIs ?_;show aL (a:=(s.heap.objs.size,[Value.ref l])) ?_;change wpAny _ _ (Builtin.Dict.updateFrom "dict.__init__" s.heap.objs.size (.ref l) [] .none) _ _ _;unfold Builtin.Dict.updateFrom;let#[#[cls,dc,da,sl],c,e0,e1,e2,e3]:=hx1;simp only at e1 e2 e3;subst e1 e2 e3;show au^wpAny_typeOf (T := "list") #[_,e0,rfl] ?_;rw[if_pos^by decide];show au (ZP.I0 e0 hh λh1 t1 k1=>?_);change wpAny _ _ (rule _ >>= _) _ _ _;show au^wpAny_rule ?_;have hl1:h1.IsList l its:=#[_,k1 _ _ e0,rfl,c,rfl];show au^wpAny_pyIter_list (s:={ s with heap:=h1,toks:=t1 }) hl1 ?_;show aL #[plainId_quiet F.cT _,?_];have sz:∀b o,s.heap.get? b=some o->b≠s.heap.objs.size:=λb o e=>aN^aH e;have k0:∀b o,s.heap.get? b=some o->h1.get? b=some o:=λb o e=>k1 b o^dY _ e;have k2:∀b o,h1.get? b=some o->(h1.push { cls:=.type "list_iterator", data:=.fields #v[.ref l,.int 0 0] }).get? b=some o:=λb o e=>dY _ e;have Sm:∀b o,h1.get? b=some o->b≠h1.objs.size:=λb o e=>aN^aH e;have hdo:h1.get? s.heap.objs.size=some { cls:=.type "dict", data:=.dict #[] }:=k1 _ _^iI _ rfl;have hdi:s.heap.objs.size≠h1.objs.size:=Sm _ _ hdo;let#[ol,nl,Nd,_]:=hx;show DF (s0:={ s with heap:=h1.push { cls:=.type "list_iterator", data:=.fields #v[.ref l,.int 0 0] },toks:=t1 }) (it:=h1.objs.size) (l:=l) (d:=s.heap.objs.size) (its:=its) (n:=n) (ks:=ks) (vs:=vs) (by erw[Around.in1];lia) hdi (aQ^sz _ _ Nd) (Sm _ _^k0 _ _ Nd) hh hn hsz (λo vs n e z=>?_) (λo vs n e z=>?_) (λi hi=>?_) (let⟨o,a,r⟩:=hl1;#[o,k2 _ _ a,r]) (λh' tk rs k' d' rel=>?_) _ 0 _ t1 [] 0 rfl (aM _) (λb o _ _ e=>e) #[_,iI _ rfl,rfl,rfl] #[_,#[],0,k2 _ _ hdo,#[rfl,rfl,rfl],rfl,rfl,(λx hx=>nomatch hx),lM] .nil;have e':some ({ cls:=.type "list_iterator", data:=.fields #v[.ref l,.int 0 0] }:Obj)=some o:=(iI _ rfl).symm.trans e;cases e';cases z;have e':=(k2 _ _ hdo).symm.trans e;cases e';cases z;let#[T,v,o,c,a1,a2,a3,a4,a5,a6]:=hp i hi;show#[T,v,o,c,a1,k2 _ _^k0 _ _ a2,a3,a4,Sm _ _^k0 _ _ a2,sz _ _ a2,HM.bW.stay a5 λb o _ _ _ _ e=>k2 _ _^k0 _ _ e,a6];show#[rfl,q h' tk rs (λb o e=>k' b o (Sm _ _^k0 _ _ e) (sz _ _ e)^k2 _ _^k0 _ _ e) d' rel]
abbrev rD(H:Hp):List V->List (HM.bB×Addr×V)->Prop:=Paired λu p=>∃t,u=.ref t/\H t=some^.tup [.ref p.2.1,p.2.2]/\bf H (.ref p.2.1) p.1
def Vs(K:az)(P:Program)(w:World):List V->Hp->VK->Prop:=λvs H Q=>∃a us ps,vs=[.ref a]/\bG K H a us/\rD H us ps/\(ps.map (·.1)).Nodup/\∀p ep H',fV H p (.ext (dQ P w p ep ps)) H'->Q (.ref p) H'
end L2
namespace SN
def SS{es:Array DictEntry}(hd:(d==sysModules)=false):
  MeetsIn prog w (Builtin.«dict.__len__» #[[.ref d],[]]) (λ_ R s=>j5 s.heap d es ep/\R (.ok^.ret^.int es.size s.toks) { s with toks:=s.toks+1 }) :=
 .of_wp λA R s ⟨hm,h⟩=>by let#[o,ho,hc,hdat]:=hm;change wpAny _ _ (dictSize d >>= _) _ _ s;unfold dictSize;show au^au^wpAny_dictEntries ho hdat^aL ?_;change wpAny _ _ (Builtin.Dict.pendingCount d >>= _) _ _ s;show au^wpAny_pendingCount_other hd ?_;show wpAny_ret_mkInt ?_;rw[Nat.add_zero];show h
theorem BH{es:Array DictEntry}{Q:Value->Shared->Prop}(hd:(d==sysModules)=false)(hm:j5 s.heap d es ep)(hfit:(es.size:Int)<2 ^ 63)
  (h:Q (.int es.size (s.toks+1)) { s with toks:=s.toks+1+1 }):wpAny (model prog w) A (call (.builtin "len") [.ref d]) Q E s:=by
 show AZ kind_len plain_len entry_len (args_len1 _) ?_;unfold Builtin.«len»;show au (m:=oneArg "len" _)^aL ?_;show au (m:=callSpecial? (.ref d)^Str.ofString "__len__") (wpAny_callSpecial?_slot (name:=Str.ofString "__len__") hm.ty F.slot_dict_len
  (call_meetsIn F.slot_dict_len hm.ty F.entry_dict_len (F.args_dict_len_1 _) (SS (es:=es) (ep:=ep) hd) #[hm,?_]))
 change wpAny _ _ _ _ _ { s with toks:=s.toks+1 };show au^wpAny_holding^aL ?_;show au^wpAny_letGo ?_;change wpAny _ _ (if((es.size:Nat):Int)<0 then _ else _) _ _ _;rw[if_neg ∅];change wpAny _ _ (if((es.size:Nat):Int)>=2 ^ 63 then _ else _) _ _ _;rw[if_neg ∅];show au^wpAny_mkInt^aL #[_,rfl,h]
end SN
namespace L2
variable {kvs:gA}
def Vt(P:Program)(w:World):List V->Hp->VK->Prop:=λxs H Q=>∃d ep kvs,xs=[.ref d]/\H d=some^.ext (dQ P w d ep kvs)/\Q (.int kvs.length) H
theorem ud:dP X (.builtin "len")^Vt X.prog X.w:=by intro u5 s σ H xs us Q I r h;let#[d,ep,kvs,rfl,hd,q]:=h;let#[u,rfl,ru]:=vals1 r;cases ru;let#[lo,z,es,rd,hs,hat]:=I.raw hd;show SN.BH lo rd (by rw[sizeLine_eq] at z;lia) ?_;show#[.int kvs.length,H,I.tok _,#[_,by rw[hs]],q]
def agu(hd:H d=some^.ext (dQ P w d ep kvs))(q:Q (.int kvs.length) H):Vt P w [.ref d] H Q:=#[d,ep,kvs,rfl,hd,q]
def abn(K:az)(P:Program)(w:World):List V->Hp->VK->Prop:=λxs H Q=>∃d ep kvs T b,xs=[.ref d,.ty T]/\H d=some^.ext (dQ P w d ep kvs)/\PySem.W.kitOne K (.type "dict")^.type T=some b/\Q (.bl b) H
def Zm:dP X (.builtin "isinstance")^abn X.K X.prog X.w:=by
 intro u5 s σ H xs us Q I r h;let#[d,ep,kvs,T,b,rfl,hd,e,q]:=h;cases r with
 | cons r1 r =>
  cases r with
  | cons r2 r =>
   cases r;cases r1;cases r2;let#[lo,z,es,#[o,h1,h2,_],hs,hat]:=I.raw hd;show gK PySem.W.kitx_dict I.zB #[o,h1,h2.1] e (λz=>nomatch z) λtk=>#[.bl b,H,I.tok _,rfl,q]
def Pd(P:Program)(w:World):List V->Hp->VK->Prop:=λxs H Q=>∃d ep kvs,xs=[.ref d]/\H d=some^.ext (dQ P w d ep kvs)/\∀p H',fV H p (.lst (kvs.map λe=>V.ref e.2.1)) H'->Q (.ref p) H'
theorem yc{us:List V}{ps:gA}(h:rD H us ps)(hi:i<ps.length):∃t,us[i]?=some^.ref t/\H t=some^.tup [.ref (ps.getD i ((0,none),0,.eW)).2.1,(ps.getD i ((0,none),0,.eW)).2.2]/\bf H (.ref (ps.getD i ((0,none),0,.eW)).2.1) (ps.getD i ((0,none),0,.eW)).1:=by
 have hl:=h.length;let#[p,hp,t,e,h1,h2]:=rm h (i:=i) (x:=us[i]'∅)^fh _;have ep:ps.getD i ((0,none),0,.eW)=p:=by rw[vD,hp];rfl
 rw[ep];show#[t,by rw[fh ∅,e],h1,h2]
theorem yd(hu:X.A.units+64<cLine)(hc:X.calm=true):dP X (.type "dict")^Vs X.K X.prog X.w:=by
 intro u5 s σ H xs us Q I r h;let#[l,ul,ps,rfl,hS,hP,nd,q]:=h;let#[u,rfl,r1]:=vals1 r;cases r1;let#[its,rv,pl,hz]:=I.list hS;have e1:ul.length=ps.length:=hP.length;have hA:X.A.in1.in1.handled=none:=I.ok.hd hc;have big:@LT.lt Nat _ sysModules s.heap.objs.size:=I.big;have n6:@Ne Nat s.heap.objs.size sysModules:=∅;have hl:=rv.length;have eb:kO (λi=>((ps.getD i ((0,none),0,.eW)).1,(ps.getD i ((0,none),0,.eW)).2.1)) (λi=>(ps.getD i ((0,none),0,.eW)).2.2) ps.length=ps:=by
  rw[Al];show range_getD _ ps
  .intro i j hi hj e;have gi:∀k(hk:k<ps.length),ps.getD k ((0,none),0,.eW)=ps[k]:=λk hk=>by rw[vD,fh hk];rfl
   dsimp only at e;rw[gi i ∅,gi j hj] at e;have:=(wW nd (i:=i) (j:=j) (h₀:=by rw[ao];lia) (h₁:=by rw[ao];lia)).mp (by rw[wX,wX];show e);lia
 show DG (n:=ps.length) (ks:=λi=>((ps.getD i ((0,none),0,.eW)).1,(ps.getD i ((0,none),0,.eW)).2.1)) (vs:=λi=>(ps.getD i ((0,none),0,.eW)).2.2) ∅ pl hA ∅ (by rw[aZ];lia) (λi hi=>?_) λh' tk rs k' d' rel=>?_
 .let#[t,ht,htt,hh]:=yc hP hi;let#[w,hw,rw']:=rv.get ht;cases rw';let#[its2,rv2,pt,_]:=I.tuple^dJ.of htt;let#[o,ho,hc',n,hd]:=pt;cases rv2 with
  | cons a1 b1 =>
   cases b1 with
   | cons a2 b2 =>
    cases b2;cases a1;show#[t,_,o,n,by simpa using hw,ho,hc',hd,I.hrm hh,a2]
 .rw[eb] at rel;have I3:Inv X u5 σ H { s with heap:=h',toks:=tk }:=I.kept k';have fd:ig X u5 H s.heap.objs.size:=I.qk (av _)^I.hok.fresh^av _;let#[ep,ho]:=GQ (X:=X) (by rw[<- e1];show hz) (beq_eq_false_iff_ne.mpr n6) rel d';have I4:=I3.CZ fd (o:=.ext (dQ X.prog X.w s.heap.objs.size ep ps)) ho;show#[.ref _,_,I4,rfl,q _ ep _ #[fd.1,rfl]]
def Ju{us:List V}{ps:gA}(hS:bG K H a us)(hP:rD H us ps)(nd:(ps.map (·.1)).Nodup)(h:∀p ep H',fV H p (.ext (dQ P w p ep ps)) H'->Q (.ref p) H'):Vs K P w [.ref a] H Q:=#[a,us,ps,rfl,hS,hP,nd,h]
section
variable {nx bk ct:St->Hp->Prop}{σ:St}{ty:TE}
def aek(h:∀p ep H',fV H p (.ext (dQ P w p ep [])) H'->Q (.ref p) H'):O9 P w σ H Q:=h
def pT{k:HM.bB}(hd:H d=some^.ext (dQ P w d ep kvs))(hk:cE H kvs)(hb:bf H (.ref b) k)(hv:kN kvs k=some v)(h:Q v H):O5 P w (.ref d) (.ref b) H Q:=#[d,b,ep,kvs,k,v,rfl,rfl,#[hd,hk],hb,hv,h]
def Pe{k:HM.bB}{R:Hp->Prop}(hd:H d=some^.ext (dQ P w d ep kvs))(hk:cE H kvs)(hb:bf H (.ref b) k)(hz:kvs.length<=1000000)(h:∀uH H',tR H d (.ext (dQ P w d uH^kX kvs k b v)) H'->R H'):O6 P w v (.ref d) (.ref b) H R:=#[d,b,ep,kvs,k,rfl,rfl,#[hd,hk],hb,hz,h]
def ael(h:tv σ H λv H1=>td σ H1 λx H2=>ty σ H2 λy H3=>O6 P w v x y H3 λH4=>nx σ H4):O7 P w td ty tv #[nx,rt,bk,ct] σ H:=h
def aem{rd:V->V->Hp->VK->Prop}(h:td σ H λx H1=>ty σ H1 λy H2=>O5 P w x y H2 λv H3=>tv σ H3 λy2 H4=>rd v y2 H4 λz H5=>O6 P w z x y H5 λH6=>nx σ H6):O8 P w td ty tv rd #[nx,rt,bk,ct] σ H:=h
end
end L2
namespace SN
variable {es:Array DictEntry}
theorem Ly{e:DictEntry}{Q:Option Value->Shared->Prop}(hit:s.heap.IsValIter it d i es.size ep)(x:j5 s.heap d es ep)(he:es[i]?=some e)
  (hQ:∀h',h'.IsValIter it d (i+1) es.size ep->Heap.SameBut it s.heap h'->Q (some e.val) { s with heap:=h' }):wpAny (model prog w) A (pyNext^.ref it) Q E s:=by
 have ty:=hit.typeIs;let#[o,ho,hc,hf]:=hit;let#[od,hod,_,uO]:=x;unfold pyNext;show au^wpAny_attempt^wpAny_callSpecial?_slot (name:=Str.ofString "__next__") ty A1^wpAny_call_entry A1 ty F.entry_dict_valueiterator_next ?_^F.args_dict_valueiterator_next_1 _;show au^aL^au^au ?_
 first|show au (wpAny_typeNameOfWhole_valiter ty^aL^au^wpAny_fieldsOf ho hf ?_)|show au^wpAny_typeNameOf_valiter ty^aL^au^wpAny_fieldsOf ho hf ?_
 rw[show Builtin.Dict_items.ownsTuple "dict_valueiterator" = false by decide];erw[cB,if_false];change wpAny _ _ (if(Value.ref d==Value.none)=true then _ else _) _ _ s;rw[if_neg^show ¬(Value.ref d==Value.none)=true from lG];show au^aL^au^wpAny_dictEntries hod uO ?_;rw[if_neg^by simp];show au^aL^au^wpAny_dictEpoch hod uO ?_;rw[if_neg^by simp];show aL ?_;erw[show ¬((i:Int)<0) by lia,if_false,jo,he];show au ?_
 first|show au (wpAny_typeNameOfWhole_valiter ty^aL^au^wpAny_isOneOf_valiter ty ?_)|show au^wpAny_typeNameOf_valiter ty^aL^au^wpAny_isOneOf_valiter ty ?_
 change wpAny _ _ (setField (.ref it) 1 (rawInt ((i:Int)+1)) >>= _) _ _ s;have xF:(s.heap.update it^Obj.mapFields (·.setIfInBounds 1 (rawInt ((i:Int)+1)))).IsValIter it d (i+1) es.size ep :=
  #[_,fj _ ho^jz^eB hf _,(lP ..).trans hc,by rw[eB hf];simp[rawInt]]
 show au^wpAny_setField ho hf (by simp)^au^wpAny_holding ?_;show au^wpAny_isOneOf_valiter (s:={ s with heap:=s.heap.update it (Obj.mapFields (·.setIfInBounds 1 (rawInt ((i:Int)+1)))) }) xF.typeIs ?_;show au (wpAny_isOneOf_valiter (s:={ s with heap:=s.heap.update it (Obj.mapFields (·.setIfInBounds 1 (rawInt ((i:Int)+1)))) }) xF.typeIs^show wpAny _ _ (pure e.val) _ _ _ from ?_);show aL^aL #[_,rfl,aL^hQ _ xF (kH ..)]
theorem Pf{Q:Option Value->Shared->Prop}(hh:A.handled=none)(hit:s.heap.IsValIter it d es.size es.size ep)(x:j5 s.heap d es ep)
  (hQ:∀h',Heap.ExtBut it s.heap h'->Q none { s with heap:=h' }):wpAny (model prog w) A (pyNext^.ref it) Q E s:=by
 have ty:=hit.typeIs;let#[o,ho,hc,hf]:=hit;let#[od,hod,_,uO]:=x;unfold pyNext;show au^wpAny_attempt^wpAny_callSpecial?_slot (name:=Str.ofString "__next__") ty A1^wpAny_call_entry A1 ty F.entry_dict_valueiterator_next ?_^F.args_dict_valueiterator_next_1 _;show au^aL^au^au ?_
 first|show au (wpAny_typeNameOfWhole_valiter ty^aL^au^wpAny_fieldsOf ho hf ?_)|show au^wpAny_typeNameOf_valiter ty^aL^au^wpAny_fieldsOf ho hf ?_
 rw[show Builtin.Dict_items.ownsTuple "dict_valueiterator" = false by decide];erw[cB,if_false];change wpAny _ _ (if(Value.ref d==Value.none)=true then _ else _) _ _ s;rw[if_neg^show ¬(Value.ref d==Value.none)=true from lG];show au^aL^au^wpAny_dictEntries hod uO ?_;rw[if_neg^by simp];show au^aL^au^wpAny_dictEpoch hod uO ?_;rw[if_neg^by simp];show aL ?_;erw[show ¬((es.size:Int)<0) by lia,if_false,jo,uG^av es.size];show au ?_
 first|show au (wpAny_typeNameOfWhole_valiter ty^aL ?_)|show au^wpAny_typeNameOf_valiter ty^aL ?_
 change wpAny _ _ (setField (.ref it) 0 .none >>= _) _ _ s;show au (wpAny_setField ho hf (by simp)^show wpAny _ _ (newExc (.type "StopIteration") [] >>= _) _ _ _ from au ?_);erw[newExc,newTuple];show au (wpAny_newObj_type ?_^by size_fits);show au (m:=firstArgMember _ _) (wpAny_of_eq (a:=Value.none) (by first|rfl|(erw[firstArgMember];rfl))^wpAny_newObj_type ?_^by size_fits);erw[raiseNew];show au^wpAny_handled ?_;rw[show A.in1.handled=none from hh];show au^aL^wpAny_throw^au ?_;show wpAny_isInstance (T := "StopIteration") (b:=true) #[_,iI _ rfl,rfl] isSubtype_stop ?_;show aL^hQ _^((kH ..).extBut.push _).push _
def Lz{v:Addr}{Q:Value->Shared->Prop}(hv:s.heap.IsValuesView v d)(x:j5 s.heap d es ep)
  (hQ:Q (.ref s.heap.objs.size) { s with heap:=s.heap.push { cls:=.type "dict_valueiterator", data:=.fields #v[.ref d,.int 0 0,.int es.size 0,.int ep 0] } }):wpAny (model prog w) A (pyIter^.ref v) Q E s:=by
 let#[ov,hov,hcv,hdv]:=id hv;let#[o,ho,hc,hdat]:=id x;show wpAny_pyIter_slot hv.typeIs F.slot_dict_values_iter^wpAny_call_entry F.slot_dict_values_iter hv.typeIs F.entry_dict_values_iter ?_^F.args_dict_values_iter_1 _;unfold Builtin.«dict_values.__iter__»;show au^aL ?_;show au ?_;unfold Builtin.Dict_items.dictOf;show au^wpAny_field hov hdv (x:=.ref d) rfl^aL ?_;show au ?_;unfold Builtin.Dict_items.newIterator;show au^wpAny_dictEntries ho hdat ?_;show au^wpAny_dictEpoch ho hdat ?_;have hown:Builtin.Dict_items.ownsTuple "dict_valueiterator" = false:=by decide
 erw[hown,cB,if_false];show wpAny_newObj_type^aL #[_,rfl, "dict_valueiterator", _,#[_,iI _ rfl,rfl],F.slot_dict_valueiterator_next.lookup,?_];simpa[rawInt] using hQ
def GS(hh:A.handled=none)(I d:Addr)(hne:d≠I)(es:Array DictEntry)(ep:Nat):Walks prog w A I [I,d] [I] es.size (λi v=>∃e,es[i]?=some e/\v=e.val) (λi h=>h.IsValIter I d i es.size ep/\j5 h d es ep) where
 sub:=λb hb=>by simp at hb;simp[hb]
 frame:=λ_ _ _ st hk=>#[st.1.at λo e=>hk I (by simp) o e,st.2.at' λo e=>hk d (by simp) o e]
 item:=λi s Q E hi st hQ=>by have e1:es[i]?=some es[i]:=fX hi;show Ly st.1 st.2 e1 λh' h1 h2=>hQ _ h' s.toks #[_,e1,rfl] #[h1,st.2.at' λo e=>h2.extBut d o hne e] λb o hb e=>h2.extBut b o (λh=>hb^by simp[h]) e
 done:=λs Q E st hQ=>Pf hh st.1 st.2 λh' h1=>hQ h' s.toks λb o hb e=>h1 b o (λh=>hb^by simp[h]) e
 self:=λ_ _ _ _ st hQ=>wpAny_pyIter_valiter st.1 hQ
def GU{v:Addr}{num:Nat->Int}{Q:Value->Shared->Prop}(hh:A.handled=none)(hv:s.heap.IsValuesView v d)(x:j5 s.heap d es ep)(hne:0<es.size)(hn:∀(i:Nat)(e:DictEntry),es[i]?=some e->∃t,e.val=Value.int (num i) t)
  (h:∀u h' tk,(∃e,es[argBest (λi j=>decide (num i>num j)) (es.size-1)]?=some e/\u=e.val)->(∀b o,s.heap.get? b=some o->h'.get? b=some o)->Q u { s with heap:=h',toks:=tk }):
  wpAny (model prog w) A (call (.builtin "max") [.ref v]) Q E s:=by
 let#[o,ho,r]:=id x;have hlt:=aH ho;show call_max_walk^Lz hv x ?_;show#[_,_,_,_,_,_,_,rfl,GS (A:=A.in1) hh s.heap.objs.size d (aN hlt) es ep,#[#[_,iI _ rfl,rfl,rfl],x.at' λo e=>dY _ e],?_,hne,CmpOf.ints_gt num (λi u ⟨e,he,eu⟩=>by let#[t,ht]:=hn i e he;show#[t,by rw[eu,ht]]),λu h' tk hP hk=>?_]
 .intro b hb;rw[fk];simp at hb;rcases hb with e|e;subst e;show i0 _;subst e;show jy hlt
 .show h u h' tk hP λb o e=>hk b o (λhm=>by simp at hm;subst hm;show absurd (aH e)^eV _)^dY _ e
def GV(hd:(d==sysModules)=false):
  MeetsIn prog w (Builtin.«dict.values» #[[.ref d],[]]) (λ_ R s=>j5 s.heap d es ep /\
   R (.ok^.ret^.ref s.heap.objs.size) { s with heap:=s.heap.push { cls:=.type "dict_values", data:=.fields #v[.ref d] } }) :=
 .of_wp λA R s ⟨hm,h⟩=>by show au ?_;unfold Builtin.Dict.noArgs;show au^wpAny_notOrdered_dict hm.ty ?_;change wpAny _ _ (pure d) _ _ s;show aL ?_;change wpAny _ _ (Builtin.Dict.showsAll d >>= _) _ _ s;unfold Builtin.Dict.showsAll;rw[if_neg (by rw[hd];show lG)];show au^aL ?_;show au^wpAny_newObj_type^aL #[_,rfl,h]
end SN
namespace L2
variable {kvs:gA}
def DI(v d:Addr):Heap->Prop:=λh=>h.IsValuesView v d
section
variable {o f:Expr}{ty:TE}
def Vu{σ:St}(I:Inv X u5 σ H s)(h:H d=some^.ext (dQ X.prog X.w d ep kvs)):
  s.TypeIs (.ref d) "dict" /\ (∀b,Value.ref d=.ref b->∃ob,s.heap.get? b=some ob/\ob.dict=none)/\(d==sysModules)=false:=by let#[lo,_,es,rd,_,_]:=I.raw h;show#[rd.ty,λb q=>?_,lo];cases q;let#[ob,h1,h2,_]:=rd;show#[ob,h1,h2.2.1]
def Pg(P:Program)(w:World)(Q:VK):V->Hp->Prop:=λx H=>∃d ep kvs,x=.ref d/\H d=some^.ext (dQ P w d ep kvs)/\∀v H',fV H v (.ext (DI v d)) H'->Q (.ref v) H'
def Vv(P:Program)(w:World)(td:TE):TE:=λσ H Q=>td σ H^Pg P w Q
def Ph(ho:PE X o td)(hbase:attributeBase o "values" X.env^eval o X.env=eval o X.env)(hline:(apos.endLine==cpos.line)=true):PE X (.Call (.Attribute o "values" apos) [] [] cpos)^Vv X.prog X.w td:=by intro u5 s σ H Q I h;show wpAny_Call_method0_late hbase hline (c9 (ho u5 s σ H _ I h) λu s1 zq=>?_);let#[x,H1,I1,r1,d,ep,kvs,ex,hd,q1]:=zq;subst ex;obtain rfl:u=Value.ref d:=r1;let#[t1,t2,lo]:=Vu I1 hd;let#[_,_,es,rd,_,_]:=I1.raw hd;show#["dict", _,vS,PySem.F.slot_dict_values,PySem.F.type_dict_values,t1,t2,sP rfl^PySem.evalArgs_none ?_];show call_meetsIn PySem.F.slot_dict_values t1 PySem.F.entry_dict_values (PySem.F.args_dict_values_1 _) (SN.GV (es:=es) (ep:=ep) lo) #[rd,?_];show#[.ref s1.heap.objs.size,_,I1.laid (a:=s1.heap.objs.size) (o:=.ext (DI s1.heap.objs.size d)) (t':=s1.toks) (λ_ _ q=>dY _ q) (av _) #[#[_,iI _ rfl,rfl,rfl],#[_,iI _ rfl],λg1 g2 ⟨ob,a1,a2⟩ he=>#[ob,he _ a1,a2]],rfl,q1 _ _ #[I1.hok.fresh^av _,rfl]]
def Vw(P:Program)(w:World):List V->Hp->VK->Prop:=λxs H Q=>∃(v d:Addr)(ep:Nat)(kvs:gA)(ns:List Int),xs=[.ref v]/\H v=some^.ext (DI v d)/\H d=some^.ext (dQ P w d ep kvs)/\kvs.map (·.2.2)=ns.map V.int/\ns≠[]/\∀m,m∈ns->(∀x∈ns,x<=m)->Q (.int m) H
theorem LA(hc:X.calm=true):dP X (.builtin "max")^Vw X.prog X.w:=by
 intro u5 s σ H xs us Q I r h;let#[v,d,ep,kvs,ns,rfl,hv,hd,en,hne,q]:=h;let#[u,rfl,ru]:=vals1 r;cases ru;let#[vv,_,_]:=I.hok v _ hv;let#[lo,z,es,rd,hs,hat]:=I.raw hd;have hl:kvs.length=ns.length:=by have:=congrArg List.length en;simpa using this
 have hpos:0<es.size:=by
  rw[hs,hl];cases ns with
  | nil=>show absurd rfl hne
  | cons=>simp
 have hn:∀(i:Nat)(e:DictEntry),es[i]?=some e->∃t,e.val=Value.int (ns.getD i 0) t:=λi e he=>by
  have hi:i<kvs.length:=by rw[<- hs];show(nD.mp he).1
  let#[u,hu,_,hr]:=hat i _^fh hi;rw[he] at hu;cases hu;have e1:kvs[i].2.2=V.int^ns.getD i 0:=by
   have:(kvs.map (·.2.2))[i]?=(ns.map V.int)[i]?:=by rw[en]
   rw[aV,aV,fh hi,fh (show i<ns.length by lia)] at this;rw[vD,fh (show i<ns.length by lia)];show Option.some.inj this
  rw[e1] at hr;show hr
 show SN.GU (num:=λi=>ns.getD i 0) (I.ok.hd hc) vv rd hpos hn λu h' tk hu k=>?_;let#[e,he,rfl]:=hu;let#[b1,b2]:=nQ (λi=>ns.getD i 0) (es.size-1);let#[t,ht]:=hn _ _ he;rw[ht];have at_:∀i,i<ns.length->ns[i]?=some^ns.getD i 0:=λi hi=>by rw[vD,fh hi];rfl
 show#[.int _,H,I.kept k,#[_,rfl],q _ (gq (at_ _ ∅)) λx hx=>?_];let#[i,hi]:=gG.mp hx;have hil:=(e9 hi).1;rw[at_ i hil] at hi;rw[<- Option.some.inj hi];show b2 i ∅
def abo(P:Program)(w:World)(ty tx:TE)(σ:St)(Q:VK):V->Hp->Prop:=λx H1=>∃d ep kvs,x=.ref d/\H1 d=some^.ext (dQ P w d ep kvs)/\ty σ H1 λy H2=>tx σ H2 λz H3=>∃b ep kvs k,y=.ref b/\DH P w H3 d ep kvs/\bf H3 (.ref b) k/\Q ((kN kvs k).getD z) H3
def XT(P:Program)(w:World)(td ty tx:TE):TE:=λσ H Q=>td σ H^abo P w ty tx σ Q
def LB(hu:X.A.units+64<cLine)(ho:PE X o td)(he:PE X e ty)(hf:PE X f tx)(m:M2 X o "get" apos e f cpos):PE X (.Call (.Attribute o "get" apos) [e,f] [] cpos)^XT X.prog X.w td ty tx:=by intro u5 s σ H Q I h;show wpAny_Call_method m.base m.few m.line vS lQ PySem.F.type_dict_get (c9 (ho u5 s σ H _ I h) λu s1 zq=>?_);let#[x,H1,I1,rx,d,ep,kvs,ex,hd,q1]:=zq;subst ex;obtain rfl:u=Value.ref d:=rx;let#[t1,t2,lo]:=Vu I1 hd;show#[t1,t2,?_];rw[m.trees];show sP rfl^Calls.evalArgs_plain^jQ (c9 (he u5 s1 σ H1 _ I1 q1) λiv s2 zq=>?_);let#[y,H2,I2,ry,q2]:=zq;show jQ (c9 (hf u5 s2 σ H2 _ I2 q2) λfv s3 zq=>?_);let#[z,H3,I3,rz,b,ep3,alq,k,ey,vI,hb,q3]:=zq;show lH ?_;subst ey;obtain rfl:iv=Value.ref b:=ry;let#[_,_,xs,rel,dd]:=I3.dh vI;show call_meetsIn lQ dd.typeIs vR (vQ _ _ _) (meetsH_dict_get_default (HM.fE X.prog X.w) d b lo fv) #[BF (X:=X) hu,k,xs,I3.hrm hb,dd,?_];show#[_,H3,I3.tok _,(rel.val k).getD rz,q3]
end
section
variable {o i f:Expr}{ty:TE}
def ue(e1:X.prog=P)(e2:X.w=w)(hu:X.A.units+64<cLine)(ho:PE X o td)(hi:PE X i ty)(hs:NL i):PE X (.Subscript o i pos)^RS (O5 P w) td ty:=e1▸e2▸jW hu ho hi hs
def GW(e1:X.prog=P)(e2:X.w=w)(hu:X.A.units+64<cLine)(ho:PE X o td)(he:PE X e ty)(hf:PE X f tx)(m:M2 X o "get" apos e f cpos):PE X (.Call (.Attribute o "get" apos) [e,f] [] cpos)^XT P w td ty tx:=e1▸e2▸LB hu ho he hf m
theorem GX(hc:X.calm=true):dP X (.type "list")^Pd X.prog X.w:=by
 intro u5 s σ H xs us Q I r h;let#[d,ep,kvs,rfl,hd,q]:=h;let#[u,rfl,ru]:=vals1 r;cases ru;let#[lo,z,es,rd,hs,hat]:=I.raw hd;show PySem.W.kdl_call (SN.Jl (es:=es) (ep:=ep) lo) (I.ok.hd hc) rd ∅ λh' tk acc' c' hk hS hacc=>?_;show#[.ref s.heap.objs.size,_,I.laid (t':=tk) hk (av _) (o:=.lst (kvs.map λe=>V.ref e.2.1)) #[by rw[ao];show z,acc'.toList,c',?_,?_],rfl,q _ _ #[I.hok.fresh^av _,rfl]]
 .have go:∀{l:List (HM.bB×Addr×V)}{vs:List Value},vs.length=l.length->(∀(j:Nat) e,l[j]?=some e->vs[j]?=some^.ref e.2.1)->Vals (l.map λe=>V.ref e.2.1) vs:=by
   intro l;induction l with
   | nil=>intro vs hl _;cases vs with
    | nil=>show .nil
    | cons v vs=>simp at hl
   | cons e l ih =>
    intro vs hl hv;cases vs with
    | nil=>simp at hl
    | cons v vs =>
     have h0:=hv 0 e rfl;erw[A4,Option.some.injEq] at h0;subst h0;show .cons rfl (ih (by simpa using hl) λj x hx=>by simpa using hv (j+1) x^by simpa using hx)
  show go (by rw[dB,hacc.1,hs]) λj e he=>?_;let#[u,hu,hk,_]:=hat j e he;have hj:j<acc'.size:=by rw[hacc.1];show(nD.mp hu).1
  let#[e2,he2,ee]:=hacc.2 j acc'[j]^fX hj;rw[fY,fX hj,ee];rw[hu] at he2;cases he2;rw[hk]
 .rw[hS,Array.toArray_toList]
end
section
variable {σ:St}{ty:TE}
def SV(hd:H d=some^.ext (dQ P w d ep kvs))(h:∀p H',fV H p (.lst (kvs.map λe=>V.ref e.2.1)) H'->Q (.ref p) H'):Pd P w [.ref d] H Q:=#[d,ep,kvs,rfl,hd,h]
def agv(h:td σ H^Pg P w Q):Vv P w td σ H Q:=h
def aeo(hd:H d=some^.ext (dQ P w d ep kvs))(h:∀v H',fV H v (.ext (DI v d)) H'->Q (.ref v) H'):Pg P w Q (.ref d) H:=#[d,ep,kvs,rfl,hd,h]
def XU{v:Addr}(hv:H v=some^.ext (DI v d))(hd:H d=some^.ext (dQ P w d ep kvs))(en:kvs.map (·.2.2)=ns.map V.int)(hne:ns≠[])(h:∀m,m∈ns->(∀x∈ns,x<=m)->Q (.int m) H):Vw P w [.ref v] H Q:=#[v,d,ep,kvs,ns,rfl,hv,hd,en,hne,h]
def abp(h:td σ H^abo P w ty tx σ Q):XT P w td ty tx σ H Q:=h
end
end L2
namespace MX
section
variable {P:Nat->Value->Prop}{St:Nat->Heap->Prop}
def nm:(toString "max" ++ toString ".loop" : String) = "max.loop" := by decide
theorem loop(W:Walks prog w A.in1 I fp wr n P St)(bt:Nat->Nat->Bool)(hcmp:CmpOf prog w A.in1 .Gt P bt)(S:Addr)(hSf:S∉fp):
  ∀(k j:Nat)(s:Shared)(vb:Value)(c:Nat),n-(j+1)=k->j+1<=n->St (j+1) s.heap->P (argBest bt j) vb ->
  s.heap.get? S=some { cls:=.type "list", dict:=none,data:=.seq #v[vb,vb] c,slots:=#[] } ->
  (∀v h' tk,P (argBest bt (n-1)) v->(∀b o,b∉wr->b≠S->s.heap.get? b=some o->h'.get? b=some o)->R (.ok^.ret v) { s with heap:=h',toks:=tk }) ->
  codeAny (model prog w) A (.builtin "max.loop" #[[.ref I,.none,.ref S],kw]) R s:=by
 have SW:S∉wr:=λh=>hSf^W.sub _ h;intro k;induction k with
 | zero =>
  intro j s vb c hk hj hst Vx hS hR;have hin:j+1=n:=∅;show codeAny_builtin qc ?_;rw[iu gE _];show(show wpAny _ A.in1 (seqItems? (.ref S) >>= _) _ _ s from au^wpAny_seqItems hS rfl ?_);show(show wpAny _ A.in1 (tryCatch (pyNext^.ref I) _ >>= _) _ _ s from au^wpAny_tryCatch (W.done s _ _ (hin▸hst) λh' tk hk'=>?_));show(show wpAny _ A.in1 (updateSeq S (λ_=>#[]) >>= _) _ _ _ from au^wpAny_updateSeq (hk' S _ SW hS) rfl^au^wpAny_letGo^aL ?_);show hR vb _ tk (by rw[<- hin];show Vx) λb o Jv SX e=>(fZ _ _^aQ SX).trans^hk' b o Jv e
 | succ k ih =>
  intro j s vb c hk hj hst Vx hS hR;have hlt:j+1<n:=∅;show codeAny_builtin qc ?_;rw[iu gE _];show(show wpAny _ A.in1 (seqItems? (.ref S) >>= _) _ _ s from au^wpAny_seqItems hS rfl ?_);show(show wpAny _ A.in1 (tryCatch (pyNext^.ref I) _ >>= _) _ _ s from au^wpAny_tryCatch (W.item (j+1) s _ _ hlt hst λv h' tk hP ye hk'=>?_));have hS':=hk' S _ SW hS;show(show wpAny _ A.in1 (tryCatch (holding [v,v] (richCompare .Gt v vb >>= _)) _ >>= _) _ _ _ from au^wpAny_tryCatch^wpAny_holding^au^hcmp (j+1) (argBest bt j) v vb _ _ _ hP Vx ?_);show au^wpAny_holding^wpAny_truthy_bool^au^wpAny_letGo^aL ?_;cases hb:bt (j+1)^argBest bt j with
  | true =>
   erw[if_true];show au^wpAny_updateSeq hS' rfl^au^wpAny_letGo ?_;rw[nm];show aL #[plainId_quiet gE _,ih (j+1) _ v _ ∅ hlt (W.frame _ _ _ ye λb hbf o e=>(fZ _ _ (λh:S=b=>hSf (by rw[h];show hbf))).trans e) (by erw[argBest,hb,if_true];show hP) (fj _ hS' rfl) λv' h'' Pj hP' Pk=>?_];show hR v' h'' Pj hP' λb o Jv SX e=>Pk b o Jv SX^(fZ _ _^aQ SX).trans^hk' b o Jv e
  | false =>
   erw[cB,if_false];show au^wpAny_letGo ?_;rw[nm];show aL #[plainId_quiet gE _,ih (j+1) _ vb c ∅ hlt ye (by erw[argBest,hb,cB,if_false];show Vx) hS' λv' h'' Pj hP' Pk=>hR v' h'' Pj hP' λb o Jv SX e=>Pk b o Jv SX^hk' b o Jv e]
def first(W:Walks prog w A.in1 I fp wr n P St)(bt:Nat->Nat->Bool)(hcmp:CmpOf prog w A.in1 .Gt P bt)(S:Addr)(hSf:S∉fp)(hn:0<n){c:Nat}(hst:St 0 s.heap)
  (hS:s.heap.get? S=some { cls:=.type "list", dict:=none,data:=.seq #[] c,slots:=#[] })
  (hR:∀v h' tk,P (argBest bt (n-1)) v->(∀b o,b∉wr->b≠S->s.heap.get? b=some o->h'.get? b=some o)->R (.ok^.ret v) { s with heap:=h',toks:=tk }):
  codeAny (model prog w) A (.builtin "max.loop" #[[.ref I,.none,.ref S],kw]) R s:=by have SW:S∉wr:=λh=>hSf^W.sub _ h;show codeAny_builtin qc ?_;rw[iu gE _];show(show wpAny _ A.in1 (seqItems? (.ref S) >>= _) _ _ s from au^wpAny_seqItems hS rfl ?_);show(show wpAny _ A.in1 (tryCatch (pyNext^.ref I) _ >>= _) _ _ s from au^wpAny_tryCatch (W.item 0 s _ _ hn hst λv h' tk hP ye hk'=>?_));have hS':=hk' S _ SW hS;show(show wpAny _ A.in1 (updateSeq S (λ_=>#v[v,v]) >>= _) _ _ _ from au^wpAny_updateSeq hS' rfl ?_);rw[nm];show aL #[plainId_quiet gE _,loop W bt hcmp S hSf _ 0 _ v _ rfl hn (W.frame _ _ _ ye λb hbf o e=>(fZ _ _ (λh:S=b=>hSf (by rw[h];show hbf))).trans e) hP (fj _ hS' rfl) λv' h'' Pj hP' Pk=>?_];show hR v' h'' Pj hP' λb o Jv SX e=>Pk b o Jv SX^(fZ _ _^aQ SX).trans^hk' b o Jv e
def none_{d:Value}(W:Walks prog w A.in1 I fp wr 0 P St)(S:Addr)(hSf:S∉fp){c:Nat}(hst:St 0 s.heap)
  (hS:s.heap.get? S=some { cls:=.type "list", dict:=none,data:=.seq #[] c,slots:=#[] })
  (hR:∀h' tk,(∀b o,b∉wr->s.heap.get? b=some o->h'.get? b=some o)->R (.ok^.ret d) { s with heap:=h',toks:=tk }):
  codeAny (model prog w) A (.builtin "max.loop" #[[.ref I,.none,.ref S],[(x,d)]]) R s:=by show codeAny_builtin qc ?_;rw[iu gE _];show(show wpAny _ A.in1 (seqItems? (.ref S) >>= _) _ _ s from au^wpAny_seqItems hS rfl ?_);show(show wpAny _ A.in1 (tryCatch (pyNext^.ref I) _ >>= _) _ _ s from au^wpAny_tryCatch (W.done s _ _ hst λh' tk hk'=>?_));change wpAny _ A.in1 (rule _ >>= _) _ _ _;show au^wpAny_rule^aL^hR h' tk hk'
end
theorem Jw{id:String}{b:Builtin}{args:List Value}{Q:Value->Shared->Prop}(hk:builtinKind id=none)(hp:plainId id=true)(hb:entryFor table id=some b)(ha:argsOk id #[args,kw])
  (hc:wpAny (model prog w) A.in1 (b #[args,kw]) (λfin s'=>match fin with
   | .done f=>(match(Except.ok f:Result) with|.ok (.ret v)=>Q v s'|.ok _=>False|.error e=>E e s')
   | .again c'=>c'.quiet=true/\codeAny (model prog w) A c' (λr s'=>match r with|.ok (.ret v)=>Q v s'|.ok _=>False|.error e=>E e s') s') E s):wpAny (model prog w) A (call (.builtin id) args kw) Q E s:=by
 show wpAny_call^codeAny_call_builtin hp hb ?_;erw[checkBuiltinCall,hk];cases agx:Manifest.signature? id with
 | none=>show aL hc
 | some sig =>
  have h2:Bind.checkArgs id sig #[args,kw]=pure ():=by simpa only[argsOk,agx] using ha
  show(show wpAny _ A.in1 (Bind.checkArgs id sig #[args,kw]) _ _ s from ?_);rw[h2];show aL hc
def LC(a d:Value):argsOk "max" #[[a],[("default", d)]]:=by unfold argsOk;kernel_rfl
theorem LD{x d:Value}{Q:Value->Shared->Prop}
  (h:wpAny (model prog w) A.in1 (pyIter x) (λit s₂=>∃I fp wr n P St bt,it=.ref I/\Walks prog w A.in1 I fp wr n P St/\St 0 s₂.heap/\(∀b∈fp,b<s₂.heap.objs.size)/\CmpOf prog w A.in1 .Gt P bt /\
   ∀v h' tk,(if n=0 then v=d else P (argBest bt (n-1)) v)->(∀b o,b∉wr->s₂.heap.get? b=some o->h'.get? b=some o)->Q v { s₂ with heap:=h',toks:=tk }) E s):
  wpAny (model prog w) A (call (.builtin "max") [x] [("default", d)]) Q E s:=by
 show Jw F.kind_max F.plain_max F.entry_max (LC _ _) ?_;show(show wpAny _ A.in1 (Builtin.Builtins.bindParams "max" ["key", "default"] 0 #[[],[("default", d)]] >>= _) _ _ s from ?_);show au^wpAny_of_eq (show Builtin.Builtins.bindParams "max" ["key", "default"] 0 #[[],[("default", d)]]=pure [none,some d] by first|rfl|kernel_rfl) ?_;show au^aL^au (wpAny_mono h (λit s₂ h₂=>?_) λ_ _ e=>e);let#[I,fp,wr,n,P,St,bt,rfl,W,hst,hfp,hcmp,hQ]:=h₂;show au^wpAny_newObj_type ?_;have hSf:s₂.heap.objs.size∉fp:=λhm=>eV _^hfp _ hm;rw[nm];have ye:=W.frame 0 s₂.heap (s₂.heap.push { cls:=.type "list", data:=.seq ([]:List Value).toArray }) hst λb _ o e=>dY _ e;rcases lN n with e|hn
 .subst e;show aL #[plainId_quiet gE _,none_ W s₂.heap.objs.size hSf ye (iI _ rfl) λh' tk hk=>?_];show hQ d h' tk (by rw[if_pos rfl]) λb o Jv e=>hk b o Jv^dY _ e
 .show aL #[plainId_quiet gE _,first W bt hcmp s₂.heap.objs.size hSf hn ye (iI _ rfl) λv h' tk hP hk=>?_];show hQ v h' tk (by rw[if_neg ∅];show hP) λb o Jv e=>hk b o Jv (aN^aH e)^dY _ e
end MX
namespace L2
def Jx(K:az)(vs:List V)(y:V)(H:Hp)(Q:VK):Prop:=∃p xs d,vs=[.ref p]/\y=.int d/\bG K H p^xs.map V.int/\∀m:Int,(xs=[]->m=d)->(xs≠[]->m∈xs/\∀x∈xs,x<=m)->Q (.int m) H
def Vy(K:az)(t:TA)(tv:TE):TE:=λσ H Q=>t σ H λvs H1=>tv σ H1 λy H2=>Jx K vs y H2 Q
section
variable {v:Expr}{t:TA}
theorem SY{σ:St}{vs:List V}{d:Value}(hc:X.calm=true)(I:Inv X u5 σ H s)(r:Vals vs us)(ry:RelV y d)(h:Jx X.K vs y H Q):
  wpAny (model X.prog X.w) X.A (call (.builtin "max") us [("default", d)]) (λu s'=>∃x H',Inv X u5 σ H' s'/\RelV x u/\Q x H') E s:=by
 let#[p,xs,dd,rfl,rfl,hS,q]:=h;let#[u,rfl,ru]:=vals1 r;cases ru;let#[t0,rfl]:=ry;let#[its,rv,pl,hz]:=I.list hS;let#[ps,rfl,e]:=Ah rv;have hl:s.heap.IsList p^intItems ps.toArray:=by have:=pl.isList;rw[show(ps.map λp=>Value.int p.1 p.2).toArray=intItems ps.toArray by unfold intItems;simp] at this;show this
 have hsz:(intItems ps.toArray).size=ps.length:=by simp[intItems]
 have XW:xs.length=ps.length:=by rw[<- e,ao]
 show MX.LD (iter_intList hl λs₂ e2 st hfp hlI=>?_);subst e2;show#[_,_,_,_,_,_,_,rfl,Walks.list (A:=X.A.in1) (I.ok.hd hc) _ p hlI^intItems ps.toArray,st,hfp,CmpOf.ints_gt (numAt ps.toArray) (λ_ _=>intItems_at),λu h' tk hP hk=>?_];rw[hsz] at hP;have kept:=old_kept (s:=s) (l:=p) hk;by_cases h0:ps.length=0;rw[if_pos h0] at hP;have ex:xs=[]:=List.eq_nil_of_length_eq_zero ∅;subst hP;show#[.int dd,H,I.kept kept,#[t0,rfl],q dd (λ_=>rfl) λz=>absurd ex z]
 .rw[if_neg h0] at hP;let#[t1,rfl]:=intItems_at hP;let#[b1,b2]:=nQ (numAt ps.toArray) (ps.length-1);have at_:∀i,i<ps.length->xs[i]?=some^numAt ps.toArray i:=λi hi=>by rw[<- e];simp[numAt,fh hi]
  show#[.int _,H,I.kept kept,#[t1,rfl],q _ (λz=>?_) λ_=>#[gq (at_ _ ∅),λx hx=>?_]];rw[z] at XW;show absurd XW.symm h0
  .let#[i,hi]:=gG.mp hx;have hil:i<ps.length:=by rw[<- XW];show(e9 hi).1
   rw[at_ i hil] at hi;rw[<- Option.some.inj hi];show b2 i ∅
def S0(hc:X.calm=true)(hg:Gl X "max")(hm:X.mg "max" = none)(ha:PA X [e] t)(hv:PE X v tv)(he:backTo pos^starEach [e] X.env=(false,eval e X.env)::backTo pos^starEach [] X.env)(hpl:(backTo pos^starEach [e] X.env).any (·.1)=false)(hal:(backToKw pos^keywordEach [#[some "default", v,kp]] X.env).all (·.1.isSome)=true)(hkw:(backToKw pos^keywordEach [#[some "default", v,kp]] X.env).any (·.1.isNone)=false)(hfm:(backToKw pos^keywordEach [#[some "default", v,kp]] X.env).filterMap (·.1)=[("default" : Str)]):PE X (.Call (.Name "max" p) [e] [#[some "default", v,kp]] pos)^Vy X.K t tv:=by intro u5 s σ H Q I h;show wpAny_Call_Name_kw^iA I hg hm BT.Ol ?_;show callWith_kw (kws:=[#[some "default", v,kp]]) ?_ he hpl hal hkw;show c9 (ha pos u5 s σ H _ I h) λus s1 zq=>?_;let#[vs,H1,I1,r1,q1]:=zq;show kws_cons (c9 (hv u5 s1 σ H1 _ I1 q1) λd s2 zq=>?_);let#[y,H2,I2,ry,q2]:=zq;show kws_nil ?_;rw[hfm];show SY hc I2 r1 ry q2
end
section
variable {σ:St}{t:TA}
def aep(h:t σ H λvs H1=>tv σ H1 λy H2=>Jx K vs y H2 Q):Vy K t tv σ H Q:=h
def XX{p:Addr}{xs:List Int}{d:Int}(hS:bG K H p^xs.map V.int)(h:∀m:Int,(xs=[]->m=d)->(xs≠[]->m∈xs/\∀x∈xs,x<=m)->Q (.int m) H):Jx K [.ref p] (.int d) H Q:=#[p,xs,d,rfl,rfl,hS,h]
end
section
variable {κ:Type} [DecidableEq κ] {knd:HeapKind prog w κ}
end
end L2
namespace SN
end SN
namespace L2
section
variable {o:Expr}
end
section
variable {σ:St}
end
section
variable {mb:Str->Option Value}{CX:KH}{fa:Addr}{s₁:Shared}
def Start(h:Heap)(K:az)(H:Hp):Prop:=∀b u,H b=some u->K.lookup b=none/\((∃o xs,u=.CF o^.lst xs)\/(u=.sM #[]/\isCodeTable h b))
def Start.noDict(S:Start s₁.heap K H)(hok:nB P w H s₁.heap){o:Obj}{es:Array DictEntry}(e:s₁.heap.get? b=some o)(d:o.data=.dict es ep):H b=none:=by
 cases q:H b with
 | none=>rfl
 | some u =>
  have z:=hok b u q;rcases(S b u q).2 with⟨o',xs,rfl⟩|⟨rfl,_⟩
  .let#[_,_,its,n,_,z2]:=z;have z3:=e.symm.trans z2;rw[Option.some.inj z3] at d;cases d
  .have z3:=e.symm.trans (show s₁.heap.get? b=some _ from z);rw[Option.some.inj z3] at d;cases d
def Start.abr(S:Start s₁.heap K H)(hok:nB P w H s₁.heap){o:Obj}(e:s₁.heap.get? b=some o)(d:o.cls=.type "module"):H b=none:=by
 cases q:H b with
 | none=>rfl
 | some u =>
  have z:=hok b u q;rcases(S b u q).2 with⟨o',xs,rfl⟩|⟨rfl,_⟩
  .let#[_,_,its,n,_,z2]:=z;have z3:=e.symm.trans z2;rw[Option.some.inj z3] at d;have d:=Value.type.inj d;show absurd d (by decide)
  .have z3:=e.symm.trans (show s₁.heap.get? b=some _ from z);rw[Option.some.inj z3] at d;cases d
def BI{ts:List Addr}(bt:∀b∈ts,s₁.heap.BuiltinsAt mg b)(KX:K.In s₁.heap)(hns:s₁.heap.Ns mainGlobals mg)(hb:s₁.heap.Ns builtinsNs mb)(hbb:∀y:Str,y ≠ "__name__" -> mb y=bootBuiltins y)(hlim:s₁.heap.NoLimit)(hg:s₁.gens=#[])
  (S:Start s₁.heap K H)(hok:nB P w H s₁.heap)(hr:jd k callerA)(F:∀base:Heap,K.In base->base.Ns mainGlobals mg->(∀b∈ts,base.BuiltinsAt mg b)->cA P w K mg base CX k fa fd [x] sp)
  (hbind:∀(s:Shared)(u:Value),BindsTo s fd #[[u],[]] [(x,u)])(IA:sp [.ref a] H (λv _=>v=.bl true) λ_ _ _=>False)(hCX:∀e s',CX [] H s₁ (λ_ _ _=>False) e s'->False):
  codeAny (model P w) callerA (.call (.ref fa) #[[.ref a],[]]) (λr s'=>r=.ok^.ret^.bool true/\OldK s₁.heap s'.heap/\s'.os=s₁.os/\AllBare s'.gens) s₁:=by
 have ns:∀{b:Addr}{m:Str->Option Value},s₁.heap.Ns b m->(sX s₁.heap H).Ns b m:=λ⟨o,es,ep,e,d,r⟩=>#[o,es,ep,qN e^S.noDict hok e d,d,r];have kb:K.In^sX s₁.heap H:=λb o e=>by
  show qN (KX b o e) ?_;cases q:H b with
  | none=>rfl
  | some u=>show absurd ((S b u q).1.symm.trans e) (by simp)
 have bb:∀b∈ts,(sX s₁.heap H).BuiltinsAt mg b:=λb hb=>by let#[bm,o,h1,h2,h3,h4,h5,h6,h7]:=bt b hb;show#[bm,o,h1,h2,h3,h4,qN h5^S.abr hok h5 h6,h6,h7]
 let#[mc,l1,l2]:=hlim;have env:NC P w K mg (sX s₁.heap H) callerA [] s₁ H :=
  { frames:=rfl,mod:=#[kb,ns hns,#[mb,ns hb,hbb],mc,ns l1,l2],bs:=λb o e=>Im e,RL:=by rw[zV];show av _,vE:=trivial,Wt:=(λb z=>nomatch (show b∈([]:List Addr) from z)),hok:=hok,bare:=.of_eq hg }
 show codeAny_mono ((F _ kb (ns hns) bb).run callerA [] s₁ H #[[.ref a],[]] [.ref a] [.ref a] _ _ hr env (hbind s₁^.ref a) (.cons rfl .nil) IA) ?_;intro r s' h
 match r,h with
 | .error e,h=>show(hCX e s' h).elim
 | .ok .next,h=>show False.elim h
 | .ok .brk,h=>show False.elim h
 | .ok .cont,h=>show False.elim h
 | .ok (.ret u),⟨v,H',os,bare,un,R5,rv,q⟩ =>
  have q':v=.bl true:=q;subst q';have hu:u=Value.bool true:=rv;subst hu;show#[rfl,#[λb o e=>?_,λb o e=>un.there b o e (λz=>nomatch z)],os,bare];cases q:H b with
  | none=>show .inl^un.keep b o e q (λz=>nomatch z) (λz=>nomatch z)
  | some y =>
   have z:=hok b y q;rcases(S b y q).2 with⟨o',xs,rfl⟩|⟨rfl,ct⟩
   .have z2:=R5 b _^un.zA b o' _ q;have e1:o=o':=Option.some.inj^e.symm.trans z.1;subst e1;show .inl z2.1
   .let#[more,z1]:=un.A7 b _ q;have z2:s'.heap.get? b=some _:=R5 b _ z1;have e1:=Option.some.inj (e.symm.trans^show s₁.heap.get? b=some _ from z);subst e1;show .inr^.inl #[ct,rfl,#[],more,rfl,z2]
end
def LF{l:PySem.W.OpenLaw}{q:Program}{loose:List Str}{XP:(Str->Option Value)->Heap->Prop}{YP:World->Heap->Prop}{d:DefRec}{K:Params->az}{sp:az->Sp}{ts:List Addr}
  (hn:l.most=some n)(hn2:n<=sizeLine)(hdf:d.params.defaults=[])(hr:jd k callerA)
  (hY:∀(w:World)(h:Heap),YP w h->(K w.params).In h)(hT:∀(w:World)(h:Heap),YP w h->∀b∈ts,h.get? b=some^PySem.W.tabObj #[]/\isCodeTable h b)(hTK:∀w:World,∀b∈ts,(K w.params).lookup b=none)
  (F:∀(w:World)(mg:Str->Option Value)(fa:Addr)(h:Heap),(K w.params).In h->h.Ns mainGlobals mg->mg d.name=some (.ref fa) ->
   ∃fd:FuncData,(∀(s:Shared)(u:Value),BindsTo s fd #[[u],[]] [(x,u)])/\∀base:Heap,(K w.params).In base->base.Ns mainGlobals mg->(∀b∈ts,base.BuiltinsAt mg b)->cA l.prog w (K w.params) mg base ir k fa fd [x]^sp^K w.params)
  (IA:∀(K:az)(H:Hp)(a:Addr)(ns:List Int),ns.length<=n->bG K H a^ns.map V.int->(∀b∈ts,H b=some^.sM #[])->sp K [.ref a] H (λv _=>v=.bl true) λ_ _ _=>False):
  PySem.W.WalkO q loose XP YP l.row.toRowW d [] (λf vs=>PySem.call f vs):=by
 show Att.uK hn hdf λw s₀ s₁ mg mb fa o pm cd doc a vs ns G Y ho hd hcd hmg hobj hints hlen hg=>?_;have KX:=hY w _ Y;have TT:=hT w _ Y;let#[fd,hbd,hF]:=F w mg fa _ KX G.T.g hmg;have hl:ns.length<=sizeLine:=bg hlen hn2;have na:a∉ts:=λz=>by have e:=hobj.symm.trans (TT a z).1;have e2:=congrArg Obj.cls^Option.some.inj e;cases e2
 let H:Hp:=λb=>if b∈ts then some^.sM #[] else if b=a/\(K w.params).lookup a=none then some (.CF { cls:=.type "list", data:=.seq vs.toArray } (.lst^ns.map V.int)) else none
 have hHt:∀b∈ts,H b=some^.sM #[]:=λb hb=>if_pos hb;have hHa:(K w.params).lookup a=none->H a=some (.CF { cls:=.type "list", data:=.seq vs.toArray } (.lst^ns.map V.int)):=λz=>(if_neg na).trans^if_pos #[rfl,z];have cs:∀b u,H b=some u->(b∈ts/\u=.sM #[])\/(b=a/\(K w.params).lookup a=none/\u=.CF { cls:=.type "list", data:=.seq vs.toArray } (.lst^ns.map V.int)):=λb u e=>by by_cases h1:b∈ts;show .inl #[h1,Option.some.inj^e.symm.trans^hHt b h1];have e1:H b=_:=if_neg h1;by_cases h2:b=a/\(K w.params).lookup a=none;show .inr #[h2.1,h2.2,Option.some.inj^e.symm.trans^e1.trans^if_pos h2];have:=e.symm.trans^e1.trans^if_neg h2;cases this
 have bt:∀b∈ts,s₁.heap.BuiltinsAt mg b:=λb hb=>by let#[bm,ob,b1,b2,b3,b4,b5,b6]:=G.T.bmain;show#[bm,ob,b1,b2,λz=>?_,λz=>?_,b3,b4,b5,b6];let#[o,es,ep,e,d,_]:=G.T.g;rw[z,e] at b3;cases b3;rw[d] at b6;cases b6;rw[z,(TT b hb).1] at b3;cases b3;cases b4
 show BI (H:=H) bt KX G.T.g G.T.b G.T.builtins G.T.nolimit hg ?_ ?_ hr hF hbd (IA _ H a ns hlen ?_ hHt) λe s' z=>z
 .intro b u e;rcases cs b u e with⟨h1,rfl⟩|⟨rfl,h2,rfl⟩;show#[hTK w b h1,.inr #[rfl,(TT b h1).2]];show#[h2,.inl #[_,_,rfl]]
 .intro b u e;rcases cs b u e with⟨h1,rfl⟩|⟨rfl,h2,rfl⟩;show(TT b h1).1;show#[hobj,by rw[ao];show hl,vs,_,tL hints,hobj]
 .cases hk:(K w.params).lookup a with
  | none=>show .inl^.inr #[_,hHa hk]
  | some oa =>
   have e:=Option.some.inj^(KX a oa hk).symm.trans hobj;subst e;show .inr #[_,vs.toArray,_,hk,rfl,rfl,rfl,by rw[aZ,hints.length];show hl,by simpa using tL hints]
end L2
namespace MK
open PySem PySem.Spec PyProof.Rows PySem.W
noncomputable def sO(kf:Nat->Int):Nat->Nat
 | 0=>0
 | j+1=>if kf^sO kf j<kf (j+1) then j+1 else sO kf j
theorem Pn(kf:Nat->Int):∀j,sO kf j<=j/\∀i,i<=j->kf i<=kf^sO kf j/\(i<sO kf j->kf i<kf^sO kf j)
 | 0=>by
  show#[av _,λi hi=>?_];obtain rfl:i=0:=∅;show#[Int.le_refl _,λh=>absurd h^eV _]
 | j+1=>by let#[h1,h2]:=Pn kf j;erw[sO];split;rename_i h;show#[av _,λi hi=>?_];by_cases e:i=j+1;subst e;show#[Int.le_refl _,λh=>absurd h^eV _];have:=(h2 i ∅).1;show#[∅,λ_=>∅];rename_i h;show#[∅,λi hi=>?_];by_cases e:i=j+1;subst e;show#[∅,λz=>∅];show h2 i ∅
section
variable {S:Addr}{J:Shared->Prop}{kf:Nat->Int}
structure S1 (J:Shared->Prop) (I S l:Addr) (vs:List Value):Prop where
 lst:∀s,J s->s.heap.IsList l vs.toArray
 chg:∀(s:Shared)(h':Heap)(tk:Nat),J s->(∀b o,b≠I->b≠S->s.heap.get? b=some o->h'.get? b=some o)->J { s with heap:=h',toks:=tk }
 lI:l≠I
 SI:S≠I
def Turn(prog:Program)(w:World)(A:Around)(q:Addr)(J:Shared->Prop)(I S:Addr)(vs:List Value)(kf:Nat->Int):Prop :=
 ∀i v s oI oS,vs[i]?=some v->J s->s.heap.get? I=some oI->s.heap.get? S=some oS->(∀u,oI.data≠.cell u)->(∀u,oS.data≠.cell u) ->
  wpAny (model prog w) A (call (.ref q) [v]) (λx s'=>(∃t,x=.int (kf i) t)/\J s'/\s'.heap.get? I=some oI/\s'.heap.get? S=some oS) (λ_ _=>False) s
theorem loop(hh:A.handled=none)(D:S1 J I S l vs)(turn:Turn prog w A.in1 q J I S vs kf):
  ∀(k j:Nat)(s:Shared)(vb:Value)(tb:Tok)(c:Nat),vs.length-(j+1)=k->j+1<=vs.length->J s->s.heap.IsListIter I l (j+1)->vs[sO kf j]?=some vb ->
  s.heap.get? S=some { cls:=.type "list", dict:=none,data:=.seq #v[vb,.int (kf^sO kf j) tb] c,slots:=#[] } ->
  (∀v s',vs[sO kf (vs.length-1)]?=some v->J s'->R (.ok^.ret v) s') ->
  codeAny (model prog w) A (.builtin "max.loop" #[[.ref I,.ref q,.ref S],kw]) R s:=by
 have W:=Walks.list (prog:=prog) (w:=w) (A:=A.in1) hh I l D.lI vs.toArray;have hsz:vs.toArray.size=vs.length:=aZ ..;have SW:S∉[I]:=λz=>D.SI^ay.mp z;intro k;induction k with
 | zero =>
  intro j s vb tb c hk hj hJ hit Vx hS hR;have hin:j+1=vs.length:=∅;show codeAny_builtin qc ?_;rw[iu gE _];show(show wpAny _ A.in1 (seqItems? (.ref S) >>= _) _ _ s from au^wpAny_seqItems hS rfl ?_);show(show wpAny _ A.in1 (tryCatch (pyNext^.ref I) _ >>= _) _ _ s from au^wpAny_tryCatch (W.done s _ _ #[by rw[hsz,<- hin];show hit,D.lst s hJ] λh' tk hk'=>?_));have hS':=hk' S _ SW hS;show(show wpAny _ A.in1 (updateSeq S (λ_=>#[]) >>= _) _ _ _ from au^wpAny_updateSeq hS' rfl^au^wpAny_letGo^aL ?_);show hR vb _ (by rw[<- hin];show Vx)^D.chg s _ tk hJ (λb o h1 h2 e=>(fZ _ _^aQ h2).trans^hk' b o (λz=>h1^ay.mp z) e)
 | succ k ih =>
  intro j s vb tb c hk hj hJ hit Vx hS hR;have hlt:j+1<vs.length:=∅;show codeAny_builtin qc ?_;rw[iu gE _];show(show wpAny _ A.in1 (seqItems? (.ref S) >>= _) _ _ s from au^wpAny_seqItems hS rfl ?_);show(show wpAny _ A.in1 (tryCatch (pyNext^.ref I) _ >>= _) _ _ s from au^wpAny_tryCatch (W.item (j+1) s _ _ (by rw[hsz];show hlt) #[hit,D.lst s hJ] λv h' tk hP ye hk'=>?_));have hv:vs[j+1]?=some v:=by simpa using hP
  let#[oI,hoI,hoc,hod]:=id ye.1;have hS':=hk' S _ SW hS;have J1:=D.chg s h' tk hJ (λb o h1 _ e=>hk' b o (λz=>h1^ay.mp z) e);show(show wpAny _ A.in1 (tryCatch (holding [v]^call (.ref q) [v]) _ >>= _) _ _ _ from au^wpAny_tryCatch^wpAny_holding (wpAny_mono (turn (j+1) v _ oI _ hv J1 hoI hS' (λu z=>by rw[hod] at z;cases z) (λu z=>by cases z)) (λx s2 he=>?_) λ_ _ z=>z.elim));let#[#[t2,rfl],J2,hI2,Ru]:=he;have agA:s2.heap.IsListIter I l (j+1+1):=#[oI,hI2,hoc,hod];show(show wpAny _ A.in1 (tryCatch (holding [v,.int (kf (j+1)) t2] (richCompare .Gt (.int (kf (j+1)) t2) (.int (kf^sO kf j) tb) >>= _)) _ >>= _) _ _ _ from
   au^wpAny_tryCatch^wpAny_holding^au^CmpOf.ints_gt (prog:=prog) (w:=w) (A:=A.in1) (P:=λi v=>∃t,v=.int (kf i) t) kf (λi v h=>h) (j+1) (sO kf j) _ _ _ _ _ #[t2,rfl] #[tb,rfl] ?_)
  show au^wpAny_holding^wpAny_truthy_bool ?_;show au^wpAny_letGo^aL ?_;by_cases hb:kf (j+1)>kf^sO kf j
  .have eb:sO kf (j+1)=j+1:=by erw[sO];rw[if_pos hb]
   obtain⟨c2,hc2⟩:∃c2,(s2.heap.update S (Obj.mapSeq λ_=>#v[v,.int (kf (j+1)) t2])).get? S=some { cls:=.type "list", dict:=none,data:=.seq #v[v,.int (kf (j+1)) t2] c2,slots:=#[] }:=#[_,get?_update_seq Ru λ_=>#v[v,.int (kf (j+1)) t2]];have hI3:=(fZ s2.heap (Obj.mapSeq λ_=>#v[v,.int (kf (j+1)) t2]) D.SI).trans hI2;erw[hb,decide_true,if_true];show au^wpAny_updateSeq Ru rfl^au^wpAny_letGo ?_;rw[MX.nm];show aL #[plainId_quiet gE _,ih (j+1) _ v t2 c2 ∅ hlt ?_ #[oI,hI3,hoc,hod] (by rw[eb];show hv) (by rw[eb];show hc2) hR];show D.chg s2 _ s2.toks J2 (λb o _ h2 e=>(fZ _ _^aQ h2).trans e)
  .have eb:sO kf (j+1)=sO kf j:=by erw[sO];rw[if_neg hb]
   erw[hb,decide_false,cB,if_false];show au^wpAny_letGo ?_;rw[MX.nm];show aL #[plainId_quiet gE _,ih (j+1) _ vb tb c ∅ hlt J2 agA (by rw[eb];show Vx) (by rw[eb];show Ru) hR]
def first(hh:A.handled=none)(D:S1 J I S l vs)(turn:Turn prog w A.in1 q J I S vs kf)(hn:0<vs.length){c:Nat}(hJ:J s)(hit:s.heap.IsListIter I l 0)
  (hS:s.heap.get? S=some { cls:=.type "list", dict:=none,data:=.seq #[] c,slots:=#[] })(hR:∀v s',vs[sO kf (vs.length-1)]?=some v->J s'->R (.ok^.ret v) s'):
  codeAny (model prog w) A (.builtin "max.loop" #[[.ref I,.ref q,.ref S],kw]) R s:=by
 have W:=Walks.list (prog:=prog) (w:=w) (A:=A.in1) hh I l D.lI vs.toArray;have hsz:vs.toArray.size=vs.length:=aZ ..;have SW:S∉[I]:=λz=>D.SI^ay.mp z;show codeAny_builtin qc ?_;rw[iu gE _];show(show wpAny _ A.in1 (seqItems? (.ref S) >>= _) _ _ s from au^wpAny_seqItems hS rfl ?_);show(show wpAny _ A.in1 (tryCatch (pyNext^.ref I) _ >>= _) _ _ s from au^wpAny_tryCatch (W.item 0 s _ _ (by rw[hsz];show hn) #[hit,D.lst s hJ] λv h' tk hP ye hk'=>?_));have hv:vs[0]?=some v:=by simpa using hP
 let#[oI,hoI,hoc,hod]:=id ye.1;have hS':=hk' S _ SW hS;have J1:=D.chg s h' tk hJ (λb o h1 _ e=>hk' b o (λz=>h1^ay.mp z) e);show(show wpAny _ A.in1 (tryCatch (holding [v]^call (.ref q) [v]) _ >>= _) _ _ _ from au^wpAny_tryCatch^wpAny_holding (wpAny_mono (turn 0 v _ oI _ hv J1 hoI hS' (λu z=>by rw[hod] at z;cases z) (λu z=>by cases z)) (λx s2 he=>?_) λ_ _ z=>z.elim));let#[#[t2,rfl],J2,hI2,Ru]:=he;obtain⟨c2,hc2⟩:∃c2,(s2.heap.update S (Obj.mapSeq λ_=>#v[v,.int (kf 0) t2])).get? S=some { cls:=.type "list", dict:=none,data:=.seq #v[v,.int (kf 0) t2] c2,slots:=#[] }:=#[_,get?_update_seq Ru λ_=>#v[v,.int (kf 0) t2]];have hI3:=(fZ s2.heap (Obj.mapSeq λ_=>#v[v,.int (kf 0) t2]) D.SI).trans hI2;show(show wpAny _ A.in1 (updateSeq S (λ_=>#v[v,.int (kf 0) t2]) >>= _) _ _ _ from au^wpAny_updateSeq Ru rfl ?_);rw[MX.nm];show aL #[plainId_quiet gE _,loop hh D turn _ 0 _ v t2 c2 rfl hn (D.chg s2 _ s2.toks J2 (λb o _ h2 e=>(fZ _ _^aQ h2).trans e)) #[oI,hI3,hoc,hod] hv hc2 hR]
def LG{Q:Value->Shared->Prop}(hh:A.handled=none)(hls:s.heap.IsList l vs.toArray)(hn:0<vs.length)
  (D:S1 J s.heap.objs.size (s.heap.objs.size+1) l vs)(turn:Turn prog w A.in1 q J s.heap.objs.size (s.heap.objs.size+1) vs kf)
  (hJ:∀h',(∀b o,s.heap.get? b=some o->h'.get? b=some o)->J { s with heap:=h' })(hQ:∀v s',vs[sO kf (vs.length-1)]?=some v->J s'->Q v s'):
  wpAny (model prog w) A (call (.builtin "max") [.ref l] [("key", .ref q)]) Q E s:=by show MX.Jw F.kind_max F.plain_max F.entry_max (kmk_max_key _ _) ?_;show(show wpAny _ A.in1 (Builtin.Builtins.bindParams "max" ["key", "default"] 0 #[[],[("key", .ref q)]] >>= _) _ _ s from ?_);show au^wpAny_of_eq (show Builtin.Builtins.bindParams "max" ["key", "default"] 0 #[[],[("key", .ref q)]]=pure [some^.ref q,none] by first|rfl|kernel_rfl) ?_;show au^aL^au^wpAny_pyIter_list hls ?_;show au^wpAny_newList ?_^aM _;rw[MX.nm];have e1:(s.heap.push { cls:=.type "list_iterator", data:=.fields #v[.ref l,.int 0 0] }).objs.size=s.heap.objs.size+1:=fk ..;rw[e1];show aL #[plainId_quiet gE _,first hh D turn hn (hJ _ λb o e=>dY _^dY _ e) #[_,dY _^iI _ rfl,rfl,rfl] (c:=0) ?_ λv s' hv j=>hQ v s' hv j];have:=iI (o:=seqObj "list" #[] 0) (s.heap.push { cls:=.type "list_iterator", data:=.fields #v[.ref l,.int 0 0] }) rfl;rw[e1] at this;show this
end
end MK
namespace L2
variable {p:Addr}{o:Obj}{y:Str}{params:Arguments}{body:Expr}
section
variable {σ:St}
def Inv.change{tk:Nat}(J:Inv X u5 σ H s)(f1:ig X u5 H a)(f2:ig X u5 H b)(k:∀c o,c≠a->c≠b->s.heap.get? c=some o->h'.get? c=some o):
  Inv X u5 σ H { s with heap:=h',toks:=tk }:=by
 have fp:∀c∈[a,b],ig X u5 H c:=λc hc=>by rcases aG.mp hc with e|hc;rw[e];show f1;rw[ay.mp hc];show f2
 have kp:∀c o,c∉[a,b]->s.heap.get? c=some o->h'.get? c=some o:=λc o hc e=>k c o (λz=>hc^by simp[z]) (λz=>hc^by simp[z]) e;have tr:∀c u,H c=some u->c∉[a,b]:=λc u e hc=>by rw[(fp c hc).1] at e;cases e
 have hok:nB X.prog X.w H h':=λc u e=>(J.hok c u e).stay (λd v hd q=>kp d v (by
  rcases hd with rfl|hd;show tr _ _ e
  .show tr _ _ hd) q) (λ_ q=>q) λ_ _ q=>q
 show J.step (H':=H) (h':=h') (g':=s.gens) (t':=tk) (d':=s.drawn) (ch:=[a,b]) (λc hc=>?_) (λc o _ _ hc e _=>kp c o hc e) (λc o _ _ hc e _=>#[o.slots,kp c o hc e]) (λc o _ e n=>n)
  (λc o hc e=>#[o,kp c o hc e]) (λ_ _ e=>e) (λ_ _ _ e=>e) (λ_ ps e=>#[#[],by rw[e];simp]) (λm hm=>?_) hok J.bare
 .let#[_,g2,g3,g4,g5,g6]:=fp c hc;show#[g4,g2,g5,g6]
 .let#[o,es,ep,e,r]:=hm;show#[o,es,ep,kp _ _ (λz=>(fp _ z).2.1 rfl) e,r]
def Inv.abt(J:Inv X u5 σ H s)(f:ig X u5 H b)(e:s.heap.get? b=some o)(nc:∀u,o.data≠.cell u):Inv X ((b,o)::u5) σ H s :=
 #[J.ok,J.os,J.bare,J.base,J.loc,J.cell,J.free,J.ko,λp hp=>by
   rcases aJ.mp hp with h|h;show J.pin p^iw _ h
   .rcases aG.mp h with rfl|h;show#[e,f.1,f.2.1,f.2.2.1,nc]
    .show J.pin p^dZ _ h,J.hok,J.len]
def Inv.GY{p:Addr×Obj}(J:Inv X (p::u5) σ H s):Inv X u5 σ H s :=
 #[J.ok,J.os,J.bare,J.base,J.loc,J.cell,J.free,J.ko,λq hq=>J.pin q (by
   rcases aJ.mp hq with h|h;show iw _ h
   .show dZ _^cM _ h),J.hok,J.len]
def Inv.Jy{p:Addr×Obj}(J:Inv X (p::u5) σ H s):s.heap.get? p.1=some p.2:=(J.pin p^dZ _^.head _).1
def Po(f1:ig X u5 H a)(f2:ig X u5 H b)(hl:∀s,Inv X u5 σ H s->s.heap.IsList l vs.toArray)(h1:l≠a)(h2:b≠a):MK.S1 (Inv X u5 σ H) a b l vs :=
 #[hl,λs h' tk J k=>J.change f1 f2 k,h1,h2]
def Pp{l:Addr}{kf:Nat->Int}(f1:ig X u5 H a)(f2:ig X u5 H b)(h2:b≠a)
  (h:∀i v s u5,vs[i]?=some v->Inv X u5 σ H s->wpAny (model X.prog X.w) A (call (.ref q) [v]) (λx s'=>(∃t,x=.int (kf i) t)/\Inv X u5 σ H s') (λ_ _=>False) s):
  MK.Turn X.prog X.w A q (Inv X u5 σ H) a b vs kf:=by
 intro i v s oI oS hv J e1 e2 n1 n2;have J1:=J.abt f1 e1 n1;have f2':ig X ((a,oI)::u5) H b:=#[f2.1,f2.2.1,f2.2.2.1,f2.2.2.2.1,f2.2.2.2.2.1,λp hp=>by
  rcases aJ.mp hp with z|z;show f2.2.2.2.2.2 p^iw _ z
  .rcases aG.mp z with rfl|z;show aQ h2
   .show f2.2.2.2.2.2 p^dZ _ z]
 have J2:=J1.abt f2' e2 n2;show wpAny_mono (h i v s _ hv J2) (λx s' hx=>#[hx.1,hx.2.GY.GY,hx.2.GY.Jy,hx.2.Jy]) λ_ _ z=>z
end
open PySem.W
noncomputable def Zn(X:Cx)(N:List Str)(env:Env)(s:Shared)(H:Hp):Cx where
 prog:=X.prog
 w:=X.w
 K:=X.K
 mg:=X.mg
 base:=X.base
 A:=X.A.in1.deeper env
 N:=N
 s₀:=s
 H₀:=H
 env:=env
 outer:=X.stack
 stack:=env::X.stack
 ex:=[]
 fn:=λ_=>false
 calm:=true
 pn:=[]
 xe:=λe s'=>wpAny (model X.prog X.w) (X.A.in1.deeper env) (leaving env e) (λ_ _=>False) (λ_ _=>False) s'
structure yf (X:Cx) (scope:Scope) (cl:List (Str×Addr)) (y:Str) (fr:List Str) (ix:List Nat):Prop where
 calm:X.calm=true
 cell:∀z∈scope.names,z.2≠.cell
 kind:scope.kind=.function
 co:scope.isCoroutine=false
 gen:scope.isGenerator=false
 loc:scope.names.lookup y=some .local
 NX:∀z c,cl.lookup z=some c->X.env.cells.lookup z=some c
 R6:∀z,(scope.names.lookup z=some .cell\/scope.names.lookup z=some .free)->∃c,cl.lookup z=some c
 fx:∀(j:Nat) z,fr[j]?=some z->∃i:Nat,ix[j]?=some i/\X.N[i]?=some z/\(X.env.kindOf z=some .cell\/X.env.kindOf z=some .free)/\scope.names.lookup z=some .free
 len:fr.length=ix.length
section
variable {σ:St}
def Pq{ctv:Value}{c':Addr}
  (O:yf X scope cl y fr ix)(hr:X.A.in1.depth<recursionLimit)(hbind:∀z:Value,bindArgs (kla_fn name qual params body scope cl pm (.ref c') ctv) #[[z],[]]=pure [(y,z)])
  (he:∀L s H,PE (Zn X (y::fr) (envX qual scope L q (.ref c') cl) s H) body te)(I:Inv X u5 σ H s)
  (hq:s.heap.get? q=some^kla_obj name qual params body scope cl pm c' ctv)(hc:s.heap.CodeRec (.ref c') qual)(r:RelV v u)(h:te (some v::cut ix σ) H Q):
  wpAny (model X.prog X.w) X.A.in1 (call (.ref q) [u]) (EP X u5 σ Q) (λ_ _=>False) s:=by
 show wpAny_call^kla_callFunE hr hq rfl O.co O.gen rfl hc ?_;show wpAny_of_eq (hbind u) ?_;show wpAny_newFunctionEnv O.cell (λz hz=>?_) (λh₁ hns Nb=>?_) O.kind;rw[ay.mp hz];show O.loc;have old:∀b o,s.heap.get? b=some o->h₁.get? b=some o:=λb o e=>Nb.extBut b o (aN^aH e)^dY _ e;have NY:∀b∈frs X.stack,b∈X.env.locals::X.fs:=I.A8;have ok:(Zn X (y::fr) (envX qual scope s.heap.objs.size q (.ref c') cl) s H).Ok:=by
  show#[I.ok.mod,O.kind,rfl,rfl,av _,λa b c h1 h2=>I.ok.inj a b c (O.NX a c h1)^O.NX b c h2,λa ha=>O.R6 a ha,λa c z _=>absurd z lG,λ_=>I.ok.hd O.calm,Around.frames_deeper I.ok.frames,.inr #[rfl,rfl],
   (λb z=>nomatch z),I.bs,bg I.ok.RL I.sz,(λb o _ z=>nomatch z),(λb z=>nomatch z),I.stack,I.A9]
 have J:Inv (Zn X (y::fr) (envX qual scope s.heap.objs.size q (.ref c') cl) s H) [] (some v::cut ix σ) H { s with heap:=h₁,toks:=s.toks+[(y,u)].length }:=by
  show#[ok,rfl,I.bare,Un.kept old,#[_,hns,λi z x h1 h2 h3=>?_],λz c e=>?_,I.hok.fresh^av _,λz c e=>I.ko z c^O.NX z c e,(λp hp=>nomatch hp),I.hok.kept old,?_]
  .cases i with
   | zero =>
    have h1:some y=some z:=h1;have h2:some^some v=some^some x:=h2;obtain rfl:=Option.some.inj h1;obtain rfl:=Option.some.inj^Option.some.inj h2;show#[u,r,.inl #[O.loc,?_]];simp[List.lookup]
   | succ j =>
    have h1:fr[j]?=some z:=h1;have h2:(cut ix σ)[j]?=some^some x:=h2;let#[i,e1,e2,k,kc]:=O.fx j z h1;let#[c,e3]:=O.R6 z^.inr kc;have e4:σ[i]?=some^some x:=by
     unfold cut at h2;rw[aV,e1] at h2;have h2:some ((σ[i]?).join)=some^some x:=h2;have h2:=Option.some.inj h2;cases w:σ[i]? with
     | none=>rw[w] at h2;cases h2
     | some t=>rw[w] at h2;show congrArg some h2
    let#[m,_,hl]:=I.loc;let#[u',r',l]:=hl i z x e2 e4 (k.elim (λt=>.inr^.inl t) λt=>.inr^.inr t);show#[u',r',.inr #[.inr kc,c,e3,?_]];rcases l with⟨l1,_⟩|⟨_,c2,l2,l3⟩;rcases k with k|k<;>(rw[k] at l1;cases l1);have e5:=O.NX z c e3;rw[l2] at e5;cases e5;let#[o,ho,hd]:=l3;show#[o,old _ _ ho,hd]
  .let#[x,o,ho,hd]:=I.cell z c^O.NX z c e;show#[x,o,old _ _ ho,hd]
  .change(some v::cut ix σ).length=(y::fr).length;unfold cut;simp[O.len]
 show#[?_,kla_codeExpr (wpAny_mono (he _ s H [] _ _ H Q J h) (λx s' hx=>?_) λe s' hx=>hx)];let#[mc,#[o,es,ep,e,z],l2]:=I.ok.mod.nolimit;show#[mc,#[o,es,ep,old _ _ (I.bs _ _ e).1,z],l2];let#[v2,H2,J2,r2,q2]:=hx;show#[v2,H2,I.UM (ch:=[]) J2.os J2.base J2.hok J2.bare (λb z=>nomatch z),r2,q2]
end
def mY(c:Addr)(qual:Str):HO:=.ext λh=>h.CodeRec (.ref c) qual
noncomputable def uf(q:Addr)(o:Obj):HO:=.ext λh=>h.get? q=some o
section
variable {σ:St}
def Pr{G:Hp}{c:Addr}(x:h.CodeRec (.ref c) qual):dj P w G h c^mY c qual:=by show#[x,?_,λh1 h2 y k=>?_];let#[c2,oc,vs,t,e,hoc,_]:=x;cases e;show#[oc,hoc];let#[c2,oc,vs,t,e,hoc,hr]:=y;cases e;show#[c,oc,vs,t,rfl,k _ hoc,hr]
def Jz{G:Hp}(x:h.get? q=some o):dj P w G h q^uf q o:=#[x,#[o,x],λ_ _ y k=>k _ y]
def Inv.grow{c:Addr}{ps more:Array Value}{tk:Nat}(I:Inv X u5 σ H s)(hP:H p=some^.sM ps)(x:Heap.ExtBut p s.heap h')(hge:s.heap.objs.size<=c)(hlt:c<h'.objs.size)
  (hrec:h'.CodeRec (.ref c) qual)(htb:h'.get? p=some^tabObj (ps++more))(hf:o.isFreed=false):
  Inv X u5 σ (upd (upd (upd H p^.sM (ps++more)) c^mY c qual) h'.objs.size^uf h'.objs.size o) { s with heap:=h'.push o,toks:=tk }:=by
 have tr:∀b u,H b=some u->b<s.heap.objs.size:=λb u e=>I.hok.lt e;have ne1:∀b,b<s.heap.objs.size->b≠c/\b≠h'.objs.size:=λb hb=>#[aN^cC hb hge,aN^Nat.lt_trans (cC hb hge) hlt];have at_:∀b,b<s.heap.objs.size->b≠p->upd (upd (upd H p^.sM (ps++more)) c^mY c qual) h'.objs.size (uf h'.objs.size o) b=H b:=λb hb hn=>by rw[bI (ne1 b hb).2,bI (ne1 b hb).1,bI hn]
 have atp:upd (upd (upd H p^.sM (ps++more)) c^mY c qual) h'.objs.size (uf h'.objs.size o) p=some^.sM (ps++more):=by rw[bI (ne1 p^tr p _ hP).2,bI (ne1 p^tr p _ hP).1,fm]
 have nep:∀b,H b=none->b≠p:=λb n z=>by rw[z,hP] at n;cases n
 have kp:∀b ob,b≠p->s.heap.get? b=some ob->(h'.push o).get? b=some ob:=λb ob hn e=>dY _^x b ob hn e;have hok:nB X.prog X.w (upd (upd (upd H p^.sM (ps++more)) c^mY c qual) h'.objs.size^uf h'.objs.size o)^h'.push o:=λb u e=>by by_cases h1:b=h'.objs.size;subst h1;rw[fm] at e;cases e;show Jz^iI _ hf;rw[bI h1] at e;by_cases h2:b=c;subst h2;rw[fm] at e;cases e;let#[c2,oc,vs,t,e2,hoc,hr]:=hrec;cases e2;show Pr #[b,oc,vs,t,rfl,dY _ hoc,hr];rw[bI h2] at e;by_cases h3:b=p;subst h3;rw[fm] at e;cases e;show dY _ htb;rw[bI h3] at e;show(I.hok b u e).stay (λd v hd q=>kp d v ?_ q) (λd q=>?_) λd xs q=>?_;rcases hd with rfl|hd;show h3;rintro rfl;rw[hP] at hd;cases hd;rw[at_ d (tr d _ q) (by rintro rfl;rw[hP] at q;cases q)];show q;rw[at_ d (tr d _ q) (by rintro rfl;rw[hP] at q;cases q)];show q
 show I.step (h':=h'.push o) (g':=s.gens) (t':=tk) (d':=s.drawn) (ch:=[]) (λb z=>nomatch z) (λb ob _ _ _ e n=>kp b ob (nep b n) e) (λb ob _ _ _ e n=>#[ob.slots,kp b ob (nep b n) e]) (λb ob _ e n=>?_) (λb ob _ e=>?_)
  (λb xs e=>?_) (λb ob u e=>?_) (λb qs e=>?_) (λm hm=>?_) hok I.bare
 .rw[at_ b (aH e)^nep b n];show n
 .by_cases hb:b=p;subst hb;show#[_,dY _ htb];show#[ob,kp b ob hb e]
 .rw[at_ b (tr b _ e) (by rintro rfl;rw[hP] at e;cases e)];show e
 .rw[at_ b (tr b _ e) (by rintro rfl;rw[hP] at e;cases e)];show e
 .by_cases hb:b=p;subst hb;rw[hP] at e;cases e;show#[more,atp];show#[#[],by rw[at_ b (tr b _ e) hb,e];simp]
 .let#[ob,es,ep,e,r]:=hm;show#[ob,es,ep,kp _ _ (nep _ I.free) e,r]
def XY(p:Addr)(qual:Str)(pos:Pos)(mk:Addr->Value->Obj):TE:=λ_ H Q =>
 (H p=some^.sM #[]/\∀c q ctv,H c=none->H q=none->c≠q->Q (.ref q)^upd (upd (upd H p (.sM #v[rawInt pos.line,rawInt pos.col,.ref c])) c^mY c qual) q^uf q^mk c ctv) \/
 (∃c,H p=some (.sM #v[rawInt pos.line,rawInt pos.col,.ref c])/\∀q ctv,H q=none->Q (.ref q)^upd H q^uf q^mk c ctv)
def XZ{cc:Addr}{clos:List (Str×Addr)}(hcd:X.env.code=.ref cc)(ch:codeHdIn X.K cc p=true)(Vz:X.base.BuiltinsAt X.mg p)
  (hcl:closureFor scope X.env=pure clos)(hdef:defaultsOf params X.env=([],[])):
  PE X (.Lambda params body scope pos) (XY p (X.env.qual ++ "<lambda>") pos λc ctv=>kla_obj "<lambda>" (X.env.qual ++ "<lambda>") params body scope clos ((X.mg "__name__").getD .none) c ctv):=by
 intro u5 s σ H Q I h;have bk:∀b o,X.base.get? b=some o->s.heap.get? b=some o:=λb o e=>(I.bs b o e).1;have hg:s.heap.Ns mainGlobals X.mg:=by let#[o,es,ep,e,z]:=I.ok.mod.glob;show#[o,es,ep,bk _ _ e,z]
 have C:CodeHd X.base cc p:=codeHd_of_K I.ok.mod.Zf ch;have hb:s.heap.BuiltinsAt X.mg p:=by let#[bm,o,h1,h2,h3,h4,h5,h6]:=Vz;show#[bm,o,h1,h2,h3,h4,bk _ _ h5,h6]
 show kla_eval hdef ?_;rcases h with⟨hP,q⟩|⟨c,hP,q⟩
 .have hp:s.heap.get? p=some^tabObj #[]:=I.hok p _ hP;have ng:mainGlobals≠p:=λz=>by let#[o,es,ep,e,d,_]:=hg;rw[z,hp] at e;cases e;cases d
  show kla_makeFunction hcl I.ok.glob hg hcd (C.keeps bk) hp trivial rfl ng hb λc' ctv h' tk hx hge hlt hrec htb=>?_;have I2:=I.grow (more:=#v[rawInt pos.line,rawInt pos.col,.ref c']) (tk:=tk) (o:=kla_obj "<lambda>" (X.env.qual ++ "<lambda>") params body scope clos ((X.mg "__name__").getD .none) c' ctv) hP hx hge hlt hrec htb rfl;show#[.ref h'.objs.size,_,I2,rfl,q c' h'.objs.size ctv (I.hok.fresh hge) (I.hok.fresh^iZ^j9 hge hlt)^aN hlt]
 .have hp:s.heap.get? p=some (tabObj #v[rawInt pos.line,rawInt pos.col,.ref c]):=I.hok p _ hP;show kla_makeFunctionHit hcl I.ok.glob hg hcd (C.keeps bk) hp (by simp[TriplesOk,rawInt]) (cv:=.ref c) (by simp[codeAmong,rawInt]) hb λctv h' tk hk hsz=>?_;show#[.ref h'.objs.size,_,I.laid (o:=uf h'.objs.size^kla_obj "<lambda>" (X.env.qual ++ "<lambda>") params body scope clos ((X.mg "__name__").getD .none) c ctv) (λb u e=>dY _^hk b u e) hsz^Jz^iI _ rfl,rfl,q h'.objs.size ctv^I.hok.fresh hsz]
end
theorem DJ:∀{as:List Addr}{us:List Value},Vals (as.map V.ref) us->us=as.map Value.ref
 | [],_,.nil=>rfl
 | a::as,_,.cons r t=>by have r:_=Value.ref a:=r;rw[r,DJ t];rfl
def Pu(K:az)(qual:Str)(mk:Addr->Value->Obj)(te:TE)(ix:List Nat)(σ:St)(vs:List V)(y:V)(H:Hp)(Q:VK):Prop :=
 ∃(l:Addr)(as:List Addr)(q c:Addr)(ctv:Value)(kf:Nat->Int),vs=[.ref l]/\y=.ref q/\bG K H l^as.map V.ref/\H q=some^uf q^mk c ctv/\H c=some^mY c qual/\0<as.length /\
  (∀i a,as[i]?=some a->te (some^.ref a::cut ix σ) H λr H'=>r=.int^kf i/\H'=H)/\∀a,as[MK.sO kf (as.length-1)]?=some a->Q (.ref a) H
def Pw(K:az)(qual:Str)(mk:Addr->Value->Obj)(te:TE)(ix:List Nat)(t:TA)(tl:TE):TE:=λσ H Q=>t σ H λvs H1=>tl σ H1 λy H2=>Pu K qual mk te ix σ vs y H2 Q
section
variable {lam:Expr}{p:Pos}{t:TA}{σ:St}
def S2{vs:List V}{z:V}{d:Value}
  (O:yf X scope cl y fr ix)(hr:X.A.in1.depth<recursionLimit)(hbind:∀(c':Addr)(ctv z:Value),bindArgs (kla_fn name qual params body scope cl pm (.ref c') ctv) #[[z],[]]=pure [(y,z)])
  (he:∀q c' L s H,PE (Zn X (y::fr) (envX qual scope L q (.ref c') cl) s H) body te)(I:Inv X u5 σ H s)(r:Vals vs us)(rz:RelV z d)
  (h:Pu X.K qual (λc ctv=>kla_obj name qual params body scope cl pm c ctv) te ix σ vs z H Q):
  wpAny (model X.prog X.w) X.A (call (.builtin "max") us [("key", d)]) (λu s'=>∃x H',Inv X u5 σ H' s'/\RelV x u/\Q x H') E s:=by
 let#[l,as,q,c,ctv,kf,rfl,rfl,hS,hq,hc,hn,hk,hQ]:=h;let#[u,rfl,ru]:=vals1 r;cases ru;have rz:d=Value.ref q:=rz;subst rz;have hl:∀u5 s,Inv X u5 σ H s->s.heap.IsList l (as.map Value.ref).toArray:=λu5 s J=>by let#[its,rv,pl,_]:=J.list hS;rw[DJ rv] at pl;show pl.isList
 have hls:=hl u5 s I;have hlt:l<s.heap.objs.size:=by let#[o,ho,_]:=id hls;show aH ho
 have f1:ig X u5 H s.heap.objs.size:=I.qk (av _)^I.hok.fresh^av _;have f2:ig X u5 H (s.heap.objs.size+1):=I.qk (fN _)^I.hok.fresh^fN _;have n2:s.heap.objs.size+1≠s.heap.objs.size:=Nat.succ_ne_self _;have at_:∀i v,(as.map Value.ref)[i]?=some v->∃a,as[i]?=some a/\v=Value.ref a:=λi(v:Value) hv=>by rw[aV] at hv;let#[a,ha,rfl]:=cG.mp hv;show#[a,ha,rfl]
 show MK.LG (J:=Inv X u5 σ H) (kf:=kf) (I.ok.hd O.calm) hls (by rw[ao];show hn) (Po f1 f2 (hl u5) (aN hlt) n2) (Pp (l:=l) f1 f2 n2 λi v s' Nl hv J=>?_) (λh' kp=>I.kept kp) λv s' hv J=>?_;let#[a,ha,rfl]:=at_ i v hv;show wpAny_mono (Pq (Q:=λr H'=>r=.int^kf i/\H'=H) O hr (hbind c ctv) (λL s H=>he q c L s H) J (J.hok q _ hq).1 (J.hok c _ hc).1 (show RelV (.ref a)^.ref a from rfl)^hk i a ha) (λx s2 hx=>?_) λ_ _ f=>f;let#[v2,H2,J2,r2,rfl,rfl]:=hx;show#[r2,J2];let#[a,ha,rfl]:=at_ _ v hv;rw[ao] at ha;show#[.ref a,H,J,rfl,hQ a ha]
def S3(O:yf X scope cl y fr ix)(hr:X.A.in1.depth<recursionLimit)
  (hbind:∀(c':Addr)(ctv z:Value),bindArgs (kla_fn name qual params body scope cl pm (.ref c') ctv) #[[z],[]]=pure [(y,z)])(he:∀q c' L s H,PE (Zn X (y::fr) (envX qual scope L q (.ref c') cl) s H) body te)
  (hg:Gl X "max")(hm:X.mg "max" = none)(ha:PA X [e] t)(hv:PE X lam tl)(hb:backTo pos^starEach [e] X.env=(false,eval e X.env)::backTo pos^starEach [] X.env:=by rfl)
  (hpl:(backTo pos^starEach [e] X.env).any (·.1)=false:=by rfl)(hal:(backToKw pos^keywordEach [#[some "key", lam,kp]] X.env).all (·.1.isSome)=true:=by rfl)(hkw:(backToKw pos^keywordEach [#[some "key", lam,kp]] X.env).any (·.1.isNone)=false:=by rfl)
  (hfm:(backToKw pos^keywordEach [#[some "key", lam,kp]] X.env).filterMap (·.1)=[("key" : Str)]:=by rfl):
  PE X (.Call (.Name "max" p) [e] [#[some "key", lam,kp]] pos)^Pw X.K qual (λc ctv=>kla_obj name qual params body scope cl pm c ctv) te ix t tl:=by intro u5 s σ H Q I h;show wpAny_Call_Name_kw^iA I hg hm BT.Ol ?_;show callWith_kw (kws:=[#[some "key", lam,kp]]) ?_ hb hpl hal hkw;show c9 (ha pos u5 s σ H _ I h) λus s1 zq=>?_;let#[vs,H1,I1,r1,q1]:=zq;show kws_cons (c9 (hv u5 s1 σ H1 _ I1 q1) λd s2 zq=>?_);let#[z,H2,I2,rz,q2]:=zq;show kws_nil ?_;rw[hfm];show S2 O hr hbind he I2 r1 rz q2
end
theorem yf.caps{nm:List Str}(calm:X.calm=true)(cell:∀y∈scope.names,y.2≠.cell)(kind:scope.kind=.function)(co:scope.isCoroutine=false)(gen:scope.isGenerator=false)
  (loc:scope.names.lookup x=some .local)(hcl:zE (λp=>X.env.cells.lookup p.1=some p.2) cl)(hnm:cl.map (·.1)=nm)(hfree:∀z∈scope.names,z.2=.free->z.1∈nm)(hlen:fr.length=ix.length)
  (hfx:zE (λp=>X.N[p.2]?=some p.1/\X.env.kindOf p.1=some .cell/\scope.names.lookup p.1=some .free)^fr.zip ix):yf X scope cl x fr ix:=by
 show#[calm,cell,kind,co,gen,loc,λy c h=>hcl.mem (y,c)^iy h,λy h=>?_,λj z hz=>?_,hlen]
 .have hy:(y,NameKind.free)∈scope.names:=by rcases h with h|h;show absurd rfl^cell _^iy h;show iy h
  have hm:=hfree _ hy rfl;rw[<- hnm] at hm;let#[p,hp,e]:=aE.mp hm;cases q:cl.lookup y with
  | some c=>show#[c,rfl]
  | none =>
   have z:=List.lookup_eq_none_iff.mp q p hp;have e:p.1=y:=e;rw[e] at z;simp at z
 .have hj:j<fr.length:=(e9 hz).1;have hi:ix[j]?=some (ix[j]'∅):=fh ∅;have hm:(z,ix[j]'∅)∈fr.zip ix:=by show gG.mpr #[j,?_];rw[qe];show#[hz,hi]
  let#[h1,h2,h3]:=hfx.mem _ hm;show#[_,hi,h1,.inl h2,h3]
def U8.okC{N ps:List Str}(F:U8 K x qual st f fd)(S:aK N ps^aC st)(len:∀vs H Q E,sp vs H Q E->vs.length=ps.length)
  (hbody:∀(A:Around)(outer:List Env)(s:Shared)(H:Hp)(vs:List V)(Q:VK)(E:XK),jd k^A.deeper^envOfC qual (aC st) s.heap.objs.size f fd.code->sp vs H Q E ->
   ∃t,CG (CS ir P w K mg base N qual (aC st) f fd.code A outer s H E).Wx (jA st) t/\t { nx:=λ_ H'=>Q .eW H',rt:=Q } (start N vs) H):cA P w K mg base ir (k+1) f fd ps sp:=by let#[oc,od,kV,doc,pm,an,cdv,ct,osl,rfl,lk,hcd]:=F.ex;show UZ lk hcd S len λA outer s H vs Q E hr IA=>?_;let#[t,h,q]:=hbody A outer s H vs Q E hr IA;show#[t,h.Wx,q]
def Px(h:jd (k+1) A):A.in1.depth<recursionLimit:=h.in1.depth
def kr(p:Addr)(H H':Hp):Prop:=∀b o,b≠p->H b=some o->H' b=some o
def kr.trans{H1 H2:Hp}(a:kr p H H1)(b:kr p H1 H2):kr p H H2:=λc o n h=>b c o n^a c o n h
def aA.abu(s:aA H H'):kr p H H':=λc o _ h=>s c o h
def vJ(p:Addr)(qual:Str)(pos:Pos)(H:Hp):Prop:=H p=some^.sM #[]\/∃c,H p=some (.sM #v[rawInt pos.line,rawInt pos.col,.ref c])/\H c=some^mY c qual
def vJ.ne(t:vJ p qual pos H){o:HO}(h:H b=some o)(ho:∀ps,o≠.sM ps):b≠p:=λz=>by subst z;rcases t with e|⟨c,e,_⟩<;>(rw[e] at h;show ho _ (Option.some.inj h).symm)
def vJ.same(t:vJ p qual pos H)(s:aA H H'):vJ p qual pos H':=t.elim (λe=>.inl^s _ _ e) λ⟨c,e,h⟩=>.inr #[c,s _ _ e,s _ _ h]
def vJ.put{o:HO}(t:vJ p qual pos H)(hf:H f=some^.lst xs)(s:tR H f o H'):vJ p qual pos H':=by have k:∀{b:Addr}{u:HO},H b=some u->(∀ys,u≠.lst ys)->H' b=some u:=λh n=>s.keep (λz=>by subst z;rw[hf] at h;show n _ (Option.some.inj h).symm) h;rcases t with e|⟨c,e,h⟩;show .inl (k e λ_ z=>nomatch z);show .inr #[c,k e (λ_ z=>nomatch z),k h (λ_ z=>nomatch z)]
section
variable {σ:St}{p:Addr}{mk:Addr->Value->Obj}{t:TA}
def S4(h:t σ H λvs H1=>tl σ H1 λy H2=>Pu K qual mk te ix σ vs y H2 Q):Pw K qual mk te ix t tl σ H Q:=h
def X0(ht:vJ p qual pos H)(h:∀c q ctv H',kr p H H'->H' q=some^uf q^mk c ctv->H' c=some^mY c qual->vJ p qual pos H'->Q (.ref q) H'):XY p qual pos mk σ H Q:=by
 rcases ht with hP|⟨c,hP,hc⟩
 .show .inl #[hP,λc q ctv fc fq ne=>?_];have np:p≠c:=λz=>by rw[<- z,hP] at fc;cases fc
  have nq:p≠q:=λz=>by rw[<- z,hP] at fq;cases fq
  have IM:upd (upd (upd H p (.sM #v[rawInt pos.line,rawInt pos.col,.ref c])) c^mY c qual) q (uf q^mk c ctv) p=some (.sM #v[rawInt pos.line,rawInt pos.col,.ref c]):=by rw[bI nq,bI np,fm]
  have hc':upd (upd (upd H p (.sM #v[rawInt pos.line,rawInt pos.col,.ref c])) c^mY c qual) q (uf q^mk c ctv) c=some^mY c qual:=by rw[bI ne,fm]
  show h c q ctv _ (λb o hb e=>?_) fm hc'^.inr #[c,IM,hc'];rw[bI^aP e fq,bI^aP e fc,bI hb];show e
 .show .inr #[c,hP,λq ctv fq=>?_];have s:=LH fq^uf q^mk c ctv;show h c q ctv _ (λb o _ e=>s b o e) fm (s _ _ hc)^.inr #[c,s _ _ hP,s _ _ hc]
where
 LH {H:Hp} {q:Addr} (fq:H q=none) (o:HO):aA H^upd H q o:=λb u e=>by rw[bI^aP e fq];show e
end
section
variable {p Py:Pos}{t:TA}
def S5{clos:List (Str×Addr)}{cc pt:Addr}(hcd:X.env.code=.ref cc)(ch:codeHdIn X.K cc pt=true)(Vz:X.base.BuiltinsAt X.mg pt)(hcl:closureFor scope X.env=pure clos)(hdef:defaultsOf params X.env=([],[]))
  (O:yf X scope clos y fr ix)(hr:X.A.in1.depth<recursionLimit)(hbind:∀(c':Addr)(ctv z:Value),bindArgs (kla_fn "<lambda>" (X.env.qual ++ "<lambda>") params body scope clos ((X.mg "__name__").getD .none) (.ref c') ctv) #[[z],[]]=pure [(y,z)])
  (he:∀q c' L s H,PE (Zn X (y::fr) (envX (X.env.qual ++ "<lambda>") scope L q (.ref c') clos) s H) body te)(hg:Gl X "max")(hm:X.mg "max" = none)(ha:PA X [e] t)(hb:backTo pos^starEach [e] X.env=(false,eval e X.env)::backTo pos^starEach [] X.env:=by rfl)
  (hpl:(backTo pos^starEach [e] X.env).any (·.1)=false:=by rfl)(hal:(backToKw pos^keywordEach [#[some "key", .Lambda params body scope Py,kp]] X.env).all (·.1.isSome)=true:=by rfl)(hkw:(backToKw pos^keywordEach [#[some "key", .Lambda params body scope Py,kp]] X.env).any (·.1.isNone)=false:=by rfl)
  (hfm:(backToKw pos^keywordEach [#[some "key", .Lambda params body scope Py,kp]] X.env).filterMap (·.1)=[("key" : Str)]:=by rfl):
  PE X (.Call (.Name "max" p) [e] [#[some "key", .Lambda params body scope Py,kp]] pos) (Pw X.K (X.env.qual ++ "<lambda>") (λc ctv=>kla_obj "<lambda>" (X.env.qual ++ "<lambda>") params body scope clos ((X.mg "__name__").getD .none) c ctv) te ix t (XY pt (X.env.qual ++ "<lambda>") Py λc ctv=>kla_obj "<lambda>" (X.env.qual ++ "<lambda>") params body scope clos ((X.mg "__name__").getD .none) c ctv)) :=
 S3 O hr hbind he hg hm ha (XZ hcd ch Vz hcl hdef) hb hpl hal hkw hfm
end
open Classical in
def isH(h:Heap)(q:HM.bB)(v:Value):Bool:=decide (∃a,v=.ref a/\HM.bW h q a)
open Classical in
def agC{k q:HM.bB}(x:HM.bW h k a):isH h q^.ref a=decide (k=q):=by unfold isH;by_cases e:k=q;subst e;rw[decide_eq_true^show ∃b,Value.ref a=.ref b/\HM.bW h k b from#[a,rfl,x],decide_eq_true rfl];rw[decide_eq_false e,decide_eq_false];rintro⟨b,eb,y⟩;cases eb;show e^HM.bW.inj x y
section
variable {σ:St}
end
end L2
namespace L2
variable {t:Tok}
set_option genInjectivity false in
set_option genSizeOf false in
set_option genSizeOfSpec false in
structure DD (K:az) (mg:Str->Option Value) (n:Str) (st:Stmt) (ps:List Str) where
 f:Addr
 d:FuncData
 F:U8 K n n st f d
 b:Binds K d ps []
 m:mg n=some^.ref f
set_option genInjectivity false in
set_option genSizeOf false in
set_option genSizeOfSpec false in
structure DL (K:az) (mg:Str->Option Value) (n:Str) (st:Stmt) (ps:List Str) (pp:Addr) extends DD K mg n st ps where
 cc:Addr
 cq:d.code=.ref cc
 ch:PySem.W.codeHdIn K cc pp=true
set_option genInjectivity false in
set_option genSizeOf false in
set_option genSizeOfSpec false in
structure CI (mg:Str->Option Value) (n:Str) (i:Int) where
 t:Tok
 c:mg n=some^.int i t
set_option genInjectivity false in
set_option genSizeOf false in
set_option genSizeOfSpec false in
structure CT (K:az) (mg:Str->Option Value) (n:Str) (vs:List V) where
 a:Addr
 c:mg n=some^.ref a
 q:eU K a vs
section
variable {n:Str}{ps:List Str}{oc:Value}{od an:Option Addr}{sl:Array^Option Value}{kV dc cd ct:Value}
abbrev GZ(n:Str)(st:Stmt)(ps:List Str):Prop:=∀(kV doc pm:Value)(an:Option Addr)(cdv ct:Value)(us:List Value),us.length=ps.length->bindArgs (PySem.W.fnOf n n (lV st) (jA st) (aC st) .none kV doc pm an cdv ct) #[us,[]]=pure^ps.zip us
noncomputable def VA(X:K.In h)(G:h.Ns mainGlobals mg)(hb:GZ n st ps)(e:PySem.W.nsIn K mainGlobals n=some^some^.ref f)(l:K.lookup f=some #[oc,od,.func^PySem.W.fnOf n n (lV st) (jA st) (aC st) .none kV dc pm an cd ct,sl])
  (c:PySem.W.codeIn K cd n=true)(k:PySem.W.keepIn K^.ref f=true):DD K mg n st ps:=#[f,_,NW l c k,(NW l c k).binds hb,oY X G e]
noncomputable def abv{cc pp:Addr}(X:K.In h)(G:h.Ns mainGlobals mg)(hb:GZ n st ps)(e:PySem.W.nsIn K mainGlobals n=some^some^.ref f)(l:K.lookup f=some #[oc,od,.func^PySem.W.fnOf n n (lV st) (jA st) (aC st) .none kV dc pm an (.ref cc) ct,sl])
  (c:PySem.W.codeIn K (.ref cc) n=true)(k:PySem.W.keepIn K^.ref f=true)(ch:PySem.W.codeHdIn K cc pp=true):DL K mg n st ps pp:={ VA X G hb e l c k with cc:=cc,cq:=rfl,ch:=ch }
noncomputable def abw{i:Int}(X:K.In h)(G:h.Ns mainGlobals mg)(e:PySem.W.nsIn K mainGlobals n=some^some^.int i t):CI mg n i:=#[t,oY X G e]
noncomputable def abx{vs:List V}{its:Array Value}(X:K.In h)(G:h.Ns mainGlobals mg)(e:PySem.W.nsIn K mainGlobals n=some^some^.ref a)(l:K.lookup a=some #[.type "tuple", od,.seq its j,sl])(r:Vals vs its.toList)(hz:its.size<=1000):CT K mg n vs:=#[a,oY X G e,eU.mk' l r hz]
def DD.bind1(D:DD K mg n st [x])(hb:GZ n st [x])(s:Shared)(v:Value):BindsTo s D.d #[[v],[]] [(x,v)]:=by let#[_,_,kV,dc,pm,an,cd,ct,_,e,_,_]:=D.F.ex;rw[e];show .of_eq^hb kV dc pm an cd ct [v] rfl
end
section
variable {n:Str}{ps:List Str}{t:TA}
def aS(D:DD X.K X.mg n st ps)(F:cA X.prog X.w X.K X.mg X.base ir k D.f D.d ps sp)(r:jd j X.A)(ha:PA X (e::es) t)(hg:Gl X n)(he:starEach (e::es) X.env=(false,eval e X.env)::starEach es X.env)(hpl:(backTo pos^starEach es X.env).any (·.1)=false)(hk:k<=j:=by first|decide|omega)(hdb:(n==("__debug__" : Str))=false:=by decide):PE X (.Call (.Name n p) (e::es) [] pos) (ND sp [] E0 t) :=
 RY F (r.mono hk) hg D.m D.F.kp D.b .nil aas ha hdb he hpl
end
section
variable {nx bk ct:St->Hp->Prop}{σ:St}
end
section
variable {o:Expr}{ty:TE}
end
section
variable {σ:St}{t:TA}
end
section
variable {a b:Expr}
def bD(i:Nat)(hN:X.N.Nodup)(he:PE X e te)(hi:X.N[i]?=some x:=by rfl)(hx:Loc X.env.scope x:=by walk_at "oi")(hs:swapsWith e (some^.Name x pos') pos.line X.env=pure false:=by rfl)(hf:X.fn x=true\/X.env.scope.names.lookup x=some .local:=by walk_at "or"):
  PS X (.Assign [.Name x pos'] e pos)^RN te^iB i:=Wz hN hi hx he hs hf
def dX(i:Nat)(hN:X.N.Nodup)(hi:X.N[i]?=some x)(hx:Loc X.env.scope x:=by walk_at "oi")(hf:X.fn x=true\/X.env.scope.names.lookup x=some .local:=by walk_at "or"):PG X (.Name x pos)^iB i:=Iq hN hi hx hf
def aX{r:R2}(hr:WO X r)(ha:PE X a ta)(hb:PE X b tb)(hs:IG b:=by exact λ_ _=>rfl):PE X (.Subscript a b pos)^RS r ta tb:=aag hr ha hb hs
def fF{op:CmpOp}{r:R2}(ho:nu X (compareOp op) r)(ha:PE X a ta)(hb:PE X b tb)(hm:behindInMarks op b=false:=by exact Bc _):PT X (.Compare a [op] [b] pos)^Iz^RS r ta tb:=eX ho ha hb hm
def bh.cz(x:Str)(fr:List Str)(ix:List Nat)(nm:List Str)(clos:closureFor scope X.env=pure cl)(calm:X.calm=true)(kind:scope.kind=.function)(loc:scope.names.lookup x=some .local)(hnm:cl.map (·.1)=nm)(hlen:fr.length=ix.length)(cell:∀y∈scope.names,y.2≠.cell:=by decide +kernel)(names:∀y∈scope.names,y.2=.local->scope.names.lookup y.1=some .local:=by decide +kernel)(nd:(x::fr).Nodup:=by decide +kernel)(hcl:zE (λp=>X.env.cells.lookup p.1=some p.2) cl:=by repeat (first|exact trivial|refine⟨rfl,?_⟩))(hfree:∀z∈scope.names,z.2=.free->z.1∈nm:=by decide +kernel)(hfx:zE (λp=>X.N[p.2]?=some p.1/\X.env.kindOf p.1=some .cell/\(relabel scope X.env).names.lookup p.1=some .cell)^fr.zip ix:=by repeat (first|exact trivial|refine⟨⟨rfl,rfl,rfl⟩,?_⟩)):bh X scope cl x fr ix :=
 bh.caps calm clos cell kind names loc nd hcl hnm hfree hlen hfx
def bh.pz(calm:X.calm=true:=by rfl)(cell:∀y∈scope.names,y.2≠.cell:=by decide +kernel)(free:∀y∈scope.names,y.2≠.free:=by decide +kernel)(kind:scope.kind=.function:=by rfl)
  (names:∀y∈scope.names,y.2=.local->scope.names.lookup y.1=some .local:=by decide +kernel)(loc:scope.names.lookup x=some .local:=by rfl):bh X scope [] x [] []:=bh.plain calm cell free kind names loc
def fS.oz(xs:List Str)(O:bh X scope cl x fr ix)(nd:(xs++fr).Nodup:=by decide +kernel):fS X scope cl xs fr ix:=fS.of O nd
def BJ(i:Nat){y:Str}{py spos px:Pos}{elt iter:Expr}{ifs:List Expr}{wi:TI}(hN:X.N.Nodup)(O:bh X scope cl x fr ix)(hi:PI X (.Name x px) iter wi)(ht:∀C fp s H,PF (sN X (x::fr) scope cl C fp s H) ifs tt)(he:∀C fp s H,PE (sN X (x::fr) scope cl C fp s H) elt te)(W9:X.N[i]?=some y)(hsw:swapsWith (.ListComp elt [#[.Name x px,iter,ifs,0]] scope pos) (some^.Name y py) spos.line X.env=pure true)(hy:Loc X.env.scope y:=by walk_at "oi")(hs:∀v,foldedSetIterable iter X.env v=pure v:=by walk_at "ir")(hf:X.fn y=true\/X.env.scope.names.lookup y=some .local:=by walk_at "or"):
  PS X (.Assign [.Name y py] (.ListComp elt [#[.Name x px,iter,ifs,0]] scope pos) spos)^C0 (IP wi tt te ix) i:=R8 hN W9 hy O hi ht he hsw hs hf
def VB(i:Nat){y:Str}{py spos:Pos}{elt iter:Expr}{xs:List Str}{ifs:List Expr}{wi:TI}(hN:X.N.Nodup)(O:fS X scope cl xs fr ix)(hi:PI X tg iter wi)(hg:∀C fp s H,PG (sN X (xs++fr) scope cl C fp s H) tg g)(ht:∀C fp s H,PF (sN X (xs++fr) scope cl C fp s H) ifs tt)(he:∀C fp s H,PE (sN X (xs++fr) scope cl C fp s H) elt te)(W9:X.N[i]?=some y)(hsw:swapsWith (.ListComp elt [#[tg,iter,ifs,0]] scope pos) (some^.Name y py) spos.line X.env=pure true)(hy:Loc X.env.scope y:=by walk_at "oi")(hs:∀v,foldedSetIterable iter X.env v=pure v:=by walk_at "ir")(hf:X.fn y=true\/X.env.scope.names.lookup y=some .local:=by walk_at "or"):
  PS X (.Assign [.Name y py] (.ListComp elt [#[tg,iter,ifs,0]] scope pos) spos)^C0 (Bs wi g tt te ix xs.length) i:=Om hN W9 hy O hi hg ht he hsw hs hf
def X3(i:Nat){op:Operator}{ti:Zg}(hN:X.N.Nodup)(he:PE X e te)(ho:PIp X op ti)(hi:X.N[i]?=some x)(hx:Loc X.env.scope x:=by walk_at "oi")(hf:X.fn x=true\/X.env.scope.names.lookup x=some .local:=by walk_at "or"):
  PS X (.AugAssign (.Name x pos') op e pos)^WA i te ti:=WB hN hi hx he ho hf
def Am(n:Nat){t:FZ}(h:UP X es t)(hc:X.calm=true)(hn:(assignEach es X.env).length=n)(hst:(assignEach es X.env).findIdx? (·.1)=none):PG X (.Tuple es k pos)^Np X.K n t:=Nq hc h hn hst
def JA(K:az)(n:Nat){t:FZ}(h:UP X es t)(e:X.K=K)(hc:X.calm=true)(hn:(assignEach es X.env).length=n)(hst:(assignEach es X.env).findIdx? (·.1)=none):PG X (.Tuple es k pos)^Np K n t:=Sj e hc h hn hst
def kY{a:Addr}(hm:X.mg x=some^.ref a)(hg:Gl X x)(hd:(x==("__debug__" : Str))=false:=by decide):PE X (.Name x pos)^tC^.ref a:=Ip hg hm rfl hd
def JB{n:Int}(hm:X.mg x=some^.int n t)(hg:Gl X x)(hd:(x==("__debug__" : Str))=false:=by decide):PE X (.Name x pos)^tC^.int n:=Ip hg hm #[_,rfl] hd
end
def Pz(K:az):List V->Hp->VK->Prop:=λxs H Q=>∃(l:Addr)(ns:List Int),xs=[.ref l]/\bG K H l^ns.map V.int/\ns.length<64/\∀(ms:List Int)(q:Addr)(H':Hp),ms.Perm ns->ms.Pairwise (· <= ·)->fV H q (.lst^ms.map V.int) H'->Q (.ref q) H'
theorem Hf:dP X (.builtin "sorted")^Pz X.K:=by intro u5 s σ H xs us Q I r h;let#[l,ns,rfl,hl,h64,q]:=h;let#[u,rfl,ru]:=vals1 r;cases ru;let#[vs,rv,pl,_]:=I.list hl;have hvl:=rv.length;rw[ao] at hvl;show sorted_ints pl.isList (intsAre_of rv) ∅ λout ns' a1 a2 a3=>?_;let#[e,he]:=sortedAll_at s.heap vs out;have hl':=a2.length_eq;show#[.ref _,_,I.laid (t':=s.toks) (λ_ _=>sortedAll_old) (fN _) (o:=.lst^ns'.map V.int) #[by rw[ao,sizeLine_eq];lia,out.toList,e,qq a1,he],rfl,q ns' _ _ a2 a3 #[I.hok.fresh^fN _,rfl]]
def S6(hS:bG K H a^ns.map V.int)(h64:ns.length<64)(h:∀(ms:List Int)(q:Addr)(H':Hp),ms.Perm ns->ms.Pairwise (· <= ·)->fV H q (.lst^ms.map V.int) H'->Q (.ref q) H'):Pz K [.ref a] H Q:=#[a,ns,rfl,hS,h64,h]
theorem Hg{k:Int}{Q:Value->Shared->Prop}(hl:s.heap.IsList l vs.toArray)(hi:IntsAre vs ns)(hb:ns.length<=1000)
  (hk:k∈ns)(h:Q (.int (ns.idxOf k:Nat) s.toks) { s with toks:=s.toks+1 }):wpAny (model prog w) A (call (.builtin "list.index") [.ref l,.int k t]) Q E s:=by
 let#[#[cls,dd,data,sl],ho,hc,n,hd]:=id hl;simp only at hc hd;subst hc hd;have hlen:=hi.length;have hj:ns.idxOf k<ns.length:=wY.mpr hk;show call_meets PySem.F.slot_list_index #[_,ho,rfl] PySem.F.entry_list_index (PySem.F.args_list_index_2 _ _)
  (PySem.SeqAt.list_indexAt l vs.toArray n dd sl (.int k t) (isInt k) (ns.idxOf k) (by simpa[hlen] using hj) ∅ ?_ ?_) #[ho,λy hy=>(eq_isInt k t hi y^by simpa using hy).at _ _,h]
 .change isInt k vs[ns.idxOf k]=true;rw[isInt_at k hi _ ∅ hj];simpa using List.getElem_idxOf hj
 .intro j hjs hlt;change isInt k vs[j]=false;rw[isInt_at k hi j (by simpa using hjs) ∅];show ne_of_lt_idxOf hlt _
def Hh(K:az):V->List V->Hp->VK->Prop:=λx vs H Q=>∃(p:Addr)(ns:List Int)(k:Int),x=.ref p/\vs=[.int k]/\bG K H p^ns.map V.int/\ns.length<=1000/\k∈ns/\Q (.int (ns.idxOf k:Nat)) H
def PB:MtR X "list.index"^Hh X.K:=by intro u5 s σ H x vs v us Q I rx rv h;let#[p,ns,k,rfl,rfl,hS,hb,hk,q]:=h;cases rx;let#[u,rfl,t,rfl]:=vals1 rv;let#[its,r,pl,hz]:=I.list hS;show Hg pl.isList (intsAre_of r) hb hk #[.int _,H,I.tok _,#[_,rfl],q]
def LI(h:X.K=K):MtR X "list.index"^Hh K:=by subst h;show PB
def S7{k:Int}(hS:bG K H a^ns.map V.int)(hb:ns.length<=1000)(hk:k∈ns)(h:Q (.int (ns.idxOf k:Nat)) H):Hh K (.ref a) [.int k] H Q:=#[a,ns,k,rfl,rfl,hS,hb,hk,h]
section
variable {id:String}{o:Expr}{t:TA}
def X4(hK:X.K=K)(pa:PlainAttrs T)(slot:Slot T name id)(hty:typeOf^.builtin id=pure^.type "method_descriptor")(hm:MtR X id r)(ho:PE X o to)(ha:PA X (e::es) t)
  (hbase:attributeBase o name X.env^eval o X.env=eval o X.env:=by rfl)
  (hfew:((backTo cpos^starEach (e::es) X.env).all (λx=>!x.1)&&(backToKw cpos^keywordEach [] X.env).all (λx=>x.1.isSome)
   && decide ((e::es).length+([]:List Keyword).length+(if([]:List Keyword).isEmpty then 0 else 1)<30))=true:=by rfl)
  (hline:(apos.endLine==cpos.line)=true:=by rfl)(hs:starEach (e::es) X.env=(false,eval e X.env)::starEach es X.env:=by rfl)(hplain:(backTo cpos^starEach es X.env).any (·.1)=false:=by rfl):
  PE X (.Call (.Attribute o name apos) (e::es) [] cpos)^tBM K T r to t:=by subst hK;show gf pa slot hty hm ho ha hbase hfew hline hs hplain
end
end L2
set_option compiler.extract_closed false
local macro_rules | `(tactic| walk_at "len")=>`(tactic| first|omega|(simp only[ao, aF, ck, sW, L2.C5] at *;omega)|exact Nat.le_of_ble_eq_true rfl)
set_option hygiene false in
local macro_rules | `(tactic| walk_at "sq1") => `(tactic| first | ((with_reducible refine L2.Xx ?_); walk_at "nx") | ((with_reducible refine L2.Gx (bk := bk2) (ct := ct2) ?_); walk_at "nx") | ((with_reducible refine L2.Gx (bk := bk1) (ct := ct1) ?_); walk_at "nx") | ((with_reducible refine L2.Gx (bk := bk0) (ct := ct0) ?_); walk_at "nx") | ((with_reducible refine L2.Xy ?_); walk_at "nl"; walk_at "nx"))
def L2.aA.at{a:PySem.Addr}{o:L2.HO}(e:L2.aA H H')(h:H a=some o):H' a=some o:=e _ _ h
def L2.aA.trF{H1 H2:L2.Hp}(b:L2.aA H1 H2)(a:L2.aA H H1):L2.aA H H2:=a.trans b
def L2.fV.fst{p:PySem.Addr}{o:L2.HO}(n:L2.fV H p o H'):H p=Option.none:=n.1
def L2.fV.fr2{H1 H2:L2.Hp}{p:PySem.Addr}{o:L2.HO}(n:L2.fV H1 p o H2)(s:L2.aA H H1):H p=Option.none:=s.free n.1
def L2.za0{α β:Type}{a:α}{b:β}:a=a/\b=b:=#[rfl,rfl]
def L2.zb0{α:Type}{a:α}:a=a/\L2.aA H H:=#[rfl,L2.aA.refl _]
def L2.zc0{a b:PySem.Addr}{ys:List L2.V}{R:L2.It->L2.Hp->Prop}(hx:L2.dJ K H a xs)(hy:L2.dJ K H b ys)(h:R (L2.Itz K true true a b xs ys) H):L2.Xm K R [.ref a,.ref b] H:=L2.IW (t1:=true) (t2:=true) hx hy h
def L2.zc1{a b:PySem.Addr}{ys:List L2.V}{R:L2.It->L2.Hp->Prop}(hx:L2.dJ K H a xs)(hy:L2.bG K H b ys)(h:R (L2.Itz K true false a b xs ys) H):L2.Xm K R [.ref a,.ref b] H:=L2.IW (t1:=true) (t2:=false) hx hy h
def L2.zc2{a b:PySem.Addr}{ys:List L2.V}{R:L2.It->L2.Hp->Prop}(hx:L2.bG K H a xs)(hy:L2.dJ K H b ys)(h:R (L2.Itz K false true a b xs ys) H):L2.Xm K R [.ref a,.ref b] H:=L2.IW (t1:=false) (t2:=true) hx hy h
def L2.zc3{a b:PySem.Addr}{ys:List L2.V}{R:L2.It->L2.Hp->Prop}(hx:L2.bG K H a xs)(hy:L2.bG K H b ys)(h:R (L2.Itz K false false a b xs ys) H):L2.Xm K R [.ref a,.ref b] H:=L2.IW (t1:=false) (t2:=false) hx hy h
namespace WK
open Lean in
def ids(c:String):Array Ident:=((c.drop 1).toString.splitOn ",").toArray.map λx=>mkIdent (.mkSimple x)
open Lean in
def one(c:String):MacroM (TSyntax `tactic):=do
 if c == "a" then `(tactic| assumption) else if c == "o" then `(tactic| omega) else if c == "r" then `(tactic| rfl) else if c == "d" then `(tactic| decide)
 else if c.startsWith "~" then `(tactic| try clear $(ids c)*) else if c.startsWith "^" then `(tactic| intro $(ids c)*) else if c.startsWith "?" then `(tactic| fail_if_success clear $(ids c)*)
 else if c.startsWith "@" then `(tactic| walk_at $(Syntax.mkStrLit (c.drop 1).toString)) else if c.startsWith "=" then `(tactic| with_reducible apply $(mkIdent (.mkSimple (c.drop 1).toString)))
 else if c.startsWith "*/" then `(tactic| apply $(mkIdent (c.drop 2).toString.toName)) else if c.startsWith "*" then `(tactic| apply $(mkIdent (`L2++(c.drop 1).toString.toName)))
 else `(tactic| with_reducible apply $(mkIdent (.str `L2 c)))
open Lean in
def alt(w : String): MacroM (TSyntax `tactic):=do
  let ws:=(w.splitOn " ").toArray;let mut t ← one ws[0]!
  for c in ws[1:] do
    if c=="&" then t ← `(tactic| ($t:tactic<;>intro _))
    else if c.startsWith "!" then
      for _ in[0:(c.drop 1).toString.toNat!] do t ← `(tactic| ($t:tactic;intro _))
    else if c.startsWith "~" || c.startsWith "^" then
      let u ← one c
      t ← `(tactic| ($t:tactic;$u:tactic))
    else
      let u ← if c == "a" || c == "o" || c == "r" || c == "d" then one c else `(tactic| walk_at $(Syntax.mkStrLit c))
      t ← `(tactic| ($t:tactic;(focus $u:tactic)))
  return t
open Lean in
def tab:String:="look:a;*fV.self a;*fV.keep a look;*tR.self a;*tR.keep a neq look;*aA.at a look\nneq:a;*/Ne.symm a;*fV.ne a look;*/Ne.symm ne1;*iJ look look ic\nne1:*fV.ne a look\nsq:a;*eU.sq a;*bG.of look;*dJ.of look;*aA.seq a sq;*aA.seq ns sq\nns:*fV.same a\nsame:*aA.refl;a;*aA.trF ns same;*aA.trF a same;*tR.same a sf sf\nsf:@same;@free\nfree:a;*fV.none a free;*aA.free a free;*fV.fst a;*fV.fr2 a same\ncond:o;d;*/And.intro o o;*/Or.inl an;*/Or.inr an;*/And.intro o od\nan:*/And.intro o o\nod:*/And.intro o d\nnxd:=LR ~LR,LS,kt0,kf0;=LS ~LR,LS,kt0,kf0;=Tz ~Tz,nx0;=hnx1 ~hnx1,nx1;=hnx2 ~hnx2,nx2;=hnx3 ~hnx3,nx3;=hnx4 ~hnx4,nx4;=ace;=hct0;=hbk0;=hno1;=hct1;=hbk1;=hno2;=hct2;=hbk2\nnx:?Tz ^nx0,Tz;?hnx1 ^nx1,hnx1;?hnx2 ^nx2,hnx2;?hnx3 ^nx3,hnx3;^nx4,hnx4\nni:~LR,LS,kt0,kf0 ^kt0,kf0,LR,LS\nnl:?ace ^no0,bk0,ct0,ace,hbk0,hct0;?hno1 ^no1,bk1,ct1,hno1,hbk1,hct1;^no2,bk2,ct2,hno2,hbk2,hct2\nc2:*/Or.inl sq;*/Or.inr sq\nc3:*pO.int;*pO.bl;*pO.eW;*pO.str;*pO.tup look;*pO.lst look\nc6:a;d;o\ngo1:agl sq1|aiV;akG;s_c|aa8 ni|afr;s_b;aiL;afE;afF;afG;afH;afJ;afK;afL;afM;afN;afO;adY;adZ;akO;akP|akQ;afI;akR;akS;akT;akU;akV;akW;ai5;ai6;akJ;s_i cond;aiQ;aiR;aiS;aiT|za0;zb0;Xf;@nxd|aiK;afp;afq;akH;s_u;aiM;akI;aiN;aiO;aiP;adU;s_call;aiU;afs;akK;aiY;aiZ;afx c0 !3;afy c0 !3|cZ sq r;Af sq c1;C4 c0 r;akL c2 r r;aaC c2 r r;ai3;aaJ;aa5;agd o;ai2 o o;afz;adV;adX sq;afD sq;afB sq r;adW;afC;akN;ai1 c2|aaH c2 !3;afA;aaG c3 r;ai4 sq;aaD look len !2;afU;afV;afW sq !3;afX sq r;ajd look look len !3;aaO look look len !2;Zk;afY c2 !3;aje;afZ sq;af0 sq;ak1;ajf sq !3;af3|Gr look r !2;af2;aaQ;af4;af1 r;afT;ad7;aaN;akM;ai0;agk;o8 sq;aee look !3;af8;qY look r;aa1 look r;ajl;af9;ajt look|aec;ak2 look;ajn look;s_iEnum1;s_itE1 sq;s_split d len !3;ael;aem;abm;aep;agv;abp;aek !4;ajA look;agu look;aeo look !3;aga;ajo look len !2;ajp look len !2|aei !3;agq look;agb !3;agc;ajq r;ajr;aeb;aaY r;aa0;aji;ajj r;Ag sq c5 !3;aea;af6;ad9;ajg sq|zc0 sq sq;zc1 sq sq;zc2 sq sq;zc3 sq sq|aat;afj;aiW;aiX;aft c6;afu c6|Gm &|afv c6;afw c6|Gn &|xJ r;Gp r\nc1:r;*Oj\nc0:*/Nat.le_of_ble_eq_true r"
open Lean in
def row(f:String->MacroM (TSyntax `tactic))(c:String):MacroM (TSyntax `tactic):=do
 for l in tab.splitOn "\n" do
  if l.startsWith (c++":") then
   let g ← ((l.drop (c.length+1)).toString.splitOn "|").toArray.mapM λx=>do
    let r ← (x.splitOn ";").toArray.mapM f
    `(tactic| case' $(mkIdent `z):ident=>first $[| $r:tactic]*)
   return ← `(tactic| first $[| $g:tactic]*)
 Macro.throwUnsupported
open Lean in
def find(c:String):MacroM (TSyntax `tactic):=do
 if c=="go" then `(tactic| repeat' $(← row (λw=>if w=="@nxd" then row alt "nxd" else alt w) "go1"):tactic)
 else row alt c
end WK
local macro_rules | `(tactic| lk%$t)=>if WL.o t then `(tactic| walk_at "go") else Lean.Macro.throwUnsupported
local macro_rules | `(tactic| k_in%$t)=>if WL.o t then `(tactic| walk_at "start") else Lean.Macro.throwUnsupported
local macro_rules | `(tactic| walk_at "ic")=>`(tactic| (intro z;cases z))
local macro_rules | `(tactic| walk_at "c5")=>`(tactic| first|exact(λh=>absurd (show(1 : Nat)=0 from h.1) (by decide))|(intro h;simp only[L2.HT.fz] at h;omega))
local macro_rules | `(tactic| walk_at "goq")=>`(tactic| repeat' (first|with_reducible refine L2.agD ?_|with_reducible refine L2.aet ?_|with_reducible refine L2.aeu ?_|walk_at "go1"))
local macro_rules | `(tactic| walk_at "start")=>`(tactic| try dsimp only[L2.CS, L2.Cx.Wx, L2.Cx.xm])
local macro_rules | `(tactic| case' $i:ident=>$s)=>if i.getId==`z then `(tactic| ($s)) else Lean.Macro.throwUnsupported
local macro_rules | `(tactic| walk_at $s:str)=>WK.find s.getString
namespace TG
open PySem L2 PySem.Spec PyProof.Rows
variable {p d q:Nat}{b s x m:Int}{r R:Row}{vs:List V}{rs:List Row}{α β:Type}{xs:List Str}{o:HO}{t u:HM.fG}{φ:Heap->Prop}{kvs:gA}{ks:List HM.bB}{z:HM.bB}{N:Str->Prop}{gB:Str}{ls:List Nat}
set_option maxHeartbeats 4000000
noncomputable def top(i:Nat):Stmt:=PySem.Challenge.pw_turnguard_k62_whole_hardened_has_a_delay.main.body.getD i^.Pass #[0,0,0,0]
abbrev yg:Stmt:=top 3
abbrev yh:Stmt:=top 4
abbrev rE:Stmt:=top 5
abbrev An:Stmt:=top 11
abbrev rF:Stmt:=top 12
abbrev uQ:Stmt:=top 13
abbrev JC:Stmt:=top 14
abbrev JD:Stmt:=top 15
abbrev JE:Stmt:=top 16
abbrev PD:Stmt:=top 17
abbrev uR:Stmt:=top 18
abbrev Ao:Stmt:=top 19
abbrev JF:Stmt:=top 20
abbrev DK:Stmt:=top 22
abbrev JG:Stmt:=top 23
abbrev nS:Stmt:=top 24
abbrev Aq:Stmt:=top 25
abbrev PJ:Stmt:=top 27
abbrev yi:Stmt:=top 28
abbrev DM:Stmt:=top 29
abbrev uS:Stmt:=top 30
abbrev JH:Stmt:=top 31
abbrev DN:Stmt:=top 32
abbrev yj:Stmt:=top 36
abbrev Ar:Stmt:=top 37
abbrev mZ:Stmt:=top 38
abbrev As:Stmt:=top 39
abbrev DO:Stmt:=top 40
abbrev Au:Stmt:=top 41
abbrev JI:Stmt:=top 42
abbrev DP:Stmt:=top 43
abbrev JJ:Stmt:=top 44
abbrev Av:Stmt:=top 45
abbrev yk:Stmt:=top 46
abbrev Aw:Stmt:=top 48
abbrev JK:Stmt:=top 49
abbrev Ax:Stmt:=top 50
abbrev DQ:Stmt:=top 51
abbrev PK:Stmt:=top 52
abbrev uT:Stmt:=top 53
abbrev PL:Stmt:=top 54
abbrev rG:Stmt:=top 55
abbrev PM:Stmt:=top 56
abbrev Ay:Stmt:=top 57
abbrev JL:Stmt:=top 58
abbrev Az:Stmt:=top 59
abbrev VC:Stmt:=top 60
abbrev JM:Stmt:=top 61
abbrev PN:Stmt:=top 62
abbrev DR:Stmt:=top 63
abbrev VD:Stmt:=top 64
def je:aK ["body", "coming", "found", "statement", "k"] ["body"]^aC yg:=by walk_at "sc"
def jf:aK ["program", "seen", "name", "statement", "k"] ["program"]^aC yh:=by walk_at "sc"
def zJ:aK ["program"] ["program"]^aC rE:=by walk_at "sc"
def Hi:aK ["row"] ["row"]^aC An:=by walk_at "sc"
def zK:aK ["row", "part"] ["row", "part"]^aC rF:=by walk_at "sc"
def rH:aK ["row", "moved", "numbers"] ["row", "moved"]^aC uQ:=by walk_at "sc"
def DS:aK ["row", "boxes"] ["row"]^aC JC:=by walk_at "sc"
def PR:aK ["row"] ["row"]^aC JD:=by walk_at "sc"
def yl:aK ["row", "boxes", "found", "side"] ["row", "boxes"]^aC JE:=by walk_at "sc"
def jB:aK ["code", "reading", "giving", "ahead", "found", "spot", "coming", "seen", "place"] ["code"]^aC PD:=by walk_at "sc"
def jC:aK ["lists", "found", "some", "thing"] ["lists"]^aC uR:=by walk_at "sc"
def jX:aK ["code", "found", "place", "row", "way"] ["code"]^aC Ao:=by walk_at "sc"
def PU:aK ["code"] ["code"]^aC JF:=by walk_at "sc"
def iT:aK ["code", "looked", "firsts", "hardened", "place", "row", "box"] ["code"]^aC DK:=by walk_at "sc"
def DT:aK ["code", "lively"] ["code"]^aC JG:=by walk_at "sc"
def dN:aK ["code", "looked", "firsts", "many", "place", "row"] ["code", "looked"]^aC nS:=by walk_at "sc"
def Hj:aK ["row", "place"] ["row", "place"]^aC Aq:=by walk_at "sc"
def mz:aK ["program", "boxes", "code", "coming", "link", "statement", "blocks"] ["program"]^aC PJ:=by walk_at "sc"
def nT:aK ["program", "boxes", "name"] ["program"]^aC yi:=by walk_at "sc"
def iU:aK ["block", "place", "behind", "found", "statement"] ["block"]^aC DM:=by walk_at "sc"
def mD:aK ["statement", "place", "behind", "first", "second"] ["statement", "place", "behind"]^aC uS:=by walk_at "sc"
def PV:aK ["block"] ["block"]^aC JH:=by walk_at "sc"
def LJ:aK ["statement", "behind", "boxes"] ["statement", "behind", "boxes"]^aC DN:=by walk_at "sc"
def ku:aK ["row", "things", "lively", "taken", "given", "onward"] ["row", "things", "lively"]^aC yj:=by walk_at "sc"
def qv:aK ["onward", "things", "lively", "found", "way"] ["onward", "things", "lively"]^aC Ar:=by walk_at "sc"
def kZ:aK ["row", "thing", "taken", "given", "found"] ["row", "thing", "taken", "given"]^aC mZ:=by walk_at "sc"
def gk:aK ["code", "lively", "found", "place", "row", "things", "thing", "later"] ["code"]^aC As:=by walk_at "sc"
def LK:aK ["code"] ["code"]^aC DO:=by walk_at "sc"
def ym:aK ["later", "found"] ["later"]^aC Au:=by walk_at "sc"
def jY:aK ["later", "earlier", "waiting", "ready", "found", "harm", "other"] ["later"]^aC JI:=by walk_at "sc"
def o9:aK ["later", "found", "harm", "other"] ["later"]^aC DP:=by walk_at "sc"
def DU:aK ["code", "found"] ["code"]^aC JJ:=by walk_at "sc"
def qw:aK ["code", "later", "found"] ["code"]^aC Av:=by walk_at "sc"
def k9:aK ["later", "found", "most", "coming", "way", "harm"] ["later", "found", "most"]^aC yk:=by walk_at "sc"
def Hl:aK ["_law_script", "_law_k"] ["_law_script", "_law_k"]^aC Aw:=by walk_at "sc"
def DV:aK ["_law_cell", "_law_k", "_law_number"] ["_law_cell", "_law_k"]^aC JK:=by walk_at "sc"
def jZ:aK ["_law_script", "_law_many_here", "_law_found", "_law_k", "_law_cell", "_law_number"] ["_law_script", "_law_many_here"]^aC Ax:=by walk_at "sc"
def pq:aK ["_law_number", "_law_found", "_law_k"] ["_law_number"]^aC DQ:=by walk_at "sc"
def BK:aK ["_law_script", "_law_most", "_law_cell"] ["_law_script", "_law_most"]^aC PK:=by walk_at "sc"
def eL:aK ["_law_cell", "_law_p", "_law_many_here", "_law_pool_here", "_law_way", "_law_kind", "_law_rest", "_law_k", "_law_i", "_law_j", "_law_more", "_law_q"] ["_law_cell", "_law_p", "_law_many_here", "_law_pool_here", "_law_way"]^aC uT:=by walk_at "sc"
def BL:aK ["_law_rows", "_law_cell", "_law_p"] ["_law_rows", "_law_cell"]^aC PL:=by walk_at "sc"
def gJ:aK ["_law_script", "_law_many_here", "_law_boxes", "_law_pool_here", "_law_numbers_here", "_law_way", "_law_rows"] ["_law_script", "_law_many_here", "_law_boxes"]^aC rG:=by walk_at "sc"
def S8:aK ["_law_cell"] ["_law_cell"]^aC PM:=by walk_at "sc"
def d7:aK ["_law_cell", "_law_p", "_law_many_here", "_law_pool_here", "_law_way", "_law_rest", "_law_k", "_law_i", "_law_j", "_law_q", "_law_more", "_law_some"] ["_law_cell", "_law_p", "_law_many_here", "_law_pool_here"]^aC Ay:=by walk_at "sc"
def PX:aK ["_law_row"] ["_law_row"]^aC JL:=by walk_at "sc"
def gm:aK ["_law_code", "_law_line", "_law_at", "_law_kept", "_law_rows", "_law_p", "_law_places"] ["_law_code"]^aC Az:=by walk_at "sc"
def Ho:aK ["_law_script", "_law_many_here", "_law_pool_here", "_law_numbers_here"] ["_law_script", "_law_many_here"]^aC VC:=by walk_at "sc"
def lg:aK ["_law_number", "_law_x", "_law_y", "_law_z", "_law_rest", "_law_deed"] ["_law_number"]^aC JM:=by walk_at "sc"
def JN:aK ["_law_script", "_law_many_here", "_law_body"] ["_law_script", "_law_many_here"]^aC PN:=by walk_at "sc"
def LL:aK ["_law_row"] ["_law_row"]^aC DR:=by walk_at "sc"
def jx:aK ["_law_script", "_law_head", "_law_code", "_law_hard", "_law_found", "_law_way", "_law_places", "_law_k", "_law_p", "_law_rest"] ["_law_script"]^aC VD:=by walk_at "sc"
abbrev cK:Addr:=246
set_option genInjectivity false in
set_option genSizeOf false in
set_option genSizeOfSpec false in
structure uU (w:World) (K:az) (mg:Str->Option Value) where
 nU:Addr
 uV:mg "BLOCKS_AT" = some (.ref nU)
 jD:Addr
 rJ:eU K jD [.int 2,.int 3]
 jE:Addr
 rK:eU K jE [.int 2]
 uW:pR w K nU [(.inr "if", .ref jD),(.inr "while", .ref jE)]
set_option genInjectivity false in
set_option genSizeOf false in
set_option genSizeOfSpec false in
structure yo (w:World) (K:az) (mg:Str->Option Value) where
 qx:Addr
 yp:mg "NAMES_AT" = some (.ref qx)
 nV:Addr
 uX:eU K nV [.int 1]
 nW:Addr
 uY:eU K nW [.int 1,.int 2]
 nX:Addr
 uZ:eU K nX [.int 1,.int 3,.int 4]
 nY:Addr
 u0:eU K nY [.int 1]
 nZ:Addr
 u7:eU K nZ [.int 1]
 oh:Addr
 vc:eU K oh [.int 1]
 yq:pR w K qx [(.inr "num", .ref nV),(.inr "copy", .ref nW),(.inr "op", .ref nX),(.inr "out", .ref nY),(.inr "if", .ref nZ),(.inr "while", .ref oh)]
set_option genInjectivity false in
set_option genSizeOf false in
set_option genSizeOfSpec false in
structure JO (w:World) (K:az) (mg:Str->Option Value) where
 BN:Addr
 BO:mg "PARTS" = some (.ref BN)
 rL:Addr
 DW:eU K rL [.str "side", .str "box", .str "value", .str "place"]
 rM:Addr
 DX:eU K rM [.str "side", .str "box", .str "box", .str "place"]
 rN:Addr
 DY:eU K rN [.str "side", .str "sign", .str "box", .str "box", .str "box", .str "place"]
 rO:Addr
 DZ:eU K rO [.str "box", .str "place"]
 rP:Addr
 D3:eU K rP [.str "box", .str "place", .str "place"]
 rQ:Addr
 D4:eU K rQ [.str "box", .str "place"]
 rR:Addr
 D5:eU K rR [.str "place"]
 rS:Addr
 D6:eU K rS [.str "box"]
 BP:pR w K BN [(.inr "num", .ref rL),(.inr "copy", .ref rM),(.inr "op", .ref rN),(.inr "out", .ref rO),(.inr "fork", .ref rP),(.inr "look", .ref rQ),(.inr "mark", .ref rR),(.inr "back", .ref rS)]
abbrev Do{K:az}{mg:Str->Option Value}{n:Str}{s:Stmt}{ps:List Str}(P:Program)(w:World)(base:Heap)(k:Nat)(D:DD K mg n s ps)(S:Sp):Prop:=cA P w K mg base ir k D.f D.d ps S
set_option hygiene false in
local macro_rules | `($d ∩%$t ($n,$s))=>if WL.o t then `(Do P w base $n $d $s) else Lean.Macro.throwUnsupported
set_option genInjectivity false in
set_option genSizeOf false in
set_option genSizeOfSpec false in
structure Txt (w:World) (K:az) (mg:Str->Option Value) where
 jg:DD K mg "in_order" yg ["body"]
 rT:DD K mg "names_of" yh ["program"]
 mE:DD K mg "statements" rE ["program"]
 rV:DD K mg "ways_of" An ["row"]
 iV:DD K mg "numbers_of" rF ["row", "part"]
 pA:DD K mg "to_places" uQ ["row", "moved"]
 reads:DD K mg "reads" JC ["row"]
 gives:DD K mg "gives" JD ["row"]
 D7:DD K mg "spots" JE ["row", "boxes"]
 live:DD K mg "live" PD ["code"]
 pB:DD K mg "each_once" uR ["lists"]
 leading:DD K mg "leading" Ao ["code"]
 meets:DD K mg "meets" JF ["code"]
 BQ:DD K mg "harden" DK ["code"]
 looks:DD K mg "looks" JG ["code"]
 jF:DD K mg "first_places" nS ["code", "looked"]
 doubled:DD K mg "doubled" Aq ["row", "place"]
 flat:DD K mg "flat" PJ ["program"]
 rW:DD K mg "boxes_of" yi ["program"]
 ug:DD K mg "linked" DM ["block"]
 pC:DD K mg "blocks_of" uS ["statement", "place", "behind"]
 entry:DD K mg "entry" JH ["block"]
 BR:DD K mg "row_of" DN ["statement", "behind", "boxes"]
 rX:DD K mg "lasts_by" yj ["row", "things", "lively"]
 wc:DD K mg "at_ways" Ar ["onward", "things", "lively"]
 i8:DD K mg "things_behind" mZ ["row", "thing", "taken", "given"]
 rY:DD K mg "lasting" As ["code"]
 BS:DD K mg "delays" DO ["code"]
 rZ:DD K mg "lengths" Au ["later"]
 ended:DD K mg "ended" JI ["later"]
 turned:DD K mg "turned" DP ["later"]
 delay:DD K mg "delay" JJ ["code"]
 longest:DD K mg "longest" Av ["code"]
 um:DL K mg "way_of" yk ["later", "found", "most"] cK
 i9:DD K mg "_law_cell_at" Aw ["_law_script", "_law_k"]
 mixed:DD K mg "_law_mixed" JK ["_law_cell", "_law_k"]
 numbers:DD K mg "_law_numbers" Ax ["_law_script", "_law_many_here"]
 spread:DD K mg "_law_spread" DQ ["_law_number"]
 pool:DD K mg "_law_pool" PK ["_law_script", "_law_most"]
 pF:DD K mg "_law_plain_row" uT ["_law_cell", "_law_p", "_law_many_here", "_law_pool_here", "_law_way"]
 S9:DD K mg "_law_bent" PL ["_law_rows", "_law_cell"]
 mF:DD K mg "_law_plain_code" rG ["_law_script", "_law_many_here", "_law_boxes"]
 many:DD K mg "_law_many" PM ["_law_cell"]
 we:DD K mg "_law_any_row" Ay ["_law_cell", "_law_p", "_law_many_here", "_law_pool_here"]
 D8:DD K mg "_law_leads" JL ["_law_row"]
 wg:DD K mg "_law_reached" Az ["_law_code"]
 any:DD K mg "_law_any" VC ["_law_script", "_law_many_here"]
 group:DD K mg "_law_group" JM ["_law_number"]
 long:DD K mg "_law_long" PN ["_law_script", "_law_many_here"]
 uo:DD K mg "_law_is_put" DR ["_law_row"]
 law:DD K mg "law" VD ["_law_script"]
 aby:mg "all" = none
 X5:mg "bool" = none
 Hq:mg "dict" = none
 gn:mg "enumerate" = none
 VE:mg "int" = none
 mG:mg "isinstance" = none
 eO:mg "len" = none
 qy:mg "list" = none
 PY:mg "max" = none
 VF:mg "min" = none
 gQ:mg "range" = none
 mH:mg "reversed" = none
 JP:mg "set" = none
 lq:mg "sorted" = none
 ajE:mg "str" = none
 BU:mg "tuple" = none
 PZ:mg "zip" = none
 jL:uU w K mg
 Tc:CI mg "BOTH" 2
 pU:CT K mg "DEEDS" [.str "num", .str "copy", .str "op"]
 pV:CT K mg "ENDS_OF_MARKS" [.str "mark", .str "out", .str "back"]
 pW:CT K mg "ENDS_OF_SPOTS" [.str "look", .str "out", .str "back"]
 jh:yo w K mg
 g8:JO w K mg
 JQ:CT K mg "SIDES" [.int 0,.int 1]
def bQ(H H':Hp):Prop:=∀b xs,H b=some^.tup xs->H' b=some^.tup xs
def sT(e:aA H H'):bQ H H':=λb xs h=>e b _ h
def bQ.refl(H:Hp):bQ H H:=λ_ _ h=>h
def bQ.trans{H1 H2:Hp}(a:bQ H H1)(b:bQ H1 H2):bQ H H2:=λc o h=>b c o^a c o h
def bV(h:n<100000):n<sizeLine:=cC h (by decide)
theorem Hr{xs:List α}{i:Int}(h0:0<=i)(h1:i<xs.length):∃v,tH xs i=some v/\v∈xs:=by have e:i=((i.toNat:Nat):Int):=∅;have h2:i.toNat<xs.length:=∅;show#[xs[i.toNat],?_,kK h2];have q:tH xs ((i.toNat:Nat):Int)=some xs[i.toNat]:=fR (by simp[h2]);rw[<- e] at q;show q
def wj{i:Int}(h0:0<=i)(h1:i<ns.length):∃v,tH (ns.map V.int) i=some^.int v:=by let#[v,e,m]:=Hr (xs:=ns.map V.int) h0 (by simpa using h1);let#[n,_,rfl]:=aE.mp m;show#[n,e]
def D9{i:Int}(h0:0<=i)(h1:i<ns.length):∃v,tH (ns.map V.int) i=some^.int v/\v∈ns:=by let#[v,e,m]:=Hr (xs:=ns.map V.int) h0 (by simpa using h1);let#[n,hn,rfl]:=aE.mp m;show#[n,e,hn]
theorem bX{a:Int}(h:0<b):0<=a % b/\a % b<b:=#[Int.emod_nonneg _ ∅,Int.emod_lt_of_pos _ h]
inductive abz(K:az)(vs:List V)(H:Hp)(Q:VK)(_:XK):Prop|mk(a:Addr)(ns:List Int)(_:vs=[.ref a])(_:bG K H a^ns.map V.int)(_:ns.length<=63)(_:∀H',Q (.bl true) H')
inductive Row where
 | num (d k v q:Int)|copy (d k i q:Int)|op (d:Int) (s:Str) (k i j q:Int)|out (i q:Int)|fork (i q p:Int)|look (i q:Int)|mark (q:Int)|back (i:Int)
noncomputable def Row.key:Row->Str
 | .num .. => "num" | .copy .. => "copy" | .op .. => "op" | .out .. => "out" | .fork .. => "fork" | .look .. => "look" | .mark .. => "mark" | .back .. => "back"
noncomputable def Row.parts:Row->List Str
 | .num ..=>["side", "box", "value", "place"]|.copy ..=>["side", "box", "box", "place"]|.op ..=>["side", "sign", "box", "box", "box", "place"]|.out ..=>["box", "place"]
 | .fork ..=>["box", "place", "place"]|.look ..=>["box", "place"]|.mark ..=>["place"]|.back ..=>["box"]
noncomputable def Row.rest:Row->List V
 | .num d k v q=>[.int d,.int k,.int v,.int q]|.copy d k i q=>[.int d,.int k,.int i,.int q]|.op d s k i j q=>[.int d,.str s,.int k,.int i,.int j,.int q]
 | .out i q=>[.int i,.int q]|.fork i q p=>[.int i,.int q,.int p]|.look i q=>[.int i,.int q]|.mark q=>[.int q]|.back i=>[.int i]
def Row.vals(r:Row):List V:=.str r.key::r.rest
noncomputable def Row.ways:Row->List Int
 | .num _ _ _ q=>[q]|.copy _ _ _ q=>[q]|.op _ _ _ _ _ q=>[q]|.out _ q=>[q]|.fork _ q p=>[q,p]|.look _ q=>[q]|.mark q=>[q]|.back _=>[]
noncomputable def signs:List Str:=["+", "-", "*", "/", "<", "=", "&", "|", "^"]
def Hs(d:Int):Prop:=0<=d/\d<3
def iK(d:Int):Prop:=0<=d/\d<8
def isVal(d:Int):Prop:=0<=d/\d<281474976710656
def j6(n d:Int):Prop:=0<=d/\d<n
def Row.ok(n:Int):Row->Prop
 | .num d k v q=>Hs d/\iK k/\isVal v/\j6 n q
 | .copy d k i q=>Hs d/\iK k/\iK i/\j6 n q
 | .op d s k i j q=>Hs d/\s∈signs/\iK k/\iK i/\iK j/\j6 n q
 | .out i q=>iK i/\j6 n q
 | .fork i q p=>iK i/\j6 n q/\j6 n p
 | .look i q=>iK i/\j6 n q
 | .mark q=>j6 n q
 | .back i=>iK i
def Row.ja{n:Int}(h:r.ok n):∀q∈r.ways,0<=q/\q<n:=by cases r<;>erw[Row.ok] at h<;>erw[Row.ways,aG,iQ,or_false]<;>intro q hq;rw[hq];show h.2.2.2;rw[hq];show h.2.2.2;rw[hq];show h.2.2.2.2.2;rw[hq];show h.2;rcases hq with e|e<;>rw[e];show h.2.1;show h.2.2;rw[hq];show h.2;rw[hq];show h;show hq.elim
def Row.ji(r:Row):r.ways.length<=2:=by cases r<;>simp[Row.ways]
def yr(H:Hp)(v:V)(r:Row):Prop:=∃a,v=.ref a/\H a=some^.tup r.vals
abbrev Rows(H:Hp):List V->List Row->Prop:=Paired^yr H
def yr.same(e:aA H H')(h:yr H v r):yr H' v r:=let⟨a,e1,e2⟩:=h;#[a,e1,e _ _ e2]
def yr.gp(e:bQ H H')(h:yr H v r):yr H' v r:=let⟨a,e1,e2⟩:=h;#[a,e1,e _ _ e2]
theorem Rows.same(e:aA H H')(h:Rows H vs rs):Rows H' vs rs:=dW (λ_ _ q=>q.same e) h
theorem Rows.gp(e:bQ H H')(h:Rows H vs rs):Rows H' vs rs:=dW (λ_ _ q=>q.gp e) h
def bu{F:α->β->Prop}{xs:List α}{ys:List β}(hp:Paired F xs ys):∀{i:Nat}{x:α},xs[i]?=some x->∃y,ys[i]?=some y/\F x y:=by
 induction hp with
 | nil=>show λ{i x} h=>by simp at h
 | cons a _ ih =>
  intro i x h;cases i with
  | zero=>cases h;show#[_,rfl,a]
  | succ i=>show ih h
def lu{xs:List α}(hn:xs.Nodup){a:α}(hi:xs[i]?=some a)(hj:xs[j]?=some a):i=j:=by let#[h1,e1]:=e9 hi;let#[h2,e2]:=e9 hj;have q:=nI.mp hn;rcases oW i j with h|h|h;show absurd (e1.trans e2.symm)^q i j h1 h2 h;show h;show absurd (e2.trans e1.symm)^q j i h2 h1 h
inductive X6(K:az)(vs:List V)(H:Hp)(Q:VK)(_:XK):Prop|mk(a:Addr)(ns:List Int)(k:Int)(_:vs=[.ref a,.int k])(_:bG K H a^ns.map V.int)(_:0<=k)(_:∀c:Int,Q (.int c) H)
section
variable (T:Txt w K mg)
theorem gT:T.i9∩(1,X6 K):=by exists T.i9,Hl,#[a,ns,k,rfl,hS,h0,q],"+@XÓ1J*0.<G01.<M",2;have hl:(ns.map V.int).length=ns.length:=ao _;lk;let#[v0,hv0]:=wj (ns:=ns) (i:=k) ∅ ∅;show cZ hS hv0 ?_;show q _;show q _
inductive Td(vs:List V)(H:Hp)(Q:VK)(_:XK):Prop|mk(n k:Int)(_:vs=[.int n,.int k])(_:∀c,0<=c->c<2147483587->Q (.int c) H)
def Ea:T.mixed∩(1,Td):=by exists T.mixed,DV,#[n,k,rfl,q],"+/2BRcT©B0lz1z1.<BT©22",3;lk;show q _ (bX^by decide).1 (bX^by decide).2
inductive P0(vs:List V)(H:Hp)(Q:VK)(_:XK):Prop|mk(n:Int)(_:vs=[.int n])(_:∀c,Q (.int c) H)
def LM:T.spread∩(2,P0):=by
 exists T.spread,pq,#[n,rfl,q],"+/1M+D_L?2./1cT©1M:Ea -0*2.<1",3;lk;show Br (λi σ' H'=>H'=H/\∃(m:Int)(x:Option V),σ'=[some^.int n,some^.int m,x]) ?_ ?_ ?_;show#[rfl,_,_,rfl]
 .rintro i σ' H' hi ⟨rfl,m,x,rfl⟩;lk;show#[n,_,rfl,λc c0 c1=>?_];lk;show#[rfl,_,_,rfl]
 .rintro σ' H' ⟨rfl,m,x,rfl⟩;lk;show q _
def Ht{k:Int}(h0:0<=k)(h:k<n):NG n k=some k.toNat:=by unfold NG;rw[if_pos h0,if_pos h]
def ints_set(ms:List Int)(j:Nat)(v:Int):(ms.map V.int).set j^.int v=(ms.set j v).map V.int:=by rw[List.map_set]
inductive X7(K:az)(vs:List V)(H:Hp)(Q:VK)(_:XK):Prop|mk(a:Addr)(ns:List Int)(n:Nat)(_:vs=[.ref a,.int n])(_:bG K H a^ns.map V.int)(_:ns.length<=63)(_:0<n)(_:n<=1000)(_:∀q H' (ks:List Int),aA H H'->H' q=some^.lst^ks.map V.int->ks.length=n->Q (.ref q) H')
theorem qz:T.numbers∩(3,X7 K):=by
 exists T.numbers,jZ,#[a,ns,n,rfl,hS,hn,h0,h1,q],"+@YB:gT -0L.<OH_*1E:gT -1*l0+s2_*1ERz0+Dm*`ª0dat2P?3U?4+/5cT©G2S31MB4.uBc5z3»2S31.<«C2E:LM *0",6,"_law_k",["_law_script"],[0],["_law_script"];lk;show#[a,ns,0,rfl,hS,by decide,λc=>?_];lk
 .show kq (λi ys H'=>H'=H/\∃ks:List Int,ys=ks.map V.int/\ks.length=i) #[rfl,[],rfl,rfl] ?_ ?_
  .rintro i ys H' hi ⟨rfl,ks,rfl,hk⟩;show#[bV (by rw[ao];lia),?_];lk;show#[a,ns,_,rfl,hS,∅,λc3=>?_];show#[rfl,ks++[_],by rw[bA];rfl,by simp[hk]]
  .rintro ys H' ⟨rfl,ks,rfl,hk⟩ p H4 n4;show q p H4 ks n4.same n4.self ∅
 .show kq (λi ys H'=>H'=H/\∃ks:List Int,ys=ks.map V.int/\ks.length=i) #[rfl,[],rfl,rfl] ?_ ?_
  .rintro i ys H' hi ⟨rfl,ks,rfl,hk⟩;show#[bV (by rw[ao];lia),?_];lk;show#[rfl,ks++[_],by rw[bA];rfl,by simp[hk]]
  rintro ys H' ⟨rfl,ks,rfl,hk⟩ f H4 n4;have hk:ks.length=n:=∅;lk;rename_i c5 H5 n5;have P1:=nL (ns.map V.int) none^some 63;rw[ao] at P1;have hci:∃ms:List Int,gc (ns.map V.int) none^some 63=ms.map V.int:=#[_,by unfold gc;rw[<- List.map_drop,<- List.map_take]];let#[ms,hms]:=hci;rw[hms] at n5 P1 ⊢;rw[ao] at P1;have hne:c5≠f:=λe=>by have h1:=n5.1;rw[e,n4.self] at h1;cases h1
  show xN (xs:=ms.map V.int) (λi σ' H6=>aA H' H6/\H6 c5=some^.lst^ms.map V.int/\∃(ks:List Int)(x y z:Option V),σ'=[some^.ref a,some^.int n,some^.ref f,x,y,z]/\H6 f=some^.lst^ks.map V.int/\ks.length=n) ?_ ?_ ?_ ?_;show#[n4.same.trans n5.same,n5.self,ks,_,_,_,rfl,n5.keep n4.self,hk];rintro i σ' H6 hi ⟨sm,hc,_⟩;show bG.of hc
  .rintro i x p σ' H6 H7 hx ⟨sm,hc,ks,x1,y1,z1,rfl,hf,hk⟩ n7;rw[aV] at hx;let#[z,hz,rfl]:=cG.mp hx;have Rw:=n7.keep hf;have b:=bX (a:=(i:Int)) (b:=(n:Int)) ∅;lk;let#[v,hv]:=wj (ns:=ks) (i:=(i:Int) % (n:Int)) b.1 ∅;show cZ (bG.of Rw) hv ?_;lk;show Gr Rw (Ht b.1 (by rw[ao];lia)) ?_;intro H8 p8;rw[ints_set] at p8;lk;show#[p8.same (sm.trans n7.same) n4.1,p8.keep hne^n7.keep hc,_,_,_,_,rfl,p8.self,by rw[qf];show hk]
  .rintro σ' H6 ⟨sm,hc,ks,x1,y1,z1,rfl,hf,hk⟩;lk;show fM (xs:=ks.map V.int) (λi ys H7=>H7=H6/\∃ks:List Int,ys=ks.map V.int/\ks.length=i) #[rfl,[],rfl,rfl] ?_ ?_ ?_;rintro i ys H7 hi ⟨rfl,_⟩;show bG.of hf
   .rintro i x ys H7 hx ⟨rfl,ls,rfl,hl⟩;rw[aV] at hx;let#[z,hz,rfl]:=cG.mp hx;have hi:i<ks.length:=(e9 hz).1;show#[bV (by rw[ao];lia),?_];lk;show#[z,rfl,λc=>?_];show#[rfl,ls++[_],by rw[bA];rfl,by simp[hl]]
   .rintro ys H7 ⟨rfl,ls,rfl,hl⟩ p H8 n8;show q p H8 ls (sm.trans n8.same) n8.self (by rw[hl,ao,hk])
inductive X8(K:az)(vs:List V)(H:Hp)(Q:VK)(_:XK):Prop|mk(a:Addr)(ns:List Int)(m:Int)(_:vs=[.ref a,.int m])(_:bG K H a^ns.map V.int)(_:0<m)(_:m<=1000)(_:∀q H' (ks:List Int),aA H H'->H' q=some^.lst^ks.map V.int->0<ks.length->ks.length<=1000->(∀k∈ks,iK k)->Q (.ref q) H')
theorem JR:T.pool∩(2,X8 K):=by
 exists T.pool,BK,#[a,ns,m,rfl,hS,h0,h1,q],"+/2:gT -0L{@YB:gT -0L./2:Ea -2L.<OH_*lS21EBcF1z0",3,"_law_k",["_law_cell"],[2],["_law_cell"];lk;show#[a,ns,1,rfl,hS,by decide,λc=>?_];lk;show C3 (λσ' H'=>H'=H/\∃c:Int,σ'=[some^.ref a,some^.int m,some^.int c]) ?_ ?_
 .lk;show#[a,ns,0,rfl,hS,by decide,λc0=>?_];lk
  .show#[c,_,rfl,λc2 _ _=>?_];lk;show#[rfl,_,rfl]
  .show#[rfl,_,rfl]
 rintro _ H' ⟨rfl,c,rfl⟩;have b:=bX (a:=c) h0;lk;show kq (λi ys H1=>H1=H'/\∃ks:List Int,ys=ks.map V.int/\ks.length=i/\∀k∈ks,iK k) #[rfl,[],rfl,rfl,λk h=>nomatch h] ?_ ?_
 .rintro i ys H1 hi ⟨rfl,ks,rfl,hk,hb⟩;show#[bV (by rw[ao];lia),?_];lk;show#[rfl,ks++[_],by rw[bA];rfl,by simp[hk],λk h=>?_];rcases aJ.mp h with h|h;show hb k h;rw[ay.mp h];show bX (by decide)
 .rintro ys H1 ⟨rfl,ks,rfl,hk,hb⟩ p H4 n4;show q p H4 ks n4.same n4.self ∅ ∅ hb
theorem Hu(h0:0<=s)(h1:s<9):∃ch,tH ("+-*/<=&|^" : Str).cps.toList s=some ch/\(#[#v[ch]]:Str)∈signs:=by
 let#[ch,hch,Nf]:=Hr (xs:=("+-*/<=&|^" : Str).cps.toList) (i:=s) h0 (by change s<9;lia);have all:∀ch∈("+-*/<=&|^" : Str).cps.toList,(#[#v[ch]]:Str)∈signs:=by decide
 show#[ch,hch,all ch Nf]
noncomputable def picks(part:Str)(xs:List Str)(ys:List V):List V:=((xs.zip ys).filter λx=>decide (x.1=part)).map (·.2)
theorem Hv{part x:Str}{ys:List V}(hx:xs[i]?=some x)(hy:ys[i]?=some y):picks part (xs.take (i+1))^ys.take (i+1)=picks part (xs.take i)^ys.take i++if x=part then[y] else[]:=by have h1:i<xs.length:=(e9 hx).1;have h2:i<ys.length:=(e9 hy).1;unfold picks;rw[bT,bT,hx,hy,List.zip_append (by rw[cu,cu];lia),jr,bA];congr 1;by_cases e:x=part;simp[e];simp[e]
def Eb(r:Row):picks "place" r.parts r.rest=r.ways.map V.int:=by cases r<;>rfl
def JS(r:Row):r.rest.length=r.parts.length:=by cases r<;>rfl
def AA(r:Row):r.rest.length<=6:=by cases r<;>simp[Row.rest]
def abA(x:V)(xs:List V):gc (x::xs) (some 1) none=xs:=by
 unfold gc;have e:HT.fz (x::xs).length 0^some 1=1:=by rw[show(some (1:Int))=some ((1:Nat):Int) from rfl,HT.IB];simp
 rw[e,HT.xr];simp
def Ec(T:Txt w K mg)(r:Row):∃p,eG [(.inr "num", .ref T.g8.rL),(.inr "copy", .ref T.g8.rM),(.inr "op", .ref T.g8.rN),(.inr "out", .ref T.g8.rO),(.inr "fork", .ref T.g8.rP),(.inr "look", .ref T.g8.rQ),(.inr "mark", .ref T.g8.rR),(.inr "back", .ref T.g8.rS)] (.inr r.key:Key)=some^V.ref p/\eU K p^r.parts.map V.str:=by cases r;show#[_,rfl,T.g8.DW];show#[_,rfl,T.g8.DX];show#[_,rfl,T.g8.DY];show#[_,rfl,T.g8.DZ];show#[_,rfl,T.g8.D3];show#[_,rfl,T.g8.D4];show#[_,rfl,T.g8.D5];show#[_,rfl,T.g8.D6]
inductive LN(K:az)(vs:List V)(H:Hp)(Q:VK)(_:XK):Prop|mk(a:Addr)(r:Row)(part:Str)(_:vs=[.ref a,.str part])(_:H a=some^.tup r.vals)(_:∀p H',aA H H'->H p=none->H' p=some^.lst^picks part r.parts r.rest->Q (.ref p) H')
theorem kP:T.iV∩(1,LN K):=by
 exists T.iV,zK,#[a,r,part,rfl,ha,q],".<Ô¬H¼-½ÕeÖ>0*­0a®2Pf0Uf1g|021",2,["own", "number"],"own",["part"],[1],["part"],(λ_ _=>rfl),(show(["own", "number", "part"]:List Str).Nodup from by decide +kernel),(show(["own", "number", "part"]:List Str).Nodup from by decide +kernel);let#[pp,hpp,cp]:=Ec T r;lk;show aaY hpp ?_;lk;rename_i t H1 n1;have et:gc r.vals (some 1) none=r.rest:=abA _ _;rw[et] at n1 ⊢;have hlen:=JS r;have hsm:=AA r;show Og (λi zs τ H'=>aA H1 H'/\zs=picks part (r.parts.take i)^r.rest.take i/\∃x y,τ=[x,y,some^.str part]) ?_ ?_ ?_ ?_ ?_;show#[aA.refl _,by simp[picks],_,_,rfl];rintro i zs τ H' hi ⟨sm,rfl,x,y,rfl⟩;show#[eU.sq cp,dJ.of^sm _ _ n1.self,?_];unfold picks;rw[ao];show bg (ju _ _) ?_;rw[List.length_zip,cu];lia;rw[ao];lia
 .rintro i x y p zs τ H' H2 hx hy ⟨sm,rfl,x0,y0,rfl⟩ n2;rw[aV] at hx;let#[x',hx',rfl]:=cG.mp hx;have e:=Hv (part:=part) hx' hy;lk
  .rename_i he;rw[if_pos he] at e;show#[by walk_at "same", e.symm,_,_,rfl]
  .rename_i he;rw[if_neg he,fH] at e;show#[by walk_at "same", e.symm,_,_,rfl]
 .rintro zs τ H' ⟨sm,rfl,x,y,rfl⟩ p H2 n2;show q p H2 (by walk_at "same") (by walk_at "free") ?_;rw[n2.self,ao,hlen,Nat.min_self,bU,<- hlen,bU]
inductive X9(K:az)(vs:List V)(H:Hp)(Q:VK)(_:XK):Prop|mk(a:Addr)(r:Row)(_:vs=[.ref a])(_:H a=some^.tup r.vals)(_:∀p H',aA H H'->H p=none->H' p=some^.lst^r.ways.map V.int->Q (.ref p) H')
def yt:T.rV∩(2,X9 K):=by exists T.rV,Hi,#[a,r,rfl,ha,q],".<:kP -0n",1;lk;show#[a,r, "place", rfl,ha,λp H' sm hp e=>?_];rw[Eb] at e;show q p H' sm hp e
noncomputable def Row.d8(f:Int->Int):Row->Row
 | .num d k v q=>.num d k v (f q)|.copy d k i q=>.copy d k i (f q)|.op d s k i j q=>.op d s k i j (f q)|.out i q=>.out i (f q)|.fork i q p=>.fork i (f q) (f p)|.look i q=>.look i (f q)|.mark q=>.mark (f q)|.back i=>.back i
def Row.LO(f:Int->Int)(r:Row):(r.d8 f).key=r.key:=by cases r<;>rfl
def Row.LP(f:Int->Int)(r:Row):(r.d8 f).rest.length=r.rest.length:=by cases r<;>rfl
def LQ(f:Int->Int)(r:Row):∀(i:Nat)(x:Str)(y:V),r.parts[i]?=some x->r.rest[i]?=some y->(x = "place" /\ ∃z∈r.ways,y=.int z/\(r.d8 f).rest[i]?=some^.int^f z)\/(x ≠ "place" /\ (r.d8 f).rest[i]?=some y):=by
 intro i x y hx hy;cases r<;>rcases i with _|_|_|_|_|_|i<;>erw[Row.parts,Row.rest,A4,jt,List.getElem?_nil,Option.some.injEq,reduceCtorEq] at hx hy
 all_goals subst hx hy
 all_goals first
  | show .inl #[rfl,_,by simp[Row.ways],rfl,rfl]
  | show .inr #[by decide,rfl]
inductive Hw(K:az)(vs:List V)(H:Hp)(Q:VK)(_:XK):Prop|mk(a m:Addr)(r:Row)(us:List V)(f:Int->Int)(_:vs=[.ref a,.ref m])(_:H a=some^.tup r.vals)(_:H m=some^.lst us)(_:(∀z∈r.ways,tH us z=some^.int^f z))(_:∀t H',aA H H'->H' t=some^.tup (r.d8 f).vals->Q (.ref t) H')
theorem BV:T.pA∩(1,Hw K):=by
 exists T.pA,rH,#[a,m,r,us,f,rfl,ha,hm,hf,q],"+×2¬H¼-½ÕeÖ>0*­0a®2Pf0Uf1E[o0V!211.<b¾¿À*¯Z*>02",3,["part", "number"],"part",["moved"],[1],["moved"],(λ_ _=>rfl),(show(["part", "number", "moved"]:List Str).Nodup from by decide +kernel),(show(["part", "number", "moved"]:List Str).Nodup from by decide +kernel),iC (K:=K) rfl;let#[pp,hpp,cp]:=Ec T r;lk;show aaY hpp ?_;lk;rename_i t H3 n3;have et:gc r.vals (some 1) none=r.rest:=abA _ _;rw[et] at n3 ⊢;have hlen:=JS r;have hsm:=AA r;have hml:=Row.LP f r;have hm3:=n3.keep hm;show Og (λi zs τ H'=>aA H3 H'/\zs=(r.d8 f).rest.take i/\∃x y,τ=[x,y,some^.ref m]) ?_ ?_ ?_ ?_ ?_;show#[aA.refl _,rfl,_,_,rfl];rintro i zs τ H' hi ⟨sm,rfl,x,y,rfl⟩;show#[eU.sq cp,dJ.of^sm _ _ n3.self,?_];rw[cu];lia;rw[ao];lia
 .rintro i x y p zs τ H' H4 hx hy ⟨sm,rfl,x0,y0,rfl⟩ n4;rw[aV] at hx;let#[x',hx',rfl]:=cG.mp hx;have hm4:H4 m=some^.lst us:=n4.keep^sm _ _ hm3;rcases LQ f r i x' y hx' hy with⟨rfl,z,hz,rfl,e⟩|⟨hne,e⟩
  .lk;show cZ (bG.of hm4) (hf z hz) ?_;show#[sm.trans n4.same,?_,_,_,rfl];rw[bT,e];rfl
  .lk;show#[sm.trans n4.same,?_,_,_,rfl];rw[bT,e];rfl
 .rintro zs τ H' ⟨sm,rfl,x,y,rfl⟩ p H4 n4;rw[ao,hlen,Nat.min_self,<- hlen,<- hml,bU] at n4;have ha4:H4 a=some^.tup r.vals:=n4.keep^sm _ _^n3.keep ha;lk;rename_i l5 H5 n5 l6 H6 n6 l7 H7 n7;show q _ _ ((((n3.same.trans sm).trans n4.same).trans n5.same).trans^n6.same.trans n7.same) ?_;rw[n7.self];change _=some^HO.tup (.str (r.d8 f).key::(r.d8 f).rest);rw[Row.LO];rfl
noncomputable def Row.pX:Row->List Int
 | .num _ k _ _=>[k]|.copy _ k i _=>[k,i]|.op _ _ k i j _=>[k,i,j]|.out i _=>[i]|.fork i _ _=>[i]|.look i _=>[i]|.mark _=>[]|.back i=>[i]
noncomputable def Row.gH:Row->Bool
 | .num ..=>true|.copy ..=>true|.op ..=>true|_=>false
noncomputable def Row.sd:Row->Int
 | .num d _ _ _=>d|.copy d _ _ _=>d|.op d _ _ _ _ _=>d|_=>2
def AB(r:Row):picks "box" r.parts r.rest=r.pX.map V.int:=by cases r<;>rfl
def qA{n:Int}(h:r.ok n):∀b∈r.pX,0<=b/\b<8:=by cases r<;>erw[Row.ok] at h<;>erw[Row.pX,aG,iQ,or_false]<;>intro b hb;rw[hb];show h.2.1;rcases hb with e|e<;>rw[e];show h.2.1;show h.2.2.1;rcases hb with e|e|e<;>rw[e];show h.2.2.1;show h.2.2.2.1;show h.2.2.2.2.1;rw[hb];show h.1;rw[hb];show h.1;rw[hb];show h.1;show hb.elim;rw[hb];show h
def Te(r:Row):r.pX.length<=3:=by cases r<;>simp[Row.pX]
abbrev cg(H:Hp):List V->List (Int×Int)->Prop:=Paired λv p=>∃a,v=.ref a/\H a=some^.tup [.int p.1,.int p.2]
def cg.same(e:aA H H')(h:cg H vs ps):cg H' vs ps:=dW (λ_ _ ⟨a,h1,h2⟩=>#[a,h1,e _ _ h2]) h
def cg.gp(e:bQ H H')(h:cg H vs ps):cg H' vs ps:=dW (λ_ _ ⟨a,h1,h2⟩=>#[a,h1,e _ _ h2]) h
noncomputable def iD(r:Row)(s:Int):Bool:=!r.gH||decide (r.sd=s)||decide (r.sd=2)
noncomputable def mJ(r:Row)(bs:List Int):List (Int×Int):=[0,1].flatMap λs=>if iD r s then(SN.fT bs).map λb=>(s,b) else[]
def wk(r:Row):uI (.str r.key) [.str "num", .str "copy", .str "op"]=r.gH:=by
 have k:∀x∈(["num", "copy", "op"]:List Str),uI (.str x) [.str "num", .str "copy", .str "op"]=true:=by decide +kernel
 have n:∀x∈(["out", "fork", "look", "mark", "back"]:List Str),uI (.str x) [.str "num", .str "copy", .str "op"]=false:=by decide +kernel
 cases r<;>first|show k _ (by simp[Row.key])|show n _ (by simp[Row.key])
def Tf(h:r.gH=true):tH r.vals 1=some^.int r.sd:=by cases r<;>first|rfl|cases h
def Tg(d s:Int):uI (.int d) [.int s,.int 2]=(decide (d=s)||decide (d=2)):=by erw[uI,kI,List.any_nil,Bool.or_false,R3];rw[show(s==d)=decide (d=s) from by rw[Bool.beq_comm];rfl,show((2:Int)==d)=decide (d=2) from by rw[Bool.beq_comm];rfl]
def Hy(r:Row)(bs:List Int)(h:([0,1]:List Int)[i]?=some s):(([0,1]:List Int).take (i+1)).flatMap (λs=>if iD r s then(SN.fT bs).map λb=>(s,b) else[])=(([0,1]:List Int).take i).flatMap (λs=>if iD r s then(SN.fT bs).map λb=>(s,b) else[])++if iD r s then(SN.fT bs).map λb=>(s,b) else[]:=by rw[bT,h,List.flatMap_append];simp
def ly(ns:List Int):(SN.fT ns).length<=8:=by unfold SN.fT;rw[ao];show bg (ju ..) (by simp)
def gU{F:α->β->Prop}{xs:List α}{ys:List β}{xs':List α}{ys':List β}(h:Paired F xs ys)(h':Paired F xs' ys'):Paired F (xs++xs') (ys++ys'):=by
 induction h with
 | nil=>show h'
 | cons a _ ih=>show .cons a ih
inductive JT(vs:List V)(H:Hp)(Q:VK)(_:XK):Prop|mk(a b:Addr)(r:Row)(bs:List Int)(_:vs=[.ref a,.ref b])(_:H a=some^.tup r.vals)(_:H b=some^.lst^bs.map V.int)(_:(∀n∈bs,0<=n/\n<8))(_:bs.length<=3)(_:∀(l:Addr)(us:List V)(H':Hp),aA H H'->H l=none->H' l=some^.lst us->cg H' us^mJ r bs->Q (.ref l) H')
theorem Ed:T.D7∩(1,JT):=by
 exists T.D7,yl,#[a,b,r,bs,rfl,ha,hb,Rx,hbl,q],"+/2N+DÁeØ?3.@]phÙ>0}vq>0=-3*°.Ii2*OHCwÚ*±Û*1E=-1*0.<2",4,(by with_unfolding_all rfl),(by with_unfolding_all rfl),"box",["side"],[3],["side"];have cd:=T.pU.q;have cs:=T.JQ.q;lk;rename_i fo H1 n1;have VG:=n1.1;have abD:=n1.self;have s1:=n1.same;clear n1;show f_tup (xs:=[.int 0,.int 1]) (λi σ' H'=>∃x us,σ'=[some^.ref a,some^.ref b,some^.ref fo,x]/\aA H H'/\H' fo=some^.lst us/\cg H' us ((([0,1]:List Int).take i).flatMap λs=>if iD r s then(SN.fT bs).map λb=>(s,b) else[])) ?_ ?_ ?_ ?_;show#[none,[],rfl,s1,abD,.nil];rintro i σ' H' _ ⟨x,us,rfl,s',_⟩;show eU.sq cs
 .rintro i x σ' H2 hx ⟨x0,us,rfl,s2,yv,oZ⟩;obtain⟨s,hs,rfl⟩:∃s,([0,1]:List Int)[i]?=some s/\x=.int s:=by
   match i,hx with
   | 0,hx=>cases hx;show#[0,rfl,rfl]
   | 1,hx=>cases hx;show#[1,rfl,rfl]
  have step:=Hy r bs hs;have FN:us.length<=16:=by
   have h1:=oZ.length;rw[h1];have h8:=ly bs
   match i,hs with
   | 0,_=>show aM _
   | 1,_ =>
    change(([0]:List Int).flatMap _).length<=16;rw[List.flatMap_singleton];split;rw[ao];lia;show aM _
  clear abD s1;show afI ?_;show aa8 ?_;intro kt0 kf0 LR LS;have hK:∀H',aA H2 H'->H' fo=some^.lst us->iD r s=true->kt0 H':=λH3 s3 r6 hsd=>by
   show LR _ ?_;clear LR LS;rw[hsd,if_pos rfl] at step;have hb3:=s3 _ _^s2 _ _ hb;have LU:=oZ.same s3;lk;show XD (bG.of hb3) Rx ∅ ?_;intro p4 H4 n4;lk;show Jh n4.self Rx ?_;intro p5 H5 n5;lk;show fM (xs:=(SN.fT bs).map V.int) (λj ys H'=>aA H5 H'/\cg H' ys (((SN.fT bs).take j).map λb=>(s,b))) #[aA.refl _,.nil] ?_ ?_ ?_;rintro j ys H' _ ⟨s',_⟩;show bG.of^s' _ _ n5.self
   .rintro j x ys H6 hx ⟨s6,hys⟩;rw[aV] at hx;let#[y,hy,rfl]:=cG.mp hx;have hyl:=hys.length;rw[ao,cu] at hyl;have h8:=ly bs;show#[bV ∅,?_];lk;rename_i t7 H7 n7;show#[s6.trans n7.same,?_];rw[bT,hy,bA];show dD (hys.same n7.same) #[t7,rfl,n7.self]
   rintro ys H6 ⟨s6,hys⟩ p7 H7 n7;rw[ao,bU] at hys;have hyl:=hys.length;rw[ao] at hyl;have h8:=ly bs;have Yb:=n7.keep^s6 _ _^n5.keep^n4.keep r6;have Yc:=((n4.same.trans n5.same).trans s6).trans n7.same;have agE:=LU.same Yc;have Yd:=hys.same n7.same;have hp7:=n7.self;have npf:fo≠p7:=aP (s6 _ _^n5.keep^n4.keep r6) n7.1;have s07:=(s2.trans s3).trans Yc;clear n4 n5 s6 n7 hys LU r6 hb3 Yc;lk;rename_i H8 p8;have tt:bQ H7 H8:=λb xs e=>p8.keep (iJ e Yb (by intro z;cases z)) e;show#[_,_,rfl,p8.same s07 VG,p8.self,?_];rw[step];show gU (agE.gp tt)^Yd.gp tt
  clear LR;have hN:∀H',aA H2 H'->H' fo=some^.lst us->iD r s=false->kf0 H':=λH3 s3 r6 hsd=>by show LS _ ?_;clear LS;rw[hsd] at step;lk;show#[_,_,rfl,s2.trans s3,r6,?_];rw[step];simpa using oZ.same s3
  clear LS oZ step;have ha2:=s2 _ _ ha;have hdi:=wk r;lk;rw[hdi];cases uO:r.gH with
  | false =>
   erw[Bool.not_false,if_true];show hK H2 (aA.refl _) yv (by unfold iD;rw[uO];rfl)
  | true =>
   erw[gR,cB,if_false];lk;show Af (dJ.of ha2) (Tf uO) ?_;lk;rename_i t4 H4 n4;have esd:uI (.int r.sd) [.int s,.int 2]=iD r s:=by rw[Tg];unfold iD;rw[uO];rfl
   rw[esd];cases hsr:iD r s with
   | true=>rw[if_pos rfl];show hK H4 n4.same (n4.keep yv) hsr
   | false=>rw[if_neg^by decide];show hN H4 n4.same (n4.keep yv) hsr
 .rintro σ' H2 ⟨x0,us,rfl,s2,yv,oZ⟩;lk;show q fo us H2 s2 VG yv oZ
def Row.LV(r:Row):List Int:=if r.gH then r.pX.drop 1 else r.pX
def eE(r:Row):List (Int×Int):=mJ r r.LV
noncomputable def bP(r:Row):List (Int×Int):=if r.gH then mJ r^r.pX.take 1 else[]
def BW:∀b∈r.LV,b∈r.pX:=λb hb=>by unfold Row.LV at hb;split at hb;show List.mem_of_mem_drop hb;show hb
theorem Th(r:Row):r.LV.length<=3:=by have:=Te r;unfold Row.LV;split;rw[wZ];lia;show this
inductive Ti(vs:List V)(H:Hp)(Q:VK)(_:XK):Prop|mk(a:Addr)(r:Row)(n:Int)(_:vs=[.ref a])(_:H a=some^.tup r.vals)(_:r.ok n)(_:∀(l:Addr)(us:List V)(H':Hp),aA H H'->H l=none->H' l=some^.lst us->cg H' us^eE r->Q (.ref l) H')
def Ef:T.reads∩(2,Ti):=by
 exists T.reads,DS,#[a,r,n,rfl,ha,hok,q],"+/1:kP -0n.<:Ed -0*[q>0}`ª1ad1",2,(by with_unfolding_all rfl);have cd:=T.pU.q;have hdi:=wk r;lk;show#[a,r, "box", rfl,ha,λp H1 s1 fp hp=>?_];rw[AB] at hp;have ha1:=s1 _ _ ha;have fin:∀(c:Addr)(H2:Hp),aA H H2->H2 a=some^.tup r.vals->H2 c=some^.lst^r.LV.map V.int->JT [.ref a,.ref c] H2 Q E0:=λc H2 s2 ha2 hc=>#[a,c,r,r.LV,rfl,ha2,hc,λb hb=>qA hok b^BW b hb,Th r,λl us H3 s3 fl hl oZ=>q l us H3 (s2.trans s3) (s2.free fl) hl oZ];lk;rw[hdi];cases uO:r.gH with
 | true =>
  rw[if_pos rfl];lk;rename_i c H2 n2;have ec:gc (r.pX.map V.int) (some 1) none=r.LV.map V.int:=by unfold Row.LV;rw[uO,if_pos rfl];cases r<;>first|rfl|cases uO
  rw[ec] at n2;show fin c H2 (s1.trans n2.same) (n2.keep ha1) n2.self
 | false =>
  rw[if_neg^by decide];lk;show fin p H1 s1 ha1 (by unfold Row.LV;rw[uO];show hp)
inductive Tj(vs:List V)(H:Hp)(Q:VK)(_:XK):Prop|mk(a:Addr)(r:Row)(n:Int)(_:vs=[.ref a])(_:H a=some^.tup r.vals)(_:r.ok n)(_:∀(l:Addr)(us:List V)(H':Hp),aA H H'->H l=none->H' l=some^.lst us->cg H' us^bP r->Q (.ref l) H')
theorem Eg:T.gives∩(2,Tj):=by
 exists T.gives,PR,#[a,r,n,rfl,ha,hok,q],".<[q>0}:Ed -0*`ª:kP -0ndaN",1,(by with_unfolding_all rfl);have cd:=T.pU.q;have hdi:=wk r;lk;rw[hdi];cases uO:r.gH with
 | true =>
  rw[if_pos rfl];lk;show#[a,r, "box", rfl,ha,λp H1 s1 fp hp=>?_];rw[AB] at hp;have ha1:=s1 _ _ ha;lk;rename_i c H2 n2;have ec:gc (r.pX.map V.int) none^some 1=(r.pX.take 1).map V.int:=by cases r<;>rfl
  rw[ec] at n2;show#[a,c,r,r.pX.take 1,rfl,n2.keep ha1,n2.self,λb hb=>qA hok b^List.mem_of_mem_take hb,by rw[cu];lia,λl us H3 s3 fl hl oZ=>q l us H3 ((s1.trans n2.same).trans s3) ((s1.trans n2.same).free fl) hl ?_];unfold bP;rw[uO];show oZ
 | false =>
  rw[if_neg^by decide];lk;rename_i l H1 n1;show q l [] H1 n1.same n1.1 n1.self ?_;unfold bP;rw[uO];show .nil
inductive dg (rs:List Row) (p:Int×Int):Nat->Prop
 | here {k:Nat} {r:Row} (h:rs[k]?=some r) (m:p∈eE r):dg rs p k
 | on {k q:Nat} {r:Row} (h:rs[k]?=some r) (m:p∉bP r) (w:((q:Nat):Int)∈r.ways) (l:dg rs p q):dg rs p k
def dg.lt{rs:List Row}{p:Int×Int}{k:Nat}(h:dg rs p k):k<rs.length:=by
 cases h with
 | here h _=>show(e9 h).1
 | on h _ _ _=>show(e9 h).1
def dg.read{p:Int×Int}(h:dg rs p k):∃r∈rs,p∈eE r:=by
 induction h with
 | here h m=>show#[_,gq h,m]
 | on _ _ _ _ ih=>show ih
def oj{p:Int×Int}{S:Nat->Prop}(h1:∀k r,rs[k]?=some r->p∈eE r->S k)(h2:∀(k q:Nat) r,rs[k]?=some r->p∉bP r->((q:Nat):Int)∈r.ways->S q->S k):∀k,dg rs p k->S k:=by
 intro k h;induction h with
 | here h m=>show h1 _ _ h m
 | on h m w _ ih=>show h2 _ _ _ h m w ih
def isLive(rs:List Row)(k:Nat)(p:Int×Int):Bool:=@decide (dg rs p k)^Classical.propDecidable _
def iW{p:Int×Int}:isLive rs k p=true↔dg rs p k:=by unfold isLive;show @decide_eq_true_iff _^Classical.propDecidable _
noncomputable def dz:List (Int×Int):=[(0,0),(0,1),(0,2),(0,3),(0,4),(0,5),(0,6),(0,7),(1,0),(1,1),(1,2),(1,3),(1,4),(1,5),(1,6),(1,7)]
def kB(rs:List Row)(k:Nat):List (Int×Int):=dz.filter^isLive rs k
def Eh:dz.Pairwise (λp q=>SN.rk p<SN.rk q):=by decide
theorem Ei{p:Int×Int}(h1:p.1=0\/p.1=1)(h2:0<=p.2/\p.2<8):p∈dz:=by let#[a,b]:=p;dsimp only at h1 h2;have hb:b=0\/b=1\/b=2\/b=3\/b=4\/b=5\/b=6\/b=7:=∅;rcases h1 with rfl|rfl<;>rcases hb with rfl|rfl|rfl|rfl|rfl|rfl|rfl|rfl<;>decide
def Ej{bs:List Int}(hb:∀b∈bs,0<=b/\b<8){p:Int×Int}(h:p∈mJ r bs):p∈dz:=by unfold mJ at h;let#[s,hs,h]:=qg.mp h;split at h;let#[b,hb1,rfl]:=aE.mp h;show Ei ?_^hb b^(SN.jK hb b).mp hb1;erw[aG,iQ,or_false] at hs;show hs;show nomatch h
def reads_in{n:Int}(h:r.ok n){p:Int×Int}(hp:p∈eE r):p∈dz:=Ej (λb hb=>qA h b^BW b hb) hp
theorem JU:∀{xs ys:List (Int×Int)},xs.Pairwise (λp q=>SN.rk p<SN.rk q)->ys.Pairwise (λp q=>SN.rk p<SN.rk q)->(∀p,p∈xs↔p∈ys)->xs=ys
 | [],[],_,_,_=>rfl
 | [],y::ys,_,_,h=>absurd ((h y).mpr^by simp) (by simp)
 | x::xs,[],_,_,h=>absurd ((h x).mp^by simp) (by simp)
 | x::xs,y::ys,hx,hy,h=>by
  rw[qh] at hx hy;have e:x=y:=by rcases aG.mp ((h x).mp^by simp) with e|h1;show e;rcases aG.mp ((h y).mpr^by simp) with e|h2;show e.symm;have a1:=hy.1 x h1;have a2:=hx.1 y h2;lia
  subst e;congr 1;show JU hx.2 hy.2 λp=>#[λhp=>?_,λhp=>?_];rcases aG.mp ((h p).mp^by simp[hp]) with e|h1;have:=hx.1 p hp;rw[e] at this;lia;show h1;rcases aG.mp ((h p).mpr^by simp[hp]) with e|h1;have:=hy.1 p hp;rw[e] at this;lia;show h1
def Tn{n:Int}(hok:∀r∈rs,r.ok n){qs:List (Int×Int)}(hup:qs.Pairwise (λp q=>SN.rk p<SN.rk q))(hm:∀p,p∈qs↔∃r∈rs,p∈eE r)(k:Nat):qs.filter^isLive rs k=kB rs k:=by show JU (hup.sublist List.filter_sublist) (Eh.sublist List.filter_sublist) λp=>?_;rw[dS];unfold kB;rw[dS];show#[λ⟨h1,h2⟩=>#[?_,h2],λ⟨h1,h2⟩=>#[(hm p).mpr (iW.mp h2).read,h2]];let#[r,hr,hp]:=(hm p).mp h1;show reads_in (hok r hr) hp
def om(rs:List Row)(k:Nat):(kB rs k).length<=16:=bg (ju _ _) (by decide)
theorem kC{α:Type}[DecidableEq α]:∀{xs ys:List α},xs.Nodup->(∀x∈xs,x∈ys)->xs.length<=ys.length
 | [],_,_,_=>aM _
 | x::xs,ys,h,q=>by rw[jv] at h;have hx:=q x (by simp);have:=kC (ys:=ys.erase x) h.2 λy hy=>(List.mem_erase_of_ne (λ(e:y=x)=>h.1 (by rw[<- e];show hy))).mpr (q y^by simp[hy]);rw[List.length_erase_of_mem hx] at this;have hp:=List.length_pos_of_mem hx;rw[ck];lia
theorem abF{p q:Int×Int}(h:SN.rk p<SN.rk q):p≠q:=λe=>by rw[e] at h;lia
def P5(p:Int×Int):putK (ps.map λp=>(zw p,V.bl true)) (zw p)^.bl true=(if p∈ps then ps else ps++[p]).map λp=>(zw p,V.bl true):=by
 have hany:((ps.map λp=>(zw p,V.bl true)).any λkv=>decide (kv.1=zw p))=decide (p∈ps):=by
  induction ps with
  | nil=>rfl
  | cons x ps ih =>
   rw[bR,kI,ih];by_cases e:x=p;simp[e];have e1:¬zw x=zw p:=λz=>e^SD z;have e2:¬p=x:=λz=>e z.symm;simp[e1,e2]
 unfold putK;rw[hany];by_cases h:p∈ps;rw[if_pos^decide_eq_true h,if_pos h,fJ];show w4 λx _=>?_;change(if zw x=zw p then(zw x,V.bl true) else(zw x,V.bl true))=_;split<;>rfl;rw[if_neg^by simpa using h,if_neg h,bA];rfl
noncomputable def cnt(rs:List Row)(j:Nat):Nat:=(rs.map λr=>r.ways.count (j:Int)).sum
def P6(h:rs[i]?=some r)(j:Nat):cnt (rs.take (i+1)) j=cnt (rs.take i) j+r.ways.count (j:Int):=by unfold cnt;rw[bT,h,bA,List.sum_append];simp
def Led(rs:List Row)(i j:Nat)(x:Int):Prop:=∃k r,k<i/\x=((k:Nat):Int)/\rs[k]?=some r/\((j:Nat):Int)∈r.ways
theorem Led.succ(h:rs[i]?=some r):Led rs (i+1) j x↔Led rs i j x\/(x=((i:Nat):Int)/\((j:Nat):Int)∈r.ways):=by constructor;rintro⟨k,r',h1,h2,h3,h4⟩;by_cases e:k=i;subst e;rw[h] at h3;cases h3;show .inr #[h2,h4];show .inl #[k,r',∅,h2,h3,h4];rintro(⟨k,r',h1,h2,h3,h4⟩|⟨h1,h2⟩);show#[k,r',∅,h2,h3,h4];show#[i,r,∅,h1,h,h2]
def yw(H:Hp)(rs:List Row)(as:List Addr):Prop:=∀(j:Nat) a,as[j]?=some a->∃l:List Int,H a=some^.lst^l.map V.int/\l.length<=2*rs.length/\∀x,x∈l↔Led rs rs.length j x
def abG(H:Hp)(rs:List Row)(as:List Addr):Prop:=∀(j:Nat) a,as[j]?=some a->∃l:List Int,H a=some^.lst^l.map V.int/\l.length=cnt rs j
def yw.same{as:List Addr}(e:aA H H')(h:yw H rs as):yw H' rs as:=λj a ha=>by let#[l,h1,h2]:=h j a ha;show#[l,e _ _ h1,h2]
inductive To(K:az)(vs:List V)(H:Hp)(Q:VK)(_:XK):Prop|mk(p:Addr)(us:List V)(rs:List Row)(_:vs=[.ref p])(_:H p=some^.lst us)(_:Rows H us rs)(_:(∀r∈rs,r.ok rs.length))(_:rs.length<=2000)(_:∀f H' (as:List Addr),aA H H'->H' f=some^.lst^as.map V.ref->as.length=rs.length->yw H' rs as->abG H' rs as->Q (.ref f) H')
theorem ve:T.leading∩(3,To K):=by
 exists T.leading,jX,#[p,us,rs,rfl,hp,hrs,hok,hl,q],"+s1C0EN+Dm*0t2P?2U?3.DC:yt *3?4.IWG14*2.<1",5;have FN:=hrs.length;lk;show fM (xs:=us) (λi ys H'=>aA H H'/\∃as:List Addr,ys=as.map V.ref/\as.length=i/\as.Nodup/\∀a∈as,H a=none/\H' a=some^.lst []) ?_ ?_ ?_ ?_;show#[aA.refl _,[],rfl,rfl,lM,λa h=>nomatch h];rintro i ys H' hi ⟨sm,as,rfl,_⟩;show bG.of^sm _ _ hp
 .rintro i x ys H' hx ⟨sm,as,rfl,ha,hn,hh⟩;have hi:i<us.length:=(e9 hx).1;show#[bV (by rw[ao];lia),?_];lk;rename_i b H2 n2;show#[sm.trans n2.same,as++[b],by simp,by simp[ha],?_,λa h=>?_];rw[f7];show#[hn,by simp,λa h c hc=>?_];rw[ay.mp hc];intro e;rw[e] at h;have:=(hh b h).2;rw[n2.1] at this;cases this;rcases aJ.mp h with h|h;show#[(hh a h).1,n2.keep (hh a h).2];rw[ay.mp h];show#[sm.free n2.1,n2.self]
 rintro ys H1 ⟨sm1,as,rfl,hal,hnd,has⟩ f H2 n2;lk;have agF:f∉as:=λh=>by have:=(has f h).2;rw[n2.1] at this;cases this
 have hHf:H f=none:=sm1.free n2.1;show xN (xs:=us) (λi σ' H'=>aA H H'/\H' f=some^.lst^as.map V.ref/\(∃x y z,σ'=[some^.ref p,some^.ref f,x,y,z])/\∀(j:Nat) a,as[j]?=some a->∃l:List Int,H' a=some^.lst^l.map V.int/\l.length<=2*i/\l.length=cnt (rs.take i) j/\∀x,x∈l↔Led rs i j x) ?_ ?_ ?_ ?_;show#[sm1.trans n2.same,n2.self,#[_,_,_,rfl],λj a h=>#[[],n2.keep (has a^gq h).2,aM _,rfl,λx=>#[λh=>(nomatch h),λzq=>?_]]];let#[k,_,hk,_]:=zq;show absurd hk ∅;rintro i σ' H' hi ⟨sm,_⟩;show bG.of^sm _ _ hp
 .rintro i x t σ' H' H3 hx ⟨sm,hf,⟨x0,y0,z0,rfl⟩,hL⟩ n3;have hi:i<us.length:=(e9 hx).1;let#[r,hr',#[ra,rfl,zL]]:=bu hrs hx;have Tp:H3 ra=some^.tup r.vals:=n3.keep^sm _ _ zL;lk;show#[ra,r,rfl,Tp,λpw H4 s4 hpw e4=>?_];lk;have abH:=Row.ja^hok r^gq hr';have hwl:=Row.ji r;show f_list (xs:=r.ways.map V.int) (λk σ' H'=>aA H H'/\H' pw=some^.lst^r.ways.map V.int/\H' f=some^.lst^as.map V.ref/\(∃z,σ'=[some^.ref p,some^.ref f,some^.int i,some^.ref ra,z]) /\
   ∀(j:Nat) a,as[j]?=some a->∃l:List Int,H' a=some^.lst^l.map V.int/\l.length<=2*i+k/\l.length=cnt (rs.take i) j+(r.ways.take k).count ((j:Nat):Int)/\∀x,x∈l↔Led rs i j x\/(x=((i:Nat):Int)/\((j:Nat):Int)∈r.ways.take k)) ?_ ?_ ?_ ?_
  .show#[(sm.trans n3.same).trans s4,e4,s4 _ _^n3.keep hf,#[_,rfl],λj a h=>?_];let#[l,e,hl,hc,hm]:=hL j a h;show#[l,s4 _ _^n3.keep e,∅,by rw[hc];rfl,λx=>by rw[hm x];simp]
  .rintro k σ' H' hk ⟨_,e,_⟩;show bG.of e
  .rintro k x σ' H5 hx ⟨sm5,hw5,P7,⟨z1,rfl⟩,hL5⟩;have hk:k<(r.ways.map V.int).length:=(e9 hx).1;rw[ao] at hk;rw[aV] at hx;let#[y,hy,rfl]:=cG.mp hx;have hyb:=abH y^gq hy;have ey:y=((y.toNat:Nat):Int):=∅;have hj:y.toNat<as.length:=∅;have Hz:as[y.toNat]?=some as[y.toNat]:=by simp[hj]
   generalize as[y.toNat]'hj=a at Hz;let#[l,el,VH,hlc,hm]:=hL5 _ a Hz;lk;show cZ (bG.of P7) (v:=.ref a) (by rw[ey];show fR (by rw[aV,Hz];rfl)) ?_;have hml:(l.map V.int).length=l.length:=ao _;lk;rename_i H6 n6;have agH:pw≠a:=λe=>by rw[e] at hpw;have h2:H3 a=none:=hpw;let#[l',e',_]:=hL _ a Hz;rw[n3.keep e'] at h2;cases h2
   have hfa:f≠a:=λe=>agF (e▸gq Hz);show#[n6.same sm5 (has a^gq Hz).1,n6.keep agH hw5,n6.keep hfa P7,#[_,rfl],λj b hb=>?_];rw[bT,hy];by_cases e:j=y.toNat;subst e;rw[Hz] at hb;cases hb;show#[l++[((i:Nat):Int)],by rw[bA];show n6.self,by rw[aF];simp;lia,?_,λx=>?_];rw[aF,List.count_append,hlc,<- ey];simp;lia;rw[aJ,hm x,ay,aJ,<- ey];erw[oX,ay,or_true,and_true];constructor;rintro((h|h)|h);show .inl h;show .inr h.1;show .inr h;rintro(h|h);show .inl^.inl h;show .inr h
   .let#[l',e',hl',agJ,hm']:=hL5 j b hb;have hba:b≠a:=λeb=>by subst eb;show e^lu hnd hb Hz
    show#[l',n6.keep hba e',∅,?_,λx=>?_];have hne:¬y=((j:Nat):Int):=∅;rw[List.count_append,agJ];simp[hne];have hne:¬((j:Nat):Int)=y:=∅;rw[hm' x,aJ];erw[oX,ay,hne,or_false]
  .rintro σ' H5 ⟨sm5,hw5,P7,⟨z1,rfl⟩,hL5⟩;show#[sm5,P7,#[_,_,_,rfl],λj a h=>?_];let#[l,e,hl,hc,hm]:=hL5 j a h;rw[ao] at hl hc;rw[bU] at hc;show#[l,e,∅,by rw[hc,P6 hr'],λx=>?_];rw[hm x,Led.succ hr',ao,bU]
 .rintro σ' H' ⟨sm,hf,⟨x0,y0,z0,rfl⟩,hL⟩;lk;show q f H' as sm hf ∅ (λj a h=>?_) λj a h=>?_;let#[l,e,hl,_,hm]:=hL j a h;rw[FN] at hl hm;show#[l,e,hl,hm];let#[l,e,_,hc,_]:=hL j a h;rw[FN,bU] at hc;show#[l,e,hc]
inductive Ye(K:az)(vs:List V)(H:Hp)(Q:VK)(_:XK):Prop|mk(p:Addr)(us:List V)(rs:List Row)(_:vs=[.ref p])(_:H p=some^.lst us)(_:Rows H us rs)(_:(∀r∈rs,r.ok rs.length))(_:rs.length<=2000)(_:∀f H' (as:List Addr),aA H H'->H' f=some^.lst^as.map V.ref->as.length=rs.length->yw H' rs as->Q (.ref f) H')
def HA(T:Txt w K mg):cA P w K mg base ir 3 T.leading.f T.leading.d ["code"] (Ye K) :=
 (ve T).imp λvs H Q E h=>by let#[p,us,rs,h1,h2,h3,h4,h5,q]:=h;show#[p,us,rs,h1,h2,h3,h4,h5,λf H' as a b c d _=>q f H' as a b c d]
abbrev oq(H:Hp):List V->List^List (Int×Int)->Prop:=Paired λv ps=>∃a us,v=.ref a/\H a=some^.lst us/\cg H us ps
theorem oq.same{Ry:List^List (Int×Int)}(e:aA H H')(h:oq H vs Ry):oq H' vs Ry:=dW (λ_ _ ⟨a,us,h1,h2,h3⟩=>#[a,us,h1,e _ _ h2,h3.same e]) h
inductive Yg(vs:List V)(H:Hp)(Q:VK)(_:XK):Prop|mk(p:Addr)(zs:List V)(Ry:List^List (Int×Int))(_:vs=[.ref p])(_:H p=some^.lst zs)(_:oq H zs Ry)(_:(∀ps∈Ry,∀q∈ps,q∈dz))(_:∀(l:Addr)(us:List V)(qs:List (Int×Int))(H':Hp),aA H H'->H l=none->H' l=some^.lst us->cg H' us qs->qs.Pairwise (λp q=>SN.rk p<SN.rk q)->(∀q,q∈qs↔∃ps∈Ry,q∈ps)->Q (.ref l) H')
theorem BX:T.pB∩(1,Yg):=by
 exists T.pB,jC,#[p,zs,Ry,rfl,hp,hzs,hin,q],"+/1'NS +DC0?2.DC2?3.~K13.<w!*1",4,GH rfl;lk;rename_i d H1 n1;have fd:=n1.1;have s1:=n1.same;have hd1:=n1.self;clear n1;show f_list (xs:=zs) (λi σ' H'=>(∃x y,σ'=[some^.ref p,some^.ref d,x,y])/\aA H H'/\∃ps:List (Int×Int),H' d=some^.dT (ps.map λp=>(zw p,V.bl true))/\ps.Nodup/\(∀q∈ps,q∈dz)/\∀q,q∈ps↔∃qs∈Ry.take i,q∈qs) ?_ ?_ ?_ ?_;show#[#[_,_,rfl],s1,[],hd1,lM,(λq h=>nomatch h),λq=>by simp];rintro i σ' H' _ ⟨_,s',_⟩;show bG.of^s' _ _ hp
 .rintro i x σ' H2 hx ⟨⟨x0,y0,rfl⟩,s2,ps,hd2,nd,hall,hmem⟩;let#[qs,Zo,a,us,rfl,ha,oZ]:=bu hzs hx;have ha2:=s2 _ _ ha;have abI:=oZ.same s2;have hqa:=hin qs^gq Zo;lk;show f_list (xs:=us) (λj σ' H'=>(∃y,σ'=[some^.ref p,some^.ref d,some^.ref a,y])/\aA H H'/\∃ps:List (Int×Int),H' d=some^.dT (ps.map λp=>(zw p,V.bl true))/\ps.Nodup/\(∀q∈ps,q∈dz)/\∀q,q∈ps↔(∃qs∈Ry.take i,q∈qs)\/q∈qs.take j) ?_ ?_ ?_ ?_;show#[#[_,rfl],s2,ps,hd2,nd,hall,λq=>by rw[hmem q];simp];rintro j σ' H' _ ⟨_,s',_⟩;show bG.of^s' _ _ ha
  .rintro j x σ' H3 hx ⟨⟨y0,rfl⟩,s3,ps,vI,nd,hall,hmem⟩;let#[t,htj,b,rfl,hb]:=bu oZ hx;have hb3:=s3 _ _ hb;have hpl:ps.length<=16:=kC nd hall;lk;show abi (k:=zw t) vI hb3 (by rw[ao];lia) ?_;intro H4 p4;rw[P5] at p4;lk;show#[#[_,rfl],p4.same s3 fd,_,p4.self,?_,?_,λq=>?_];by_cases h:t∈ps;rw[if_pos h];show nd;rw[if_neg h,f7];show#[nd,by simp,λx hx y hy e=>h (by rw[<- ay.mp hy,<- e];show hx)]
   .intro q hq;by_cases h:t∈ps;rw[if_pos h] at hq;show hall q hq
    .rw[if_neg h] at hq;rcases aJ.mp hq with hq|hq;show hall q hq;rw[ay.mp hq];show hqa t^gq htj
   .rw[bT,htj,aJ];erw[oX,ay];by_cases h:t∈ps;rw[if_pos h,hmem q];constructor;rintro(h1|h1);show .inl h1;show .inr^.inl h1;rintro(h1|h1|h1);show .inl h1;show .inr h1;rw[h1];show(hmem t).mp h;rw[if_neg h,aJ,hmem q,ay,or_assoc]
  .rintro σ' H3 ⟨⟨y0,rfl⟩,s3,ps,vI,nd,hall,hmem⟩;show#[#[_,_,rfl],s3,ps,vI,nd,hall,λq=>?_];rw[hmem q,oZ.length,bU,bT,Zo];erw[aJ,oX,ay];constructor;rintro(⟨qs',h1,h2⟩|h1);show#[qs',.inl h1,h2];show#[qs,.inr rfl,h1];rintro⟨qs',h1|h1,h2⟩;show .inl #[qs',h1,h2];subst h1;show .inr h2
 .rintro σ' H2 ⟨⟨x0,y0,rfl⟩,s2,ps,hd2,nd,hall,hmem⟩;have hpl:ps.length<=16:=kC nd hall;lk;show SE (f:=λ_=>.bl true) hd2 (λq hq=>?_) ∅ λl us qs H3 n3 oZ Jf hup=>?_
  .have all:∀q∈dz,0<=q.2/\q.2<1000:=by decide
   show all q^hall q hq
  .show q l us qs H3 (s2.trans n3.same) (s2.free n3.1) n3.self (cg.same n3.same oZ) hup λq=>?_;rw[Jf.mem_iff,hmem q,hzs.length,bU]
def yx(x:Int):∀ss:List Int,(eG (ss.map λk=>((.inl k:Key),V.bl true))^.inl x).isSome=decide (x∈ss):=λss=>by
 rw[<- jU];induction ss with
 | nil=>rfl
 | cons y ss ih =>
  rw[bR,kI,ih];by_cases e:y=x;simp[e];have e1:¬(Sum.inl y:Key)=Sum.inl x:=λz=>e^Sum.inl.inj z;have e2:¬x=y:=λz=>e z.symm;simp[e1,e2]
def P8(h:x∉ss):putK (ss.map λk=>((.inl k:Key),V.bl true)) (.inl x)^.bl true=(ss++[x]).map λk=>((.inl k:Key),V.bl true):=by unfold putK;rw[jU,yx,decide_eq_false h,if_neg^by decide,bA];rfl
structure Apart (H5:Hp) (f l cm sn:Addr) (as:List Addr):Prop where
 c5:H5 cm=none
 n5:H5 sn=none
 a5:∀a∈as,H5 a=none
 fc:f≠cm
 fs:f≠sn
 lc:l≠cm
 ls:l≠sn
 cs:cm≠sn
 ca:cm∉as
 sa:sn∉as
 fa:f∉as
 la:l∉as
 nd:as.Nodup
structure CK (H5 H6:Hp) (f l cm sn:Addr) (as:List Addr) (us:List V) (cs ss:List Int) (g:Nat->List (Int×Int)) (H:Hp):Prop where
 s5:aA H5 H
 t6:bQ H6 H
 hf:H f=some^.lst^as.map V.ref
 hl:H l=some^.lst us
 hc:H cm=some^.lst^cs.map V.int
 hs:H sn=some^.dK (ss.map λk=>(.inl k,.bl true))
 ha:∀(k:Nat) a,as[k]?=some a->∃vs,H a=some^.lst vs/\cg H vs^g k
section
variable {H5 H6:Hp}{cm sn:Addr}{as:List Addr}{us:List V}{cs':List Int}{g g':Nat->List (Int×Int)}
def CK.new{p:Addr}(x:CK H5 H6 f l cm sn as us cs ss g H)(n:fV H p o H'):CK H5 H6 f l cm sn as us cs ss g H' :=
 #[x.s5.trans n.same,x.t6.trans^sT n.same,n.keep x.hf,n.keep x.hl,n.keep x.hc,n.keep x.hs,λk a e=>let⟨vs,h1,h2⟩:=x.ha k a e;#[vs,n.keep h1,h2.same n.same]]
theorem CK.same(x:CK H5 H6 f l cm sn as us cs ss g H)(n:aA H H'):CK H5 H6 f l cm sn as us cs ss g H' :=
 #[x.s5.trans n,x.t6.trans^sT n,n _ _ x.hf,n _ _ x.hl,n _ _ x.hc,n _ _ x.hs,λk a e=>let⟨vs,h1,h2⟩:=x.ha k a e;#[vs,n _ _ h1,h2.same n]]
def CK.abJ(A:Apart H5 f l cm sn as)(x:CK H5 H6 f l cm sn as us cs ss g H)(p:tR H cm (.lst^cs'.map V.int) H'):CK H5 H6 f l cm sn as us cs' ss g H':=by have tt:bQ H H':=λb xs e=>p.keep (iJ e x.hc (by intro z;cases z)) e;show#[p.same x.s5 A.c5,x.t6.trans tt,p.keep A.fc x.hf,p.keep A.lc x.hl,p.self,p.keep A.cs.symm x.hs,λk a e=>let⟨vs,h1,h2⟩:=x.ha k a e;#[vs,p.keep (λz=>A.ca (by rw[<- z];show gq e)) h1,h2.gp tt]]
def CK.agL(A:Apart H5 f l cm sn as){ss':List Int}(x:CK H5 H6 f l cm sn as us cs ss g H)(p:tR H sn (.dK (ss'.map λk=>(.inl k,.bl true))) H'):CK H5 H6 f l cm sn as us cs ss' g H':=by have tt:bQ H H':=λb xs e=>p.keep (iJ e x.hs (by intro z;cases z)) e;show#[p.same x.s5 A.n5,x.t6.trans tt,p.keep A.fs x.hf,p.keep A.ls x.hl,p.keep A.cs x.hc,p.self,λk a e=>let⟨vs,h1,h2⟩:=x.ha k a e;#[vs,p.keep (λz=>A.sa (by rw[<- z];show gq e)) h1,h2.gp tt]]
def CK.agM(A:Apart H5 f l cm sn as){aj:Addr}{vj:List V}(x:CK H5 H6 f l cm sn as us cs ss g H)(hj:as[j]?=some aj){w:List V}(hold:H aj=some^.lst w)(p:tR H aj (.lst vj) H')(hv:cg H vj^g' j)(hg:∀k,k≠j->k<as.length->g' k=g k):CK H5 H6 f l cm sn as us cs ss g' H':=by have mj:=gq hj;have tt:bQ H H':=λb xs e=>p.keep (iJ e hold (by intro z;cases z)) e;show#[p.same x.s5^A.a5 aj mj,x.t6.trans tt,p.keep (λz=>A.fa (by rw[z];show mj)) x.hf,p.keep (λz=>A.la (by rw[z];show mj)) x.hl,p.keep (λz=>A.ca (by rw[z];show mj)) x.hc,p.keep (λz=>A.sa (by rw[z];show mj)) x.hs,λk a e=>?_];by_cases ek:k=j;subst ek;rw[hj] at e;cases e;show#[vj,p.self,hv.gp tt];let#[vs,h1,h2]:=x.ha k a e;show#[vs,p.keep (λz=>ek^lu A.nd e (by rw[z];show hj)) h1,?_];rw[hg k ek (e9 e).1];show h2.gp tt
end
structure JV (rs:List Row) (t:Int×Int) (cs ss:List Int):Prop where
 c1:∀x∈cs,∃k:Nat,x=((k:Nat):Int)/\dg rs t k
 s1:∀x∈ss,∃k:Nat,x=((k:Nat):Int)/\dg rs t k
 nd:ss.Nodup
 rd:∀(k:Nat) r,rs[k]?=some r->t∈eE r->((k:Nat):Int)∈ss\/((k:Nat):Int)∈cs
 cl:∀(k q:Nat) r,rs[k]?=some r->t∉bP r->((q:Nat):Int)∈r.ways->((q:Nat):Int)∈ss->((k:Nat):Int)∈ss\/((k:Nat):Int)∈cs
 ln:cs.length<=rs.length+ss.length*(2*rs.length)
section
variable {rs:List Row}{t:Int×Int}
def LW(nd:ss.Nodup)(h:∀x∈ss,∃k:Nat,x=((k:Nat):Int)/\k<n):ss.length<=n:=by
 have:=kC nd (ys:=(List.range n).map λk:Nat=>(k:Int)) λx hx=>by let#[k,rfl,hk]:=h x hx;show aE.mpr #[k,f6.mpr hk,rfl]
 rw[ao,lK] at this;show this
def JV.few(d:JV rs t cs ss):ss.length<=rs.length:=LW d.nd λx hx=>by let#[k,e,h]:=d.s1 x hx;show#[k,e,h.lt]
theorem JV.short(d:JV rs t cs ss)(h:rs.length<=2000):cs.length<=8100000:=by have h1:=d.few;have h2:=d.ln;have h3:ss.length*(2*rs.length)<=2000*4000:=Nat.mul_le_mul ∅ ∅;lia
theorem JV.skip(d:JV rs t (cs++[x]) ss)(h:x∈ss):JV rs t cs ss where
 c1:=λy hy=>d.c1 y (by simp[hy])
 s1:=d.s1
 nd:=d.nd
 rd:=λk r h1 h2=>by rcases d.rd k r h1 h2 with a|a;show .inl a;rcases aJ.mp a with a|a;show .inr a;rw[ay.mp a];show .inl h
 cl:=λk q r h1 h2 h3 h4=>by rcases d.cl k q r h1 h2 h3 h4 with a|a;show .inl a;rcases aJ.mp a with a|a;show .inr a;rw[ay.mp a];show .inl h
 ln:=by have:=d.ln;rw[aF] at this;simp at this;lia
theorem JV.step{x:Int}{es:List Int}(d:JV rs t (cs++[x]) ss)(h:x∉ss)(h1:∀y,y∈es↔∃(k j:Nat)(r:Row),y=((k:Nat):Int)/\x=((j:Nat):Int)/\rs[k]?=some r/\((j:Nat):Int)∈r.ways/\t∉bP r)(h2:es.length<=2*rs.length):JV rs t (cs++es) (ss++[x]) where
 c1:=λy hy=>by rcases aJ.mp hy with a|a;show d.c1 y (by simp[a]);let#[k,j,r,rfl,ej,hr,hw,hg]:=(h1 y).mp a;let#[j',ej',hj]:=d.c1 x (by simp);have e:j=j':=∅;subst e;show#[k,rfl,.on hr hg hw hj]
 s1:=λy hy=>by rcases aJ.mp hy with a|a;show d.s1 y a;rw[ay.mp a];show d.c1 x (by simp)
 nd:=by rw[f7];show#[d.nd,by simp,λa ha b hb e=>h (by rw[<- ay.mp hb,<- e];show ha)]
 rd:=λk r a b=>by rcases d.rd k r a b with c|c;show .inl (by simp[c]);rcases aJ.mp c with c|c;show .inr (by simp[c]);show .inl (by simp[ay.mp c])
 cl:=λk q r a b c e=>by rcases aJ.mp e with e|e;rcases d.cl k q r a b c e with z|z;show .inl (by simp[z]);rcases aJ.mp z with z|z;show .inr (by simp[z]);show .inl (by simp[ay.mp z]);have e:=ay.mp e;show .inr^aJ.mpr^.inr^(h1 _).mpr #[k,q,r,rfl,e.symm,a,c,b]
 ln:=by have:=d.ln;rw[aF] at this;erw[aF,gF] at this ⊢;rw[Nat.add_mul];lia
theorem JV.done(d:JV rs t [] ss)(k:Nat):((k:Nat):Int)∈ss↔dg rs t k:=by
 constructor;intro h;let#[j,e,hj]:=d.s1 _ h;have:k=j:=∅;rw[this];show hj
 .intro h;show oj (S:=λk=>((k:Nat):Int)∈ss) (λk r a b=>?_) (λk q r a b c e=>?_) k h;rcases d.rd k r a b with z|z;show z;show nomatch z;rcases d.cl k q r a b c e with z|z;show z;show nomatch z
noncomputable def msr(n s c:Nat):Nat:=(n-s)*(2*n+1)+c
theorem Yh{s c e:Nat}(hs:s<n)(he:e<=2*n):msr n (s+1) (c+e)<msr n s (c+1):=by unfold msr;obtain⟨d,hd⟩:∃d,n-s=d+1:=#[n-s-1,∅];have h2:n-(s+1)=d:=∅;rw[hd,h2,Nat.add_mul];lia
def LX{qs:List (Int×Int)}(hi:qs[i]?=some t)(h:((k:Nat):Int)∈ss↔dg rs t k):(qs.take (i+1)).filter^isLive rs k=(qs.take i).filter^isLive rs k++if((k:Nat):Int)∈ss then[t] else[]:=by rw[bT,hi,jr];congr 1;change[t].filter^isLive rs k=_;by_cases e:dg rs t k;rw[if_pos^h.mpr e,wU^iW.mpr e];rfl;rw[if_neg (λz=>e^h.mp z),wR (λz=>e^iW.mp z)];rfl
end
def AD(H:Hp)(as:List Addr)(rs:List Row):Prop:=∀(k:Nat) a,as[k]?=some a->∃us,H a=some^.lst us/\cg H us^kB rs k
theorem oq.at{H:Hp}{vs:List V}{rs:List Row}{f:Row->List (Int×Int)}(h:oq H vs^rs.map f){k:Nat}{r:Row}(e:rs[k]?=some r):∃a us,vs[k]?=some^.ref a/\H a=some^.lst us/\cg H us^f r:=by
 have hl:=h.length;rw[ao] at hl;have hk:k<vs.length:=by rw[hl];show(e9 e).1
 have hv:vs[k]?=some vs[k]:=fh hk;let#[ps,h1,a,us,h2,h3,h4]:=bu h hv;rw[aV,e] at h1;cases h1;show#[a,us,by rw[hv,h2],h3,h4]
inductive Yi(vs:List V)(H:Hp)(Q:VK)(_:XK):Prop|mk(p:Addr)(us:List V)(rs:List Row)(_:vs=[.ref p])(_:H p=some^.lst us)(_:Rows H us rs)(_:(∀r∈rs,r.ok rs.length))(_:rs.length<=2000)(_:∀(f:Addr)(as:List Addr)(H':Hp),aA H H'->H f=none->H' f=some^.lst^as.map V.ref->as.length=rs.length->as.Nodup->(∀a∈as,H a=none)->f∉as->AD H' as rs->Q (.ref f) H')
set_option maxHeartbeats 40000000 in
theorem JW:T.live∩(4,Yi):=by
 exists T.live,jB,#[p,us,rs,rfl,hp,hrs,hok,hn,q],"+s1C0E:Ef *0+/2«C0E:Eg *0+/3:HA *0+s4C0EN+DC:BX *1?5+×6¬Hm*1®2Pf0Uf1gh!210+/7Â.¡¢6+/8²6.@ÃòK87+~K78+IWG48*5.Ii6*OHCG38gh!2V!100.<4",9,["place", "some"],"place",["spot"],[5],["spot"],(show(["place", "some", "spot"]:List Str).Nodup from by decide +kernel),(show(["place", "some", "spot"]:List Str).Nodup from by decide +kernel),Jo (K:=K) rfl hr.units,(by with_unfolding_all rfl),(λ_=>rfl),"other",["giving", "spot"],[2,5],["spot", "giving"],GG (K:=K) rfl hr.units,iC (K:=K) rfl,(by with_unfolding_all rfl);have FN:=hrs.length;lk;show fM (xs:=us) (λi ys H'=>aA H H'/\oq H' ys^(rs.take i).map eE) #[aA.refl _,.nil] ?_ ?_ ?_;rintro i ys H' _ ⟨s',_⟩;show bG.of^s' _ _ hp
 .rintro i x ys H1 hx ⟨s1,hys⟩;let#[r,Tq,a,rfl,ha]:=bu hrs hx;have hyl:=hys.length;rw[ao,cu] at hyl;show#[bV ∅,?_];lk;show#[a,r,rs.length,rfl,s1 _ _ ha,hok r^gq Tq,λl ws H2 s2 _ hl hws=>#[s1.trans s2,?_]];rw[bT,Tq,bA];show dD (hys.same s2) #[l,ws,rfl,hl,hws]
 rintro rzs H1 ⟨s1,hrz⟩ rd H2 n2;rw[FN,bU] at hrz;have abM:=n2.self;have abN:=hrz.same n2.same;have s2:=s1.trans n2.same;clear n2 s1 hrz;have hp2:=s2 _ _ hp;have P9:=hrs.same s2;lk;show fM (xs:=us) (λi ys H'=>aA H2 H'/\oq H' ys^(rs.take i).map bP) #[aA.refl _,.nil] ?_ ?_ ?_;rintro i ys H' _ ⟨s',_⟩;show bG.of^s' _ _ hp2
 .rintro i x ys H3 hx ⟨s3,hys⟩;let#[r,Tq,a,rfl,ha]:=bu P9 hx;have hyl:=hys.length;rw[ao,cu] at hyl;show#[bV ∅,?_];lk;show#[a,r,rs.length,rfl,s3 _ _ ha,hok r^gq Tq,λl ws H4 s4 _ hl hws=>#[s3.trans s4,?_]];rw[bT,Tq,bA];show dD (hys.same s4) #[l,ws,rfl,hl,hws]
 rintro gzs H3 ⟨s3,hgz⟩ gv H4 n4;rw[FN,bU] at hgz;have abO:=n4.self;have abP:=hgz.same n4.same;have Zp:=s3.trans n4.same;clear n4 s3 hgz;have hp4:=Zp _ _ hp2;have Qa:=P9.same Zp;have abQ:=Zp _ _ abM;have abR:=abN.same Zp;have s4:=s2.trans Zp;clear Zp hp2 P9 abM abN s2;lk;show#[p,us,rs,rfl,hp4,Qa,hok,∅,λah H5 als Yj Yk hal agP=>?_];have hp5:=Yj _ _ hp4;have abS:=Yj _ _ abQ;have abT:=abR.same Yj;have agQ:=Yj _ _ abO;have agR:=abP.same Yj;have s5:=s4.trans Yj;clear Yj hp4 Qa abQ abR abO abP s4;lk;show fM (xs:=us) (λi ys H'=>aA H5 H'/\∃as:List Addr,ys=as.map V.ref/\as.length=i/\as.Nodup/\∀a∈as,H5 a=none/\H' a=some^.lst []) #[aA.refl _,[],rfl,rfl,lM,λa h=>nomatch h] ?_ ?_ ?_;rintro i ys H' _ ⟨s',_⟩;show bG.of^s' _ _ hp5
 .rintro i x ys H6 hx ⟨s6,as,rfl,ha,nd,hh⟩;have hi:i<us.length:=(e9 hx).1;show#[bV (by rw[ao];lia),?_];lk;rename_i b H7 n7;show#[s6.trans n7.same,as++[b],by simp,by simp[ha],?_,λa h=>?_];rw[f7];show#[nd,by simp,λa h c hc e=>?_];rw[ay.mp hc] at e;subst e;have:=(hh a h).2;rw[n7.1] at this;cases this;rcases aJ.mp h with h|h;show#[(hh a h).1,n7.keep (hh a h).2];rw[ay.mp h];show#[s6.free n7.1,n7.self]
 rintro ys H6 ⟨VI,as,rfl,Dr,nd,has⟩ f H7 n7;have Rw:=n7.self;have f5:H5 f=none:=VI.free n7.1;have fa:f∉as:=λh=>by have:=(has f h).2;rw[n7.1] at this;cases this
 have Tr:∀a∈as,H5 a=none/\H7 a=some^.lst []:=λa h=>#[(has a h).1,n7.keep (has a h).2];have s57:=VI.trans n7.same;clear n7 VI has;have Tt:=s57 _ _ abS;have abU:=abT.same s57;lk;show#[rd,rzs,rs.map eE,rfl,Tt,abU,?_,λl ws qs H8 s78 fl hl8 abV hup hmem=>?_];intro ps hps t ht;let#[r,hr,rfl]:=aE.mp hps;show reads_in (hok r hr) ht;have VJ:=s78 _ _ Rw;have s58:=s57.trans s78;have la:l∉as:=λh=>by have:=(Tr l h).2;rw[fl] at this;cases this
 have lf:l≠f:=λe=>by rw[e,Rw] at fl;cases fl
 have hql:qs.length<=16:=kC (hup.imp λh=>abF h) (ys:=dz) λt ht=>by let#[ps,hps,hq]:=(hmem t).mp ht;let#[r,hr,rfl]:=aE.mp hps;show reads_in (hok r hr) hq
 have Yl:∀a∈as,H5 a=none/\H8 a=some^.lst []:=λa h=>#[(Tr a h).1,s78 _ _ (Tr a h).2];clear s78 Rw Tt abU Tr fl s57;lk;show f_list (xs:=ws) (λi σ' H'=>(∃x y z u,σ'=[some^.ref p,some^.ref rd,some^.ref gv,some^.ref ah,some^.ref f,x,y,z,u])/\aA H5 H'/\bQ H8 H'/\H' f=some^.lst^as.map V.ref/\H' l=some^.lst ws/\∀(k:Nat) a,as[k]?=some a->∃vs,H' a=some^.lst vs/\cg H' vs^(qs.take i).filter^isLive rs k) ?_ ?_ ?_ ?_;show#[#[_,_,_,_,rfl],s58,bQ.refl _,VJ,hl8,λk a e=>#[[],(Yl a^gq e).2,.nil]];rintro i σ' H' _ ⟨_,_,_,_,h,_⟩;show bG.of h
 .rintro i x σ' H9 hx ⟨⟨x5,x6,x7,x8,rfl⟩,s9,t9,Rz,LY,Ym⟩;let#[t,hti,b,rfl,Rx]:=bu abV hx;have hb9:=t9 _ _ Rx;have Qc:=s9 _ _ abS;have Yn:=abT.same s9;lk;have hrl:=Yn.length;rw[ao] at hrl;show IY (λj zs τ H'=>aA H9 H'/\(∃ns:List Int,zs=ns.map V.int/\ns.length<=j/\∀y,y∈ns↔∃(k:Nat)(r:Row),k<j/\y=((k:Nat):Int)/\rs[k]?=some r/\t∈eE r)/\∃x y,τ=[x,y,some^.ref b]) ?_ ?_ ?_ ?_ ?_;show#[aA.refl _,#[[],rfl,aM _,λy=>#[λh=>(nomatch h),λzq=>?_]],_,_,rfl];let#[k,_,h,_]:=zq;show absurd h ∅;rintro j zs τ H' _ ⟨s',⟨ns,rfl,hl,_⟩,_⟩;show#[bG.of^s' _ _ Qc,by rw[ao];show hl];lia
  .rintro j x pp zs τ BY JX hx ⟨nC,⟨ns,rfl,hnl,hns⟩,x0,y0,rfl⟩ qB;let#[ps,hps,a,vs,rfl,ha,hvs]:=bu Yn hx;rw[aV] at hps;let#[r,hrj,rfl]:=cG.mp hps;have RA:=nC.trans qB.same;have agS:=RA _ _ ha;have JY:=hvs.same RA;have agT:=RA _ _ hb9;have hpp:=qB.self;clear qB nC;lk;show Jp agT (bG.of agS) JY ?_;have split:∀y,(∃(k:Nat)(r:Row),k<j+1/\y=((k:Nat):Int)/\rs[k]?=some r/\t∈eE r)↔(∃(k:Nat)(r:Row),k<j/\y=((k:Nat):Int)/\rs[k]?=some r/\t∈eE r)\/(y=((j:Nat):Int)/\t∈eE r):=λy=>by constructor;rintro⟨k,r',h1,h2,h3,h4⟩;by_cases e:k=j;subst e;rw[hrj] at h3;cases h3;show .inr #[h2,h4];show .inl #[k,r',∅,h2,h3,h4];rintro(⟨k,r',h1,h2,h3,h4⟩|⟨h1,h2⟩);show#[k,r',∅,h2,h3,h4];show#[j,r,∅,h1,hrj,h2]
   by_cases hm:t∈eE r
   .rw[decide_eq_true hm];lk;show#[RA,#[ns++[((j:Nat):Int)],by simp,by simp;lia,λy=>?_],_,_,rfl];rw[aJ,hns y,ay,split y];erw[hm,and_true]
   .rw[decide_eq_false hm];lk;show#[RA,#[ns,rfl,∅,λy=>?_],_,_,rfl];rw[hns y,split y];erw[hm,and_false,or_false]
  rintro zs τ BY ⟨nC,⟨ns,rfl,hnl,hns⟩,x0,y0,rfl⟩ cm JX qB;rw[hrl] at hnl hns;lk;rename_i sn Yo HB;have LZ:∀(k:Nat) a,as[k]?=some a->∃vs,Yo a=some^.lst vs/\cg Yo vs^(qs.take i).filter^isLive rs k/\BY a=some^.lst vs/\JX a=some^.lst vs:=λk a e=>by let#[vs,h1,h2]:=Ym k a e;show#[vs,HB.keep^qB.keep^nC _ _ h1,h2.same^(nC.trans qB.same).trans HB.same,nC _ _ h1,qB.keep^nC _ _ h1]
  have s12:=(nC.trans qB.same).trans HB.same;have AP:Apart H5 f l cm sn as:=by
   have inn:∀a∈as,∃vs,BY a=some^HO.lst vs/\JX a=some^HO.lst vs:=λa h=>by let#[k,hk]:=gG.mp h;let#[vs,_,_,h1,h2]:=LZ k a hk;show#[vs,h1,h2]
   show#[s9.free^nC.free qB.1,s9.free^nC.free^qB.same.free HB.1,λa h=>(Yl a h).1,aP (nC _ _ Rz) qB.1,aP (qB.keep^nC _ _ Rz) HB.1,aP (nC _ _ LY) qB.1,aP (qB.keep^nC _ _ LY) HB.1,aP qB.self HB.1,λh=>?_,λh=>?_,fa,la,nd];let#[vs,h1,_]:=inn cm h;rw[qB.1] at h1;cases h1;let#[vs,_,h1]:=inn sn h;rw[HB.1] at h1;cases h1
  have L0:CK H5 H8 f l cm sn as ws ns [] (λk=>(qs.take i).filter^isLive rs k++if((k:Nat):Int)∈([]:List Int) then[t] else[]) Yo :=
   #[s9.trans s12,t9.trans^sT s12,s12 _ _ Rz,s12 _ _ LY,HB.keep qB.self,HB.self,λk a e=>by
    let#[vs,h1,h2,_]:=LZ k a e;show#[vs,h1,by simpa using h2]]
  have D0:JV rs t ns []:=by show#[λx hx=>?_,(λx h=>nomatch h),lM,λk r h1 h2=>.inr^(hns _).mpr #[k,r,(e9 h1).1,rfl,h1,h2],(λk q r _ _ _ h=>nomatch h),by simp;lia];let#[k,r,_,rfl,h1,h2]:=(hns x).mp hx;show#[k,rfl,.here h1 h2]
  clear qB HB nC s12 hns hnl Ym LZ Rz LY s9 t9 Qc Yn hb9;show o7 (λm σ' H'=>∃(cs ss:List Int)(x:Option V),σ'=[some^.ref p,some^.ref rd,some^.ref gv,some^.ref ah,some^.ref f,some^.ref b,some^.ref cm,some^.ref sn,x]/\CK H5 H8 f l cm sn as ws cs ss (λk=>(qs.take i).filter^isLive rs k++if((k:Nat):Int)∈ss then[t] else[]) H'/\JV rs t cs ss/\m=msr rs.length ss.length cs.length) #[_,ns,[],_,rfl,L0,D0,rfl] ?_;clear L0 D0;rintro m σ' Zq ⟨cs,ss,x,rfl,L,D,rfl⟩;have abW:=L.hc;lk;rcases List.eq_nil_or_concat cs with e|⟨cs',y,e⟩
  .subst e;rw[if_neg^by decide];walk_at "nxd";show#[#[_,_,_,_,rfl],L.s5,L.t6,L.hf,L.hl,λk a e=>?_];let#[vs,h1,h2]:=L.ha k a e;show#[vs,h1,?_];rw[LX hti^D.done k];show h2
  rw[List.concat_eq_append] at e;subst e;rw[if_pos^by simp];let#[ky,VL,lky]:=D.c1 y (by simp);have hss:=D.few;have hsh:=D.short hn;rw[aF,gF] at hsh;lk;show s_pop abW (y:=.int y) (by simp) ?_;intro H14 RB;have ed:(List.map V.int (cs'++[y])).dropLast=cs'.map V.int:=by simp
  rw[ed] at RB;have L14:=L.abJ AP RB;clear RB abW L ed;have agV:=L14.hs;by_cases hy:y∈ss
  .have hv:(!(eG (ss.map λk=>((.inl k:Key),V.bl true))^.inl y).isSome)=false:=by rw[yx,decide_eq_true hy];rfl
   lk;rw[hv,if_neg^by decide];lk;show#[_,?_,cs',ss,_,rfl,L14,D.skip hy,rfl];rw[aF,gF];unfold msr;lia
  have hv:(!(eG (ss.map λk=>((.inl k:Key),V.bl true))^.inl y).isSome)=true:=by rw[yx,decide_eq_false hy];rfl
  have hsl:(ss.map λk=>((.inl k:Key),V.bl true)).length<=2000:=by rw[ao];lia
  have ey:=P8 hy;have Tu:=L14.hf;have nfs:=AP.fs;lk;rw[hv,if_pos rfl];lk;rename_i VM HC;rw[ey] at HC;have Yp:=L14.agL AP HC;clear HC L14 agV ey hv Tu nfs;have j7:ky<as.length:=by have:=lky.lt;lia
  have Hz:as[ky]?=some as[ky]:=fh j7;generalize as[ky]'j7=a at Hz;let#[vs,hvs,hps]:=Yp.ha ky a Hz;have hyk:¬((ky:Nat):Int)∈ss:=by rw[<- VL];show hy
  rw[if_neg hyk,fH] at hps;have hvl:vs.length<=16:=by rw[hps.length];show bg (ju _ _) ?_;rw[cu];lia
  have agW:=Yp.hc;have hca:cm≠a:=λz=>AP.ca (by rw[z];show gq Hz);have abZ:=Yp.s5 _ _ Yk;have haa:ah≠a:=aP Yk^AP.a5 a^gq Hz;show cZ (bG.of Yp.hf) (v:=.ref a) (by rw[VL];show fR (by rw[aV,Hz];rfl)) ?_;lk;rename_i H16 p16;have Yq:CK H5 H8 f l cm sn as ws cs' (ss++[y]) (λk=>(qs.take i).filter^isLive rs k++if((k:Nat):Int)∈ss++[y] then[t] else[]) H16:=by have x:=Yp.agM AP (g':=λk=>(qs.take i).filter^isLive rs k++if((k:Nat):Int)∈ss++[y] then[t] else[]) Hz hvs p16 ?_ λk hk _=>?_;show x;change cg VM _ ((qs.take i).filter^isLive rs ky++if((ky:Nat):Int)∈ss++[y] then[t] else[]);rw[if_pos (by rw[<- VL];simp)];show dD hps #[b,rfl,Yp.t6 _ _ Rx];have hne:¬((k:Nat):Int)=y:=∅;erw[aJ,ay,hne,or_false]
  clear p16 Yp hvs hps agW abZ;have VN:=Yq.s5 _ _ Yk;have VO:=Yq.s5 _ _ agQ;have VP:=agR.same Yq.s5;have ab0:=Yq.t6 _ _ Rx;have ab1:ky<als.length:=by have:=lky.lt;lia
  have Yr:als[ky]?=some als[ky]:=fh ab1;generalize als[ky]'ab1=al at Yr;let#[le,hle,alJ,Qd]:=agP.same Yq.s5 ky al Yr;show cZ (bG.of VN) (v:=.ref al) (by rw[VL];show fR (by rw[aV,Yr];rfl)) ?_;lk;show fM (xs:=le.map V.int) (λj ys H'=>aA H16 H'/\∃es:List Int,ys=es.map V.int/\es.length<=j/\∀z,z∈es↔∃(k:Nat)(r:Row),z=((k:Nat):Int)/\z∈le.take j/\rs[k]?=some r/\t∉bP r) #[aA.refl _,[],rfl,aM _,λz=>#[λh=>(nomatch h),λ⟨k,r,_,h,_⟩=>by simp at h]] ?_ ?_ ?_;rintro j ys H' _ ⟨s',_⟩;show bG.of^s' _ _ hle
  .rintro j x ys H17 hx ⟨VQ,es,rfl,hel,hes⟩;have hjl:j<(le.map V.int).length:=(e9 hx).1;rw[ao] at hjl;rw[aV] at hx;let#[z,hz,rfl]:=cG.mp hx;let#[k,r,hk,ez,hr,hw]:=(Qd z).mp^gq hz;let#[ga,gus,hga,hgl,hgp]:=(VP.same VQ).at hr;show#[bV (by rw[ao];lia),?_];have ab2:=VQ _ _ VO;have agX:=VQ _ _ ab0;lk;show cZ (bG.of ab2) (v:=.ref ga) (by rw[ez];show fR hga) ?_;lk;show OR agX (bG.of hgl) hgp ?_;have split:∀y,(∃(k:Nat)(r:Row),y=((k:Nat):Int)/\y∈le.take (j+1)/\rs[k]?=some r/\t∉bP r)↔(∃(k:Nat)(r:Row),y=((k:Nat):Int)/\y∈le.take j/\rs[k]?=some r/\t∉bP r)\/(y=z/\t∉bP r):=λy=>by rw[bT,hz];erw[oX,aJ,ay];constructor;rintro⟨k',r',h1,h2|h2,h3,h4⟩;show .inl #[k',r',h1,h2,h3,h4];have e:k'=k:=∅;subst e;rw[hr] at h3;cases h3;show .inr #[h2,h4];rintro(⟨k',r',h1,h2,h3,h4⟩|⟨h1,h2⟩);show#[k',r',h1,.inl h2,h3,h4];show#[k,r,by rw[h1,ez],.inr h1,hr,h2]
   by_cases hm:t∈bP r
   .rw[decide_eq_true hm];lk;show#[VQ,es,rfl,∅,λy=>?_];rw[hes y,split y];erw[hm,not_true,and_false,or_false]
   .rw[decide_eq_false hm];lk;show#[VQ,es++[z],by simp,by simp;lia,λy=>?_];rw[aJ,hes y,ay,split y];erw[hm,not_false_eq_true,and_true]
  rintro ys H17 ⟨VQ,es,rfl,hel,hes⟩ ex H18 n18;rw[ao] at hel hes;rw[bU] at hes;have L18:=(Yq.same VQ).new n18;have hex:=n18.self;have alM:=L18.hc;have hcl:(cs'.map V.int).length<=8100000:=by rw[ao];lia
  have alN:(es.map V.int).length<=4000:=by rw[ao];lia
  clear n18 VQ Yq VN VO VP ab0 hle;lk;rename_i H19 p19;rw[<- bA] at p19;have L19:=L18.abJ AP p19;show#[_,?_,cs'++es,ss++[y],_,rfl,L19,D.step hy (λz=>?_) ∅,rfl]
  .have hlt:ss.length<rs.length:=by have d2:=(D.step (es:=es) hy (λz=>?_) ∅).few;rw[aF] at d2;simp at d2;lia;rw[hes z];constructor;rintro⟨k,r,h1,h2,h3,h4⟩;let#[k',r',_,e1,e2,e3]:=(Qd z).mp h2;have e:k'=k:=∅;subst e;rw[h3] at e2;cases e2;show#[k',ky,r,h1,VL,h3,e3,h4];rintro⟨k,j,r,h1,h2,h3,h4,h5⟩;have e:j=ky:=∅;subst e;show#[k,r,h1,(Qd z).mpr #[k,r,(e9 h3).1,h1,h3,h4],h3,h5]
   rw[aF,aF,aF,gF];show Yh hlt ∅
  .rw[hes z];constructor;rintro⟨k,r,h1,h2,h3,h4⟩;let#[k',r',_,e1,e2,e3]:=(Qd z).mp h2;have e:k'=k:=∅;subst e;rw[h3] at e2;cases e2;show#[k',ky,r,h1,VL,h3,e3,h4];rintro⟨k,j,r,h1,h2,h3,h4,h5⟩;have e:j=ky:=∅;subst e;show#[k,r,h1,(Qd z).mpr #[k,r,(e9 h3).1,h1,h3,h4],h3,h5]
 .rintro σ' H9 ⟨⟨x5,x6,x7,x8,rfl⟩,s9,t9,Rz,LY,Ym⟩;lk;show q f as H9 (s5.trans s9) (s5.free f5) Rz ∅ nd (λa h=>s5.free (Yl a h).1) fa λk a e=>?_;let#[vs,h1,h2]:=Ym k a e;show#[vs,h1,?_];rw[abV.length,bU,Tn hok hup (λq=>?_) k] at h2;show h2;rw[hmem q];constructor;rintro⟨ps,hps,hq⟩;let#[r,hr,rfl]:=aE.mp hps;show#[r,hr,hq];rintro⟨r,hr,hq⟩;show#[_,aE.mpr #[r,hr,rfl],hq]
noncomputable def bM(rs:List Row)(j:Nat):Bool:=decide ((if j=0 then 1 else 2)<=cnt rs j)
noncomputable def gw(rs:List Row):List Int:=((List.range rs.length).filter^bM rs).map λ(j:Nat)=>(j:Int)
def pG(rs:List Row)(i:Nat):List Int:=((List.range i).filter^bM rs).map λ(j:Nat)=>(j:Int)
def BZ(rs:List Row)(i:Nat):pG rs (i+1)=pG rs i++if bM rs i=true then[(i:Int)] else[]:=by unfold pG;rw[List.range_succ,jr,bA];congr 1;by_cases h:bM rs i=true;simp[h];simp[h]
def Ek(rs:List Row)(i:Nat):(pG rs i).length<=i:=by unfold pG;rw[ao];show bg (ju _ _) (by rw[lK];show av _)
inductive Tv(K:az)(vs:List V)(H:Hp)(Q:VK)(_:XK):Prop|mk(p:Addr)(us:List V)(rs:List Row)(_:vs=[.ref p])(_:H p=some^.lst us)(_:Rows H us rs)(_:(∀r∈rs,r.ok rs.length))(_:rs.length<=2000)(_:∀f H',aA H H'->H f=none->H' f=some^.lst^(gw rs).map V.int->Q (.ref f) H')
theorem Qe:T.meets∩(4,Tv K):=by
 exists T.meets,PU,#[p,us,rs,rfl,hp,hrs,hok,hl,q],".<Ô¬!m*:ve *0®2Pf0Uf1gX'Z7 j!*1[Y0MM0",1,["place", "some"],bh.pz (x := "place"),(show(["place", "some"]:List Str).Nodup from by decide +kernel),(show(["place", "some"]:List Str).Nodup from by decide +kernel),mh (K:=K) rfl;lk;show#[p,us,rs,rfl,hp,hrs,hok,hl,λf H1 as s1 hf hal _ hL=>?_];lk;show IY (λi zs τ H'=>aA H1 H'/\zs=(pG rs i).map V.int/\∃x y,τ=[x,y]) ?_ ?_ ?_ ?_ ?_;show#[aA.refl _,rfl,_,_,rfl];rintro i zs τ H' hi ⟨sm,rfl,x,y,rfl⟩;show#[bG.of^sm _ _ hf,by rw[ao];show Ek rs i];rw[ao];lia
 .rintro i x p zs τ H' H2 hx ⟨sm,rfl,x0,y0,rfl⟩ n2;rw[aV] at hx;let#[a,ha,rfl]:=cG.mp hx;let#[l,el,VH]:=hL i a ha;have e2:H2 a=some^.lst^l.map V.int:=n2.keep^sm _ _ el;have e:=BZ rs i;have hml:(l.map V.int).length=l.length:=ao _;have hm:bM rs i=decide ((if i=0 then 1 else 2)<=l.length):=by rw[VH];rfl
  lk
  .show#[by walk_at "same", ?_,_,_,rfl];rw[e,if_pos (by rw[hm];show decide_eq_true (by split<;>lia))];simp
  .show#[by walk_at "same", ?_,_,_,rfl];rw[e,if_neg (by rw[hm];show λz=>absurd (of_decide_eq_true z) (by split<;>lia))];simp
  .show#[by walk_at "same", ?_,_,_,rfl];rw[e,if_pos (by rw[hm];show decide_eq_true (by split<;>lia))];simp
  .show#[by walk_at "same", ?_,_,_,rfl];rw[e,if_neg (by rw[hm];show λz=>absurd (of_decide_eq_true z) (by split<;>lia))];simp
 .rintro zs τ H' ⟨sm,rfl,x,y,rfl⟩ g H2 n2;show q g H2 (by walk_at "same") (by walk_at "free") ?_;rw[n2.self,ao,hal];rfl
noncomputable def Row.gv(r:Row)(s:Int):Int:=if r.gH&&(decide (r.sd=s)||decide (r.sd=2)) then r.pX.headD 0 else -1
noncomputable def Row.rd(r:Row)(s:Int):List Int:=if r.gH&&!(decide (r.sd=s)||decide (r.sd=2)) then[] else r.LV
def AE{bs:List Int}(hb:∀b∈bs,0<=b/\b<8)(hs:s=0\/s=1):(s,b)∈mJ r bs↔iD r s=true/\b∈bs:=by unfold mJ;rw[qg];constructor;rintro⟨s',_,h⟩;split at h;rename_i hsd;let#[b',hb1,e]:=aE.mp h;cases e;show#[hsd,(SN.jK hb b).mp hb1];show nomatch h;rintro⟨h1,h2⟩;show#[s,by simpa using hs,?_];rw[if_pos h1];show aE.mpr #[b,(SN.jK hb b).mpr h2,rfl]
def lz{n:Int}(h:r.ok n)(hs:s=0\/s=1):(s,b)∈eE r↔b∈r.rd s:=by unfold eE Row.rd;rw[AE (λb hb=>qA h b^BW b hb) hs];unfold iD;cases r.gH<;>cases decide (r.sd=s)<;>cases decide (r.sd=2)<;>simp
def yy(h:r.gH=true):r.pX.take 1=[r.pX.headD 0]:=by cases r<;>first|rfl|cases h
theorem iX{n:Int}(h:r.ok n)(hs:s=0\/s=1)(hb:0<=b):(s,b)∈bP r↔r.gv s=b:=by
 unfold bP Row.gv;by_cases hd:r.gH=true
 .rw[if_pos hd,AE (λb hb=>qA h b^List.take_subset _ _ hb) hs,yy hd,ay];unfold iD;rw[hd];cases decide (r.sd=s)<;>cases decide (r.sd=2)<;>simp<;>first|lia|show#[λe=>e.symm,λe=>e.symm]
 .rw[if_neg hd];have:r.gH=false:=by simpa using hd
  rw[this];simp;lia
theorem ab3{n:Int}(h:r.ok n)(s:Int):r.gv s<8:=by
 unfold Row.gv;split
 .rename_i e;have hd:r.gH=true:=by cases hr:r.gH<;>simp[hr] at e ⊢
  show(qA h (r.pX.headD 0)^List.take_subset 1 _ (by rw[yy hd];simp)).2
 .lia
def getD_at{l:List α}{x d:α}(h:l[k]?=some x):l.getD k d=x:=by rw[vD,h];rfl
section
variable {rs:List Row}{s:Int}{ms:List Nat}(hs:s=0\/s=1)(hok:∀r∈rs,r.ok rs.length)
include hs hok
end
open HM in
noncomputable def Row.ends(r:Row):fG->Bool
 | none=>uI (.str r.key) [.str "mark", .str "out", .str "back"]
 | some p=>uI (.str r.key) [.str "look", .str "out", .str "back"] && decide (r.pX.headD 0=p.2)
open HM in
def LeftOf(r:Row):fG->fG->Prop
 | none,u=>r.ends none=false/\u=none
 | some p,u=>r.ends^some p=false/\((u=some p/\r.gv p.1≠p.2)\/(u=some (p.1,r.gv p.1)/\0<=r.gv p.1/\p.2∈r.rd p.1))
open HM in
def fG.lv(rs:List Row)(k:Nat):fG->Prop
 | none=>True
 | some p=>p∈kB rs k
open HM in
def B0(rs:List Row)(r:Row)(t:fG)(z:bB):Prop:=z.1∈r.ways/\LeftOf r t z.2/\fG.lv rs z.1.toNat z.2
open HM in
def RC:fG->Prop
 | none=>True
 | some p=>(p.1=0\/p.1=1)/\0<=p.2/\p.2<8
theorem LeftOf.ok{n:Int}(h:r.ok n)(ht:RC t)(l:LeftOf r t u):RC u/\u.isSome=t.isSome:=by
 cases t with
 | none=>rw[l.2];show#[trivial,rfl]
 | some p =>
  rcases l.2 with⟨rfl,_⟩|⟨rfl,h0,_⟩;show#[ht,rfl];show#[#[ht.1,h0,ab3 h _],rfl]
theorem JZ{α:Type}(f:α->Int):∀{xs ys:List α},xs.Pairwise (λp q=>f p<f q)->ys.Pairwise (λp q=>f p<f q)->(∀p,p∈xs↔p∈ys)->xs=ys
 | [],[],_,_,_=>rfl
 | [],y::ys,_,_,h=>absurd ((h y).mpr^by simp) (by simp)
 | x::xs,[],_,_,h=>absurd ((h x).mp^by simp) (by simp)
 | x::xs,y::ys,hx,hy,h=>by
  have h1:=qh.mp hx;have h2:=qh.mp hy;have e:x=y:=by rcases aG.mp ((h x).mp^by simp) with e|e;show e;rcases aG.mp ((h y).mpr^by simp) with e'|e';show e'.symm;have:=h1.1 _ e';have:=h2.1 _ e;lia
  subst e;rw[JZ f h1.2 h2.2 λp=>?_];constructor
  .intro hp;rcases aG.mp^(h p).mp^cM _ hp with e|e;rw[e] at hp;have:=h1.1 _ hp;lia;show e
  .intro hp;rcases aG.mp^(h p).mpr^cM _ hp with e|e;rw[e] at hp;have:=h2.1 _ hp;lia;show e
noncomputable def eY(r:Row):HM.fG->List HM.fG
 | none=>if r.ends none then[] else[none]
 | some p=>if r.ends^some p then[] else(if p∈bP r then[] else[some p])++if p∈eE r then((bP r).filter λq=>decide (q.1=p.1)).map some else[]
theorem L1(b:Int):(SN.fT [b]).length<=1:=by
 have h1:=SN.Dj [b];have h2:∀n∈SN.fT [b],n=b:=λn hn=>by unfold SN.fT at hn;let#[k,hk,rfl]:=aE.mp hn;have:=(dS.mp hk).2;simpa using this
 match h:SN.fT [b] with
 | []=>simp
 | [_]=>simp
 | x::y::l =>
  rw[h] at h1 h2;have e1:=h2 x (by simp);have e2:=h2 y (by simp);have:=(qh.mp h1).1 y (by simp);lia
theorem HD(r:Row)(hs:s=0\/s=1):((bP r).filter λq=>decide (q.1=s)).length<=1:=by
 unfold bP;split
 .rename_i hd;have e:=yy hd;rw[e];unfold mJ;have l1:=L1^r.pX.headD 0;generalize r.pX.headD 0=hd0 at l1 ⊢;have all:∀(s':Int),(((SN.fT [hd0]).map λb=>(s',b)).filter λq=>decide (q.1=s))=if s'=s then(SN.fT [hd0]).map λb=>(s',b) else[]:=λs'=>by split;rename_i e;rw[List.filter_eq_self];intro x hx;let#[b,_,rfl]:=aE.mp hx;simpa using e;rename_i e;rw[List.filter_eq_nil_iff];intro x hx;let#[b,_,rfl]:=aE.mp hx;simpa using e
  erw[sR,List.flatMap_nil,fH,jr,aF];rcases hs with rfl|rfl
  .have a0:=all 0;have a1:=all 1;cases h0:iD r 0<;>cases h1:iD r 1<;>erw[if_true,cB,if_false,a0,a1,List.filter_nil,sW]<;>simp<;>lia
  .have a0:=all 0;have a1:=all 1;cases h0:iD r 0<;>cases h1:iD r 1<;>erw[if_true,cB,if_false,a0,a1,List.filter_nil,sW]<;>simp<;>lia
 .simp
theorem L3(r:Row):(bP r).length<=16:=by
 unfold bP;split
 .unfold mJ;have h:=ly^r.pX.take 1;erw[sR,List.flatMap_nil,fH,aF];have e:∀s:Int,(if iD r s=true then(SN.fT^r.pX.take 1).map λb=>(s,b) else[]).length<=8:=λs=>by split<;>simp[h]
  have h0:=e 0;have h1:=e 1;lia
 .simp
theorem yz(r:Row)(ht:RC t):(eY r t).length<=2:=by
 cases t with
 | none=>unfold eY;dsimp only;split<;>simp
 | some p =>
  unfold eY;dsimp only;have:=HD r (s:=p.1) ht.1;split;simp
  .rw[aF];have h1:(if p∈bP r then([]:List HM.fG) else[some p]).length<=1:=by split<;>simp
   have h2:(if p∈eE r then((bP r).filter λq=>decide (q.1=p.1)).map some else([]:List HM.fG)).length<=1:=by split;rw[ao];show this;simp
   lia
def L4{n:Int}(h:r.ok n)(hg:(s,b)∈bP r):0<=b:=by
 unfold bP at hg;split at hg
 .have:=Ej (λb hb=>qA h b^List.take_subset _ _ hb) hg;have all:∀q∈dz,0<=q.2:=by decide
  show all _ this
 .show nomatch hg
def j0{n:Int}(h:r.ok n)(ht:RC t)(u:HM.fG):u∈eY r t↔LeftOf r t u:=by
 cases t with
 | none =>
  unfold eY LeftOf;dsimp only;cases r.ends none<;>simp
 | some p =>
  let#[hs,hb0,Rx]:=ht;let#[s,b]:=p;dsimp only at hs hb0 Rx;unfold eY LeftOf;dsimp only;cases r.ends^some (s,b) with
  | true=>simp
  | false =>
   erw[cB,if_false,true_and];rw[aJ];have e1:u∈(if(s,b)∈bP r then([]:List HM.fG) else[some (s,b)])↔(u=some (s,b)/\r.gv s≠b):=by have mg:=iX h hs hb0;split;rename_i e;simp[mg.mp e];rename_i e;simp[show ¬r.gv s=b from λz=>e^mg.mpr z]
   have e2:u∈(if(s,b)∈eE r then((bP r).filter λq=>decide (q.1=s)).map some else([]:List HM.fG))↔(u=some (s,r.gv s)/\0<=r.gv s/\b∈r.rd s):=by
    have mr:=lz h hs (b:=b);split
    .rename_i e;replace e:=mr.mp e;rw[aE];constructor
     .rintro⟨⟨s',b'⟩,hq,rfl⟩;let#[hg,hq2]:=dS.mp hq;have hq2:s'=s:=by simpa using hq2
      subst hq2;have hb':0<=b':=L4 h hg;have:=(iX h hs hb').mp hg;rw[this];show#[rfl,hb',e]
     .rintro⟨rfl,h0,_⟩;show#[(s,r.gv s),dS.mpr #[(iX h hs h0).mpr rfl,by simp],rfl]
    .rename_i e;simp[show ¬b∈r.rd s from λz=>e^mr.mpr z]
   rw[e1,e2]
def lvB(rs:List Row)(k:Nat):HM.fG->Bool
 | none=>true
 | some p=>decide (p∈kB rs k)
def J0:lvB rs k t=true↔fG.lv rs k t:=by cases t<;>simp[lvB,fG.lv]
def Tw(h:uI (.str r.key) [.str "look", .str "out", .str "back"]=true):tH r.vals 1=some^.int^r.pX.headD 0:=by cases r<;>first|rfl|(show absurd (show uI (.str "num") [.str "look", .str "out", .str "back"]=true from h)^by decide)|(show absurd (show uI (.str "copy") [.str "look", .str "out", .str "back"]=true from h)^by decide)|(show absurd (show uI (.str "op") [.str "look", .str "out", .str "back"]=true from h)^by decide)|(show absurd (show uI (.str "mark") [.str "look", .str "out", .str "back"]=true from h)^by decide)
abbrev lA(H:Hp):List V->List HM.fG->Prop:=Paired λx t=>fK H t x
theorem lA.same{ts:List HM.fG}(h:lA H vs ts)(e:aA H H'):lA H' vs ts:=dW (λ_ _ x=>fK.same x e) h
inductive Qf(vs:List V)(H:Hp)(Q:VK)(_:XK):Prop|mk(a tk gv:Addr)(x:V)(r:Row)(n:Int)(t:HM.fG)(us ws:List V)(_:vs=[.ref a,x,.ref tk,.ref gv])(_:H a=some^.tup r.vals)(_:r.ok n)(_:fK H t x)(_:RC t)(_:H tk=some^.lst us)(_:cg H us^eE r)(_:H gv=some^.lst ws)(_:cg H ws (bP r))(_:∀(l:Addr)(xs:List V)(H':Hp),aA H H'->H l=none->H' l=some^.lst xs->lA H' xs^eY r t->Q (.ref l) H')
set_option maxHeartbeats 40000000 in
theorem uq:T.i8∩(1,Qf):=by
 exists T.i8,kZ,#[a,tk,gv,x,r,n,t,us,ws,rfl,ha,hok,hx,ht,htk,oZ,hgv,hws,q],"+@X!1Ä.<[q>0e'T.pV.c NZn+@]£q>0e'T.pW.c ³|>0>1.<N+/4[hÜ13NZ*1+@hÜ12.Ii4*OHC3g|´!0´!10.<4",5,Oe hr.units,(by with_unfolding_all rfl),(by with_unfolding_all rfl),(by with_unfolding_all rfl),(by with_unfolding_all rfl),"spot",["thing"],[1],["thing"],lZ (K:=K) rfl,lZ (K:=K) rfl;have cm:=T.pV.q;have cs:=T.pW.q;lk;show Vr hx ?_;cases t with
 | none =>
  change Gk _ (.bl true) H;lk;split
  .rename_i he;lk;rename_i l H1 n1;show q l [] H1 n1.same n1.1 n1.self ?_;unfold eY;dsimp only;rw[if_pos^show r.ends none=true from he];show .nil
  .rename_i he;lk;rename_i l H1 n1;show q l _ H1 n1.same n1.1 n1.self ?_;unfold eY;dsimp only;rw[if_neg^show ¬r.ends none=true from he];show .cons rfl .nil
 | some p =>
  change Gk _ (.bl false) H;let#[b,rfl,hb]:=hx;have hwl:=hws.length;have hgl:(bP r).length<=16:=L3 r;lk;have rest:r.ends^some p=false->nx0 [some^.ref a,some^.ref b,some^.ref tk,some^.ref gv,none] H:=by
   intro he;have em:eY r^some p=(if p∈bP r then[] else[some p])++if p∈eE r then((bP r).filter λq=>decide (q.1=p.1)).map some else[]:=by unfold eY;dsimp only;rw[he];rfl
   show Tz _ _ ?_;lk;show Jp hb (bG.of hgv) hws ?_;by_cases hg:p∈bP r
   case' pos =>
    rw[decide_eq_true hg];change Gk _ (.bl true) H;lk;rename_i f H1 n1;have bs:∃vs,H1 f=some^.lst vs/\lA H1 vs (if p∈bP r then[] else[some p])/\vs.length<=1:=#[[],n1.self,by rw[if_pos hg];show .nil,aM _]
   case' neg =>
    rw[decide_eq_false hg];change Gk _ (.bl false) H;lk;rename_i f H1 n1;have bs:∃vs,H1 f=some^.lst vs/\lA H1 vs (if p∈bP r then[] else[some p])/\vs.length<=1:=#[[.ref b],n1.self,by rw[if_neg hg];show .cons #[b,rfl,n1.keep hb] .nil,av _]
   all_goals
    have s1:=n1.same;have ff:=n1.1;clear n1;let#[vs,hf1,hvs,hvl]:=bs;have hb1:=s1 _ _ hb;have ag0:=s1 _ _ htk;have ag1:=s1 _ _ hgv;have ag2:=cg.same s1 oZ;have ag3:=cg.same s1 hws;show Jp hb1 (bG.of ag0) ag2 ?_;by_cases hr:p∈eE r
    .rw[decide_eq_true hr];change Gk _ (.bl true) H1;lk;show fM (xs:=ws) (λk zs H'=>H'=H1/\lA H1 zs^(((bP r).take k).filter λq=>decide (q.1=p.1)).map some) #[rfl,.nil] ?_ ?_ ?_;rintro k zs H' _ ⟨rfl,_⟩;show bG.of ag1
     .rintro k y zs H' hy ⟨rfl,hz⟩;let#[t,Ys,c,rfl,hc]:=bu ag3 hy;have Yt:=hz.length;rw[ao] at Yt;have hle:=ju (λq:Int×Int=>decide (q.1=p.1))^(bP r).take k;rw[cu] at hle;show#[bV ∅,?_];have et:(bP r).take (k+1)=(bP r).take k++[t]:=by rw[bT,Ys];rfl
      lk;rename_i e;show#[rfl,?_];rw[et,jr,bA,wU^by simpa using e];show dD hz #[c,rfl,hc];rename_i e;show#[rfl,?_];rw[et,jr,bA,wR^by simpa using e];simpa using hz
     .rintro zs H' ⟨rfl,hz⟩ l H2 n2;rw[hwl,bU] at hz;have Yt:=hz.length;rw[ao] at Yt;have hle:=ju (λq:Int×Int=>decide (q.1=p.1))^bP r;have hf2:=n2.keep hf1;have hl2:=n2.self;have s2:=n2.same;clear n2;lk;rename_i H3 p3;have s3:=p3.same (s1.trans s2) ff;have kp:∀{ys:List V}{ts:List HM.fG},lA H' ys ts->lA H3 ys ts:=λh=>dW (λv t x=>by
       cases t with
       | none=>show x
       | some u=>let#[c,e1,e2]:=x;show#[c,e1,p3.keep (by intro z;subst z;rw[hf1] at e2;cases e2)^s2 _ _ e2]) h
      show q f _ H3 s3 ff p3.self ?_;rw[em,if_pos hr];show gU (kp hvs)^kp hz
    .rw[decide_eq_false hr];change Gk _ (.bl false) H1;lk;show q f vs H1 s1 ff hf1 ?_;rw[em,if_neg hr,fH];show hvs
  clear Tz;cases he:uI (.str r.key) [.str "look", .str "out", .str "back"];rw[if_neg^by decide,if_neg^by decide];show LS _^rest ?_;unfold Row.ends;dsimp only;rw[he];rfl
  .rw[if_pos rfl];lk;show Af (dJ.of ha) (Tw he) ?_;lk
   .rename_i e l H1 n1;show q l [] H1 n1.same n1.1 n1.self ?_;have:r.ends^some p=true:=by unfold Row.ends;dsimp only;rw[he,decide_eq_true e];rfl
    unfold eY;dsimp only;rw[this];show .nil
   .rename_i e;show rest ?_;unfold Row.ends;dsimp only;rw[he,decide_eq_false e];rfl
def iL(rs:List Row)(r:Row)(t:HM.fG)(ks:List HM.bB):Prop:=ks.Pairwise (λx y=>HM.tZ x<HM.tZ y)/\∀z,z∈ks↔B0 rs r t z
inductive Qg(vs:List V)(H:Hp)(Q:VK)(_:XK):Prop|mk(o th lv:Addr)(ws:List Int)(xs:List V)(ts:List HM.fG)(as:List Addr)(rs:List Row)(_:vs=[.ref o,.ref th,.ref lv])(_:H o=some^.lst^ws.map V.int)(_:ws.length<=2)(_:(∀q∈ws,0<=q/\q<rs.length))(_:H th=some^.lst xs)(_:lA H xs ts)(_:ts.length<=2)(_:(∀t∈ts,RC t))(_:(∀t∈ts,∀u∈ts,t.isSome=u.isSome))(_:H lv=some^.lst^as.map V.ref)(_:as.length=rs.length)(_:AD H as rs)(_:∀(l:Addr)(vs:List V)(ks:List HM.bB)(H':Hp),aA H H'->H l=none->H' l=some^.lst vs->bJ H' vs ks->ks.Pairwise (λx y=>HM.tZ x<HM.tZ y)->(∀z,z∈ks↔z.1∈ws/\z.2∈ts/\fG.lv rs z.1.toNat z.2)->Q (.ref l) H')
set_option maxHeartbeats 40000000 in
theorem HE:T.wc∩(1,Qg):=by
 exists T.wc,qv,#[o,th,lv,ws,xs,ts,as,rs,rfl,ho,hw2,hw,Xu,hxs,ht2,htk,hal,Dy,Dr,hL,q],"+/3N+DC0?4.Ii3*OHC1g]pX!0Ävh!0V!12=-2*0.<w!*±!*3",5,"thing",["lively", "way"],[2,4],["way", "lively"],Si (K:=K) rfl hr.units,Jo (K:=K) rfl hr.units,iC (K:=K) rfl,(by with_unfolding_all rfl),GP hr.units rfl,Lw hr.units rfl;lk;rename_i f H1 n1;have ff:=n1.1;have s1:=n1.same;have hf1:=n1.self;clear n1;show f_list (xs:=ws.map V.int) (λi σ' H'=>(∃y,σ'=[some^.ref o,some^.ref th,some^.ref lv,some^.ref f,y])/\aA H H'/\∃(vs:List V)(ks:List HM.bB),H' f=some^.lst vs/\bJ H' vs ks/\ks.length<=2*i/\∀z,z∈ks↔z.1∈ws.take i/\z.2∈ts/\fG.lv rs z.1.toNat z.2) ?_ ?_ ?_ ?_;show#[#[_,rfl],s1,[],[],hf1,.nil,aM _,λz=>by simp];rintro i σ' H' _ ⟨_,s',_⟩;show bG.of^s' _ _ ho
 .rintro i x σ' H2 hx ⟨⟨y0,rfl⟩,s2,vs,ks,hf2,hks,j7,hmem⟩;rw[aV] at hx;let#[q0,Zo,rfl]:=cG.mp hx;let#[hq0,hq1]:=hw q0^gq Zo;have hil:=(e9 Zo).1;obtain⟨j,rfl⟩:∃j:Nat,q0=(j:Int):=#[q0.toNat,∅];obtain⟨a,ha⟩:∃a,as[j]?=some a:=#[_,fh ∅];let#[us,oZ,hps]:=hL j a ha;have abI:=s2 _ _ oZ;have Qh:=hps.same s2;have Yu:=s2 _ _ Xu;have Yv:=hxs.same s2;have TF:=s2 _ _ Dy;have XW:=hxs.length;have hnf:∀{b:Addr}{o:HO},H b=some o->b≠f:=λe z=>by rw[z,ff] at e;cases e
  lk;show fM (xs:=xs) (λk zs H'=>aA H2 H'/\∃FO:List HM.bB,bJ H' zs FO/\FO.length<=k/\∀z,z∈FO↔z.1=(j:Int)/\z.2∈ts.take k/\fG.lv rs j z.2) #[aA.refl _,[],.nil,aM _,λz=>by simp] ?_ ?_ ?_;rintro k zs H' _ ⟨s',_⟩;show bG.of^s' _ _ Yu
  .rintro k y zs H3 hy ⟨s3,FO,hk2,ag4,hm2⟩;let#[t,Ys,hyt]:=bu Yv hy;have Yw:=fK.same hyt s3;have hkb:=(e9 hy).1;have Yt:=hk2.length;show#[bV ∅,?_];lk;show Vr Yw ?_;have step:∀b:Bool,lvB rs j t=b->(b=true->∀(u:Addr)(H4:Hp),fV H3 u (.tup [.int (j:Int),y]) H4->aA H2 H4/\∃FO:List HM.bB,bJ H4 (zs++[.ref u]) FO/\FO.length<=k+1/\∀z,z∈FO↔z.1=(j:Int)/\z.2∈ts.take (k+1)/\fG.lv rs j z.2)/\(b=false->aA H2 H3/\∃FO:List HM.bB,bJ H3 zs FO/\FO.length<=k+1/\∀z,z∈FO↔z.1=(j:Int)/\z.2∈ts.take (k+1)/\fG.lv rs j z.2):=by
    intro b hb;have et:ts.take (k+1)=ts.take k++[t]:=by rw[bT,Ys];rfl
    show#[λe u H4 n4=>#[s3.trans n4.same,FO++[((j:Int),t)],dD (bJ.same hk2 n4.same) #[u,y,rfl,n4.self,fK.same Yw n4.same],by simp;lia,λz=>?_],λe=>#[s3,FO,hk2,∅,λz=>?_]];rw[e] at hb;rw[aJ,hm2 z,et,aJ,ay,ay];constructor;rintro(⟨h1,h2,h3⟩|rfl);show#[h1,.inl h2,h3];show#[rfl,.inr rfl,J0.mp hb];rintro⟨h1,h2|h2,h3⟩;show .inl #[h1,h2,h3];show .inr^Prod.ext h1 h2;rw[e] at hb;rw[hm2 z,et,aJ,ay];constructor;rintro⟨h1,h2,h3⟩;show#[h1,.inl h2,h3];rintro⟨h1,h2|h2,h3⟩;show#[h1,h2,h3];rw[h2] at h3;rw[J0.mpr h3] at hb;cases hb
   cases t with
   | none =>
    change Gk _ (.bl true) H3;lk;rename_i u H4 n4;show(step true rfl).1 rfl u H4 n4
   | some p =>
    change Gk _ (.bl false) H3;let#[b,rfl,hb]:=Yw;have Yx:=s3 _ _ TF;have LU:=s3 _ _ abI;lk;show cZ (bG.of Yx) (v:=.ref a) (fR (by rw[aV,ha];rfl)) ?_;lk;show Jp hb (bG.of LU) (cg.same s3 Qh) ?_;by_cases hm:p∈kB rs j
    .rw[decide_eq_true hm];change Gk _ (.bl true) H3;lk;rename_i u H4 n4;show(step true^decide_eq_true hm).1 rfl u H4 n4
    .rw[decide_eq_false hm];change Gk _ (.bl false) H3;lk;show(step false^decide_eq_false hm).2 rfl
  .rintro zs H3 ⟨s3,FO,hk2,ag4,hm2⟩ l H4 n4;have FP:=n4.keep^s3 _ _ hf2;have ag5:=bJ.same (bJ.same hks s3) n4.same;have Yt:=hk2.length;have hvl:=hks.length;have HF:=n4.self;have Zr:=bJ.same hk2 n4.same;have yC:=(s2.trans s3).trans n4.same;clear n4;lk;rename_i H5 p5;have s5:=p5.same yC ff;have sp:∀(v:V)(k:HM.bB),bf H4 v k->bf H5 v k:=λv k ⟨a1,u,e1,e2,e3⟩=>#[a1,u,e1,p5.keep (by intro z;subst z;rw[FP] at e2;cases e2) e2,by
    revert e3;generalize k.2=k2;intro e3;cases k2 with
    | none=>show e3
    | some p=>let#[b,e4,e5]:=e3;show#[b,e4,p5.keep (by intro z;subst z;rw[FP] at e5;cases e5) e5]]
   show#[#[_,rfl],s5,_,ks++FO,p5.self,gU (dW sp ag5)^dW sp Zr,by simp;lia,λz=>?_];rw[aJ,hmem z,hm2 z,bT,Zo,aJ,XW,bU];erw[oX,ay];constructor;rintro(⟨h1,h2,h3⟩|⟨h1,h2,h3⟩);show#[.inl h1,h2,h3];show#[.inr h1,h2,by rw[h1];show h3];rintro⟨h1|h1,h2,h3⟩;show .inl #[h1,h2,h3];show .inr #[h1,h2,by rw[h1] at h3;show h3]
 .rintro σ' H2 ⟨⟨y0,rfl⟩,s2,vs,ks,hf2,hks,j7,hmem⟩;rw[ao] at j7 hmem;lk;show XR (bG.of hf2) hks ∅ ?_;intro p H3 zs n3 hz hzm;lk;have hin:∀z∈zs,z.1.2∈ts:=λz hz'=>((hmem z.1).mp^(hzm _).mp^aE.mpr #[z,hz',rfl]).2.1;show SQ n3.self (λz hz'=>(hz z hz').same n3.same) (λz hz' p hp=>?_) (λz hz' y hy=>hal _ (hin z hz') _^hin y hy) ?_;have:=htk _^hin z hz';rw[hp] at this;let#[h1,h2,h3]:=this;lia
  .intro l H4 vs4 ks4 n4 h4 m4 u4;show q l vs4 ks4 H4 ((s2.trans n3.same).trans n4.same) ((s2.trans n3.same).free n4.1) n4.self (bJ.same h4 n4.same) u4 λz=>by rw[m4,hzm,hmem,bU]
theorem kD{us:List V}(h:Rows H us rs)(hr:rs[p]?=some r):∃a,tH us (p:Int)=some^.ref a/\H a=some^.tup r.vals:=by have hp:p<rs.length:=(e9 hr).1;have hl:=h.length;let#[y,hy,a,e,ha]:=bu h (i:=p) (x:=us[p]'∅) (by simp[show p<us.length by lia]);rw[hr] at hy;cases hy;show#[a,fR (by rw[<- e];simp[show p<us.length by lia]),ha]
def Qi(H0 H:Hp)(rs:List Row)(r:Row)(bs:List Addr)(ts:List HM.fG):Prop:=bs.length=ts.length/\∀(i:Nat)(b:Addr)(t:HM.fG),bs[i]?=some b->ts[i]?=some t->H0 b=none/\∃vs ks,H b=some^.lst vs/\bJ H vs ks/\iL rs r t ks
inductive L5(vs:List V)(H:Hp)(Q:VK)(_:XK):Prop|mk(a th lv:Addr)(r:Row)(xs:List V)(ts:List HM.fG)(as:List Addr)(rs:List Row)(_:vs=[.ref a,.ref th,.ref lv])(_:H a=some^.tup r.vals)(_:r.ok rs.length)(_:H th=some^.lst xs)(_:lA H xs ts)(_:ts.length<=20)(_:(∀t∈ts,RC t))(_:H lv=some^.lst^as.map V.ref)(_:as.length=rs.length)(_:AD H as rs)(_:∀(l:Addr)(bs:List Addr)(H':Hp),aA H H'->H l=none->H' l=some^.lst^bs.map V.ref->Qi H H' rs r bs ts->Q (.ref l) H')
set_option maxHeartbeats 40000000 in
theorem El:T.rX∩(4,L5):=by
 exists T.rX,ku,#[a,th,lv,r,xs,ts,as,rs,rfl,ha,hok,Xu,hxs,htl,hts,Dy,Dr,hL,q],"+/3:Ef *0+/4:Eg *0+/5:yt *0.<OHC1E:HE -5-:uq -1-0-3*4*2",6,"thing",["row", "lively", "taken", "given", "onward"],[0,2,3,4,5],["taken", "row", "onward", "lively", "given"];lk;show#[a,r,rs.length,rfl,ha,hok,λtk us H1 s1 _ htk oZ=>?_];lk;show#[a,r,rs.length,rfl,s1 _ _ ha,hok,λgv ws H2 s2 _ hgv hws=>?_];lk;show#[a,r,rfl,s2 _ _^s1 _ _ ha,λwy H3 s3 _ hwy=>?_];have zy:=s2.trans s3;have J3:=s1.trans zy;have ag6:=zy _ _ htk;have LU:=oZ.same zy;have ag7:=s3 _ _ hgv;have ag8:=hws.same s3;have ha3:=J3 _ _ ha;have ag9:=J3 _ _ Xu;have ab7:=hxs.same J3;have Yx:=J3 _ _ Dy;have hL3:AD H3 as rs:=λk a e=>let⟨vs,h1,h2⟩:=hL k a e;#[vs,J3 _ _ h1,h2.same J3];clear s1 s2 s3 zy htk oZ hgv hws ha Xu hxs Dy hL;have XW:=ab7.length;lk;show fM (xs:=xs) (λi ys H'=>aA H3 H'/\∃bs:List Addr,ys=bs.map V.ref/\Qi H H' rs r bs^ts.take i) #[aA.refl _,[],rfl,by simp,λi b t h=>by simp at h] ?_ ?_ ?_;rintro i ys H' _ ⟨s',_⟩;show bG.of^s' _ _ ag9
 .rintro i x ys H4 hx ⟨s4,bs,rfl,hbl,Em⟩;let#[t,hti,hxt]:=bu ab7 hx;have hil:=(e9 hx).1;rw[cu] at hbl;show#[bV (by rw[ao];lia),?_];have FL:=hts t^gq hti;lk;show#[a,tk,gv,x,r,rs.length,t,us,ws,rfl,s4 _ _ ha3,hok,fK.same hxt s4,FL,s4 _ _ ag6,LU.same s4,s4 _ _ ag7,ag8.same s4,λth2 xs2 H5 s5 _ Yu Yv=>?_];lk;have Zt:=s4.trans s5;show#[wy,th2,lv,r.ways,xs2,eY r t,as,rs,rfl,Zt _ _ hwy,Row.ji r,λq hq=>?_,Yu,Yv,yz r FL,λu hu=>((j0 hok FL u).mp hu |>.ok hok FL).1,λu hu v hv=>?_,Zt _ _ Yx,Dr,λk a e=>let⟨vs,h1,h2⟩:=hL3 k a e;#[vs,Zt _ _ h1,h2.same Zt],λl vs6 ks6 H6 s6 fl VR hk6 u6 m6=>?_];show Row.ja hok q hq;rw[((j0 hok FL u).mp hu |>.ok hok FL).2,((j0 hok FL v).mp hv |>.ok hok FL).2]
  .have s36:=Zt.trans s6;show#[s36,bs++[l],by simp,by simp;lia,λj b t' hb ht'=>?_];rcases bE j bs.length with hlt|hge
   .rw[jR hlt] at hb;have hj:j<i:=∅;rw[sV ∅] at ht';let#[h0,vs,ks,h1,h2,h3]:=Em j b t' hb (by rw[sV hj];show ht');show#[h0,vs,ks,(s5.trans s6) _ _ h1,bJ.same h2^s5.trans s6,h3]
   .rw[kJ hge] at hb;have hj:j=i:=by have:=(e9 hb).1;simp at this;lia
    subst hj;rw[sV ∅,hti] at ht';cases ht';rw[show j-bs.length=0 by lia] at hb;cases hb;show#[(J3.trans Zt).free fl,vs6,ks6,VR,hk6,u6,λz=>?_];rw[m6 z,j0 hok FL];rfl
 .rintro ys H4 ⟨s4,bs,rfl,Em⟩ l H5 n5;rw[XW,bU] at Em;show q l bs H5 ((J3.trans s4).trans n5.same) ((J3.trans s4).free n5.1) n5.self #[Em.1,λi b t hb ht=>?_];let#[h0,vs,ks,h1,h2,h3]:=Em.2 i b t hb ht;show#[h0,vs,ks,n5.keep h1,bJ.same h2 n5.same,h3]
def eZ(H:Hp)(rs:List Row)(kvs:gA):Prop:=∀x∈kvs,∃(a:Addr)(vs:List V)(ks:List HM.bB)(k:Nat)(r:Row),x.2.2=.ref a/\H a=some^.lst vs/\bJ H vs ks/\x.1.1=(k:Int)/\rs[k]?=some r/\iL rs r x.1.2 ks
def cF(rs:List Row)(k:Nat):List HM.fG:=(kB rs k).map some++[none]
def bq(rs:List Row)(n:Nat):List HM.bB:=(List.range n).flatMap λk=>(cF rs k).map λt=>((k:Int),t)
def fK.En(h:fK H t v)(hf:H f=some^.ext φ)(p:tR H f o H'):fK H' t v:=by
 cases t with
 | none=>show h
 | some p2=>let#[b,e1,e2]:=h;show#[b,e1,p.keep (by intro z;subst z;rw[hf] at e2;cases e2) e2]
theorem bf.En{k:HM.bB}(h:bf H v k)(hf:H f=some^.ext φ)(p:tR H f o H'):bf H' v k:=by let#[a,u,e,h1,h2]:=h;show#[a,u,e,p.keep (by intro z;subst z;rw[hf] at h1;cases h1) h1,fK.En h2 hf p]
theorem eZ.same(h:eZ H rs kvs)(s:aA H H'):eZ H' rs kvs:=λx hx=>by let#[a,vs,ks,k,r,h1,h2,h3,h4]:=h x hx;show#[a,vs,ks,k,r,h1,s _ _ h2,bJ.same h3 s,h4]
theorem eZ.En(h:eZ H rs kvs)(hf:H f=some^.ext φ)(p:tR H f o H'):eZ H' rs kvs:=λx hx=>by let#[a,vs,ks,k,r,h1,h2,h3,h4]:=h x hx;show#[a,vs,ks,k,r,h1,p.keep (by intro z;subst z;rw[hf] at h2;cases h2) h2,dW (λ_ _ x=>bf.En x hf p) h3,h4]
def HG(h:cg H vs ps):lA H vs^ps.map some:=by
 induction h with
 | nil=>show .nil
 | cons h _ ih=>show .cons h ih
theorem qC(rs:List Row)(k:Nat):(cF rs k).length<=17:=by have:=om rs k;unfold cF;simp;lia
def AF(rs:List Row)(k:Nat):∀t∈cF rs k,RC t:=λt ht=>by
 unfold cF at ht;rcases aJ.mp ht with ht|ht
 .let#[p,hp,rfl]:=aE.mp ht;have all:∀t∈dz,(t.1=0\/t.1=1)/\0<=t.2/\t.2<8:=by decide
  show all p (dS.mp hp).1
 .rw[ay.mp ht];trivial
def qD(rs:List Row)(n:Nat):bq rs (n+1)=bq rs n++(cF rs n).map λt=>((n:Int),t):=by unfold bq;rw[List.range_succ,List.flatMap_append];simp
theorem r9(rs:List Row):∀n,(bq rs n).length<=17*n
 | 0=>by simp[bq]
 | n+1=>by have:=r9 rs n;have h:=qC rs n;rw[qD,aF,ao];lia
def AG(rs:List Row)(k:Nat):(cF rs k).Nodup:=by unfold cF;rw[f7];show#[?_,by simp,λx hx y hy e=>?_];have h:(kB rs k).Nodup:=(List.Pairwise.filter _ (show dz.Pairwise (· ≠ ·) by decide));show jT.mpr (h.imp λh e=>h^Option.some.inj e);let#[p,_,rfl]:=aE.mp hx;rw[ay.mp hy] at e;cases e
theorem Qj(h:(cF rs i)[j]?=some t):((i:Int),t)∉bq rs i++((cF rs i).take j).map (λt=>((i:Int),t)):=by
 intro hm;rcases aJ.mp hm with hm|hm
 .unfold bq at hm;let#[k,hk,hz]:=qg.mp hm;let#[u,_,e]:=aE.mp hz;have e1:(k:Int)=(i:Int):=congrArg Prod.fst e;have:=f6.mp hk;lia
 .let#[u,hu,e]:=aE.mp hm;have e2:u=t:=congrArg Prod.snd e;subst e2;let#[m,hm,e3]:=List.mem_take_iff_getElem.mp hu;have hj:=(e9 h);let#[hjl,hje]:=hj;have:=(wW^AG rs i).mp^e3.trans hje.symm;lia
inductive L6(P:Program)(w:World)(vs:List V)(H:Hp)(Q:VK)(_:XK):Prop|mk(c:Addr)(us:List V)(rs:List Row)(_:vs=[.ref c])(_:H c=some^.lst us)(_:Rows H us rs)(_:(∀r∈rs,r.ok rs.length))(_:rs.length<=2000)(_:∀(d:Addr)(ep:Nat)(kvs:gA)(H':Hp),aA H H'->H d=none->H' d=some^.ext (dQ P w d ep kvs)->cE H' kvs->kvs.map (·.1)=bq rs rs.length->eZ H' rs kvs->Q (.ref d) H')
set_option maxHeartbeats 40000000 in
theorem yD:T.rY∩(5,L6 P w):=by
 exists T.rY,gk,#[c,us,rs,rfl,hc,hrs,hok,hn,q],"+/1:JW *0+/2Ý+Dm*0t2P?3U?4+/5¯G13Zn.D¼-5*:El -4-5*1t2P?6U?7.Þ2=-3*67.<2",8;lk;show#[c,us,rs,rfl,hc,hrs,hok,hn,λlv as H1 s1 _ Dy Dr _ _ _ hL=>?_];lk;rename_i d ep H2 n2;have fd:=(show H d=none from s1.free n2.1);have s2:=s1.trans n2.same;have hd2:=n2.self;have TF:=n2.keep Dy;have Ve:AD H2 as rs:=λk a e=>let⟨vs,h1,h2⟩:=hL k a e;#[vs,n2.keep h1,h2.same n2.same];have fd1:=n2.1;have s12:=n2.same;clear n2;have FN:=hrs.length;show xN (xs:=us) (λi σ' H'=>(∃y3 y4 y5 y6 y7,σ'=[some^.ref c,some^.ref lv,some^.ref d,y3,y4,y5,y6,y7])/\aA H1 H'/\∃ep kvs,H' d=some^.ext (dQ P w d ep kvs)/\cE H' kvs/\kvs.map (·.1)=bq rs i/\eZ H' rs kvs) ?_ ?_ ?_ ?_;show#[#[_,_,_,_,_,rfl],s12,ep,[],hd2,(λx hx=>nomatch hx),rfl,λx hx=>nomatch hx];rintro i σ' H' _ ⟨_,s',_⟩;show bG.of^s' _ _^s1 _ _ hc
 .rintro i x p σ' H3 H4 hx ⟨⟨y3,y4,y5,y6,y7,rfl⟩,s3,ep3,kvs,vI,Zl,em,hla⟩ n4;let#[r,Tq,a,rfl,ha]:=bu hrs hx;have L7:=hok r^gq Tq;have VS:aA H1 H4:=s3.trans n4.same;have J4:=n4.keep vI;have Zr:=Zl.same n4.same;have ab8:=eZ.same hla n4.same;lk;have hil:=(e9 Tq).1;obtain⟨al,hal⟩:∃a,as[i]?=some a:=#[_,fh ∅];let#[ws,hws,hps]:=hL i al hal;have ahd:=VS _ _ hws;have hwl:=hps.length;have VH:=om rs i;clear n4 vI Zl hla;show cZ (bG.of^VS _ _ Dy) (v:=.ref al) (fR (by rw[aV,hal];rfl)) ?_;lk;rename_i mk H5 n5 tg H6 n6;have s46:=n5.same.trans n6.same;have Zu:=VS.trans s46;have htg:=n6.self;have hts:lA H6 (ws++[.str "mark"])^cF rs i:=gU (HG^hps.same Zu)^.cons rfl .nil;have HH:=s46 _ _ J4;have hk6:=Zr.same s46;have ahe:=eZ.same ab8 s46;clear n5 n6 s46 J4 Zr ab8 ahd;show#[a,tg,lv,r,_,cF rs i,as,rs,rfl,Zu _ _^s1 _ _ ha,L7,htg,hts,bg (qC rs i)^by decide,AF rs i,Zu _ _ Dy,Dr,λk a e=>let⟨vs,h1,h2⟩:=hL k a e;#[vs,Zu _ _ h1,h2.same Zu],λl bs H7 s7 _ hl Em=>?_];lk;have Ng:=s7 _ _ HH;have hk7:=hk6.same s7;have Qk:=eZ.same ahe s7;have ahf:=hts.same s7;have ahg:=s7 _ _ htg;have hbl:=Em.1;have htl:=hts.length;have j7:kvs.length<=17*rs.length:=by have h1:=congrArg List.length em;rw[ao] at h1;have h2:=r9 rs i;have h3:17*i<=17*rs.length:=Nat.mul_le_mul_left _ ∅;lia
  have hld:l≠d:=λz=>by rw[z,Ng] at hl;cases hl
  have htd:tg≠d:=λz=>by rw[z,HH] at htg;cases htg
  have acd:=qC rs i;show aaX (t1:=false) (t2:=false) (λj σ' H'=>(∃y6 y7,σ'=[some^.ref c,some^.ref lv,some^.ref d,some^.int (i:Int),some^.ref a,some^.ref tg,y6,y7])/\(∀b o,b≠d->H7 b=some o->H' b=some o)/\∃ep kvs',H' d=some^.ext (dQ P w d ep kvs')/\cE H' kvs'/\kvs'.map (·.1)=bq rs i++((cF rs i).take j).map (λt=>((i:Int),t))/\eZ H' rs kvs') ?_ ?_ ?_ ?_;show#[#[_,_,rfl],λb o _ e=>e,ep3,kvs,Ng,hk7,by simpa using em,Qk];rintro j σ' H' _ ⟨_,k',_⟩;show#[bG.of^k' _ _ htd ahg,bG.of^k' _ _ hld hl]
  .rintro j x y p σ' H8 H9 hx hy ⟨⟨y6,y7,rfl⟩,k8,ep8,TH,RE,hk8,Zv,Yy⟩ n9;let#[t,htj,hxt]:=bu ahf hx;rw[aV] at hy;let#[b,hbj,rfl]:=cG.mp hy;let#[h0b,bvs,bks,hb7,ahh,ahi]:=Em.2 j b t hbj htj;lk;rename_i tu BY HJ;have hbd:b≠d:=λz=>by rw[z,HH] at h0b;cases h0b
   have nd7:∀{c:Addr}{zs:List V},H7 c=some^.tup zs->c≠d:=λe z=>by rw[z,Ng] at e;cases e
   have t8:∀{v:V}{u:HM.fG},fK H7 u v->fK H8 u v:=λ{v u} h=>by
    cases u with
    | none=>show h
    | some q=>let#[c,e1,e2]:=h;show#[c,e1,k8 _ _ (nd7 e2) e2]
   have h8:∀(v:V)(k:HM.bB),bf H7 v k->bf H8 v k:=λv k ⟨c,u,e1,e2,e3⟩=>#[c,u,e1,k8 _ _ (nd7 e2) e2,t8 e3];have Eo:=n9.same.trans HJ.same;have Ql:=Eo _ _ RE;have hkey:bf BY (.ref tu) ((i:Int),t):=#[tu,x,rfl,HJ.self,fK.same (t8 hxt) Eo];have ajX:TH.length<=17*i+17:=by have h1:=congrArg List.length Zv;rw[ao,aF,ao,cu] at h1;have h2:=r9 rs i;lia
   show Pe Ql (hk8.same Eo) hkey ∅ ?_;intro uH JX vg;have hnew:((i:Int),t)∉TH.map (·.1):=by rw[Zv];show Qj htj
   rw[ya hnew] at vg;show#[#[_,_,rfl],λb o hb e=>vg.keep hb^Eo _ _^k8 b o hb e,uH,_,vg.self,λz hz=>?_,?_,λz hz=>?_];rcases aJ.mp hz with hz|hz;show bf.En ((hk8.same Eo) z hz) Ql vg;rw[ay.mp hz];show bf.En hkey Ql vg;rw[bA,Zv,bT,htj,bA,jq];rfl
   .rcases aJ.mp hz with hz|hz;show eZ.En (eZ.same Yy Eo) Ql vg z hz;rw[ay.mp hz];show#[b,bvs,bks,i,r,rfl,vg.keep hbd^Eo _ _^k8 _ _ hbd hb7,dW (λv k h=>bf.En (bf.same (h8 v k h) Eo) Ql vg) ahh,rfl,Tq,ahi]
  .rintro σ' H8 ⟨⟨y6,y7,rfl⟩,k8,ep8,TH,RE,hk8,Zv,Yy⟩;rw[ao,hbl,htl,Nat.min_self,bU,<- qD] at Zv;show ace _ _ ?_;show#[#[_,_,_,_,_,rfl],λb o e=>k8 b o (λz=>by subst z;rw[fd1] at e;cases e)^s7 _ _^Zu _ _ e,ep8,TH,RE,hk8,Zv,Yy]
 .rintro σ' H3 ⟨⟨y3,y4,y5,y6,y7,rfl⟩,s3,ep3,kvs,vI,Zl,em,hla⟩;rw[FN] at em;lk;show q d ep3 kvs H3 (s1.trans s3) fd vI Zl em hla
section
variable {α:Type} [DecidableEq α]
noncomputable def d9(L:α->List α)(ks:List α)(o:α):List α:=ks.flatMap λx=>((L x).filter λz=>decide (z=o)).map λ_=>x
def VT(L:α->List α)(F:List (α×Int)):Prop:=∀x∈F,1<=x.2/\(∀o∈L x.1,∃m,(o,m)∈F/\m<x.2)/\(x.2=1/\L x.1=[]\/∃o∈L x.1,(o,x.2-1)∈F)
structure AH (ks:List α) (L:α->List α) (F:List (α×Int)):Prop where
 nd:(F.map (·.1)).Nodup
 sub:∀x∈F,x.1∈ks
 fin:VT L F
 out:∀h∈ks,h∉F.map (·.1)->∃o∈L h,o∉F.map (·.1)
noncomputable def pY(L:α->List α)(G:List α)(h:α):Nat:=((L h).filter λo=>decide (o∉G)).length
structure jb (ks:List α) (L:α->List α) (F:List (α×Int)) (w:α->Int) (R:List α):Prop where
 nd:(F.map (·.1)).Nodup
 sub:∀x∈F,x.1∈ks
 fin:VT L F
 cnt:∀h∈ks,w h=pY L (F.map (·.1)) h
 Yz:R.Nodup
 RG:∀h,h∈R↔h∈ks/\h∉F.map (·.1)/\w h=0
def L8{L:α->List α}{G:List α}{h:α}(e:pY L G h=0):∀o∈L h,o∈G:=λo ho=>wQ λn=>by have:o∈(L h).filter λo=>decide (o∉G):=dS.mpr #[ho,decide_eq_true n];rw[pY] at e;rw[List.length_eq_zero_iff.mp e] at this;show nomatch this
def jb.done{ks:List α}{L:α->List α}{F:List (α×Int)}{w:α->Int}(v:jb ks L F w []):AH ks L F:=by
 show#[v.nd,v.sub,v.fin,λh hk hf=>wQ λn=>?_];have:h∈([]:List α):=(v.RG h).mpr #[hk,hf,by
  rw[v.cnt h hk];have:(L h).filter (λo=>decide (o∉F.map (·.1)))=[]:=List.filter_eq_nil_iff.mpr λo ho e=>n #[o,ho,of_decide_eq_true e];rw[pY,this];rfl]
 show nomatch this
def jb.start{ks:List α}{L:α->List α}(nd:ks.Nodup):jb ks L [] (λh=>((L h).length:Int)) (ks.filter λh=>decide (((L h).length:Int)=0)):=by
 show#[.nil,(λx hx=>nomatch hx),(λx hx=>nomatch hx),λh _=>?_,List.Pairwise.filter _ nd,λh=>?_]
 .have:(L h).filter (λo=>decide (o∉List.map (·.1) ([]:List (α×Int))))=L h:=List.filter_eq_self.mpr λo _=>by simp
  rw[pY,this]
 .rw[dS];simp
def Qm{L:α->List α}{o x:α}:∀{ks:List α},ks.Nodup->x∈ks->(d9 L ks o).count x=(L x).count o:=by
 intro ks;have each:∀y,(((L y).filter λz=>decide (z=o)).map λ_=>y).count x=if y=x then(L x).count o else 0:=λy=>by generalize hn:((L y).filter λz=>decide (z=o))=l;have e:l.map (λ_=>y)=List.replicate l.length y:=List.map_const';rw[e,List.count_replicate];by_cases hy:y=x;subst hy;erw[BEq.rfl,if_true];rw[<- hn,List.count_eq_length_filter];show congrArg List.length (List.filter_congr λz _=>by by_cases hz:z=o<;>simp[hz]);rw[if_neg hy,if_neg^by simpa using hy]
 induction ks with
 | nil=>intro _ h;show nomatch h
 | cons y ks ih =>
  intro nd hx;have nd2:=jv.mp nd;rw[d9,sR,List.count_append,each];by_cases hy:y=x
  .subst hy;rw[if_pos rfl];have z:(ks.flatMap λx=>((L x).filter λz=>decide (z=o)).map λ_=>x).count y=0:=by rw[List.count_eq_zero];intro hm;let#[a,ha,hb]:=qg.mp hm;let#[_,_,rfl]:=aE.mp hb;show nd2.1 ha
   rw[z];rfl
  .rw[if_neg hy,Nat.zero_add];show ih nd2.2 ((aG.mp hx).resolve_left λe=>hy e.symm)
def Qn{L:α->List α}{ks:List α}{o x:α}:x∈d9 L ks o↔x∈ks/\o∈L x:=by unfold d9;rw[qg];constructor;rintro⟨y,hy,hx⟩;let#[z,hz,rfl]:=aE.mp hx;let#[h1,h2]:=dS.mp hz;rw[of_decide_eq_true h2] at h1;show#[hy,h1];rintro⟨hx,ho⟩;show#[x,hx,aE.mpr #[o,dS.mpr #[ho,by simp],rfl]]
theorem Ma{L:α->List α}{G:List α}{h x:α}(hG:h∉G):pY L G x=pY L (G++[h]) x+(L x).count h:=by
 unfold pY;induction L x with
 | nil=>rfl
 | cons o l ih =>
  by_cases e:o=h;subst e;rw[wU^by simpa using hG,wR^by simp,List.count_cons_self,ck,ih];lia;rw[List.count_cons_of_ne e];by_cases g:o∈G;rw[wR^by simp[g],wR^by simp[g],ih];rw[wU^by simp[g],wU^by simp[g,e],ck,ck,ih];lia
structure sj (ks:List α) (L:α->List α) (G:List α) (E:List α) (j:Nat) (w:α->Int) (R:List α):Prop where
 cnt:∀x∈ks,w x=pY L G x+((E.drop j).count x:Nat)
 Yz:R.Nodup
 RG:∀x,x∈R↔x∈ks/\x∉G/\w x=0
theorem jb.pop{ks:List α}{L:α->List α}{F:List (α×Int)}{w:α->Int}{R:List α}{h:α}(nd:ks.Nodup)(v:jb ks L F w (R++[h])):
  h∈ks/\h∉F.map (·.1)/\(∀o∈L h,o∈F.map (·.1))/\sj ks L (F.map (·.1)++[h]) (d9 L ks h) 0 w R:=by let#[h1,h2,h3]:=(v.RG h).mp (by simp);have h4:=v.cnt h h1;show#[h1,h2,L8 ∅,λx hx=>?_,(f7.mp v.Yz).1,λx=>?_];rw[v.cnt x hx,List.drop_zero,Qm nd hx,Ma h2];simp;have hR:h∉R:=λz=>(f7.mp v.Yz).2.2 h z h (by simp) rfl;have:=v.RG x;rw[aJ,ay] at this ⊢;constructor;intro hx;let#[a,b,c]:=this.mp^.inl hx;show#[a,λz=>z.elim b λe=>hR (e▸hx),c];rintro⟨a,b,c⟩;show(this.mpr #[a,λz=>b^.inl z,c]).resolve_right λe=>b^.inr e
noncomputable def yE(w:α->β)(x:α)(n:β):α->β:=λy=>if y=x then n else w y
theorem sj.next{ks:List α}{L:α->List α}{G:List α}{h:α}{w:α->Int}{R:List α}{x:α}(v:sj ks L (G++[h]) (d9 L ks h) j w R)
  (cl:∀y∈ks,y∈G->∀o∈L y,o∈G)(hG:h∉G)(hL:∀o∈L h,o∈G)(hx:(d9 L ks h)[j]?=some x):
  1<=w x/\x∈ks/\(w x-1=0->sj ks L (G++[h]) (d9 L ks h) (j+1) (yE w x (w x-1)) (R++[x]))/\(w x-1≠0->sj ks L (G++[h]) (d9 L ks h) (j+1) (yE w x (w x-1)) R):=by
 let#[hk,hh]:=Qn.mp^gq hx;let#[hj,ej]:=e9 hx;have c:=v.cnt x hk;have ed:∀y,((d9 L ks h).drop j).count y=((d9 L ks h).drop (j+1)).count y+if x=y then 1 else 0:=λy=>by rw[A3 hj,ej,List.count_cons];by_cases e:x=y<;>simp[e]
 have hw:1<=w x:=by have:=ed x;rw[if_pos rfl] at this;lia
 have xG:x∉G++[h]:=λz=>by rcases aJ.mp z with z|z;show hG^cl x hk z h hh;rw[ay.mp z] at hh;show hG^hL h hh
 have cnt:∀y∈ks,yE w x (w x-1) y=pY L (G++[h]) y+(((d9 L ks h).drop (j+1)).count y:Nat):=λy hy=>by have c:=v.cnt y hy;have e:=ed y;unfold yE;by_cases hyx:y=x;subst hyx;rw[if_pos rfl] at e ⊢;lia;rw[if_neg λz=>hyx z.symm] at e;rw[if_neg hyx];lia
 have xR:x∉R:=λz=>by have:=((v.RG x).mp z).2.2;lia
 show#[hw,hk,λe0=>#[cnt,?_,λy=>?_],λe0=>#[cnt,v.Yz,λy=>?_]];rw[f7];show#[v.Yz,by simp,λa ha b hb e=>xR (by rw[ay.mp hb] at e;show e▸ha)];rw[aJ,ay];unfold yE;by_cases hyx:y=x;subst hyx;rw[if_pos rfl];show#[λ_=>#[hk,xG,e0],λ_=>.inr rfl];rw[if_neg hyx];show#[λz=>(v.RG y).mp^z.resolve_right hyx,λz=>.inl^(v.RG y).mpr z];unfold yE;by_cases hyx:y=x;subst hyx;rw[if_pos rfl];show#[λz=>absurd z xR,λz=>absurd z.2.2 e0];rw[if_neg hyx];show v.RG y
theorem sj.end{ks:List α}{L:α->List α}{F:List (α×Int)}{h:α}{n:Int}{w0 w:α->Int}{R0 R E:List α}(v0:jb ks L F w0 R0)(v:sj ks L (F.map (·.1)++[h]) E E.length w R)(hk:h∈ks)(hF:h∉F.map (·.1))(hL:∀o∈L h,o∈F.map (·.1))(e:n=1+m)
  (h0:L h=[]->m=0)(h1:L h≠[]->(∃o∈L h,(o,m)∈F)/\∀o∈L h,∀k,(o,k)∈F->k<=m):jb ks L (F++[(h,n)]) w R:=by
 have em:(F++[(h,n)]).map (·.1)=F.map (·.1)++[h]:=by simp
 have up:∀o k,(o,k)∈F->(o,k)∈F++[(h,n)]:=λo k z=>iw _ z;show#[?_,λx hx=>?_,λx hx=>?_,λx hx=>?_,v.Yz,?_];rw[em,f7];show#[v0.nd,by simp,λa ha b hb z=>hF (by rw[ay.mp hb] at z;show z▸ha)];rcases aJ.mp hx with z|z;show v0.sub x z;rw[ay.mp z];show hk
 .rcases aJ.mp hx with z|z;let#[a,b,c]:=v0.fin x z;show#[a,λo ho=>let⟨k,c,d⟩:=b o ho;#[k,up _ _ c,d],c.imp_right λ⟨o,ho,c⟩=>#[o,ho,up _ _ c]];rw[ay.mp z];dsimp only;by_cases hn:L h=[];have:=h0 hn;rw[hn];show#[∅,(λo ho=>nomatch ho),.inl #[∅,rfl]];let#[#[o,ho,hm],hle]:=h1 hn;have:=(v0.fin _ hm).1;dsimp only at this;show#[∅,λo ho=>?_,.inr #[o,ho,?_]];let#[#[_,k],hx,rfl]:=aE.mp^hL o ho;have:=hle _ ho k hx;show#[k,up _ _ hx,∅];rw[show n-1=m by lia];show up _ _ hm
 .rw[em,v.cnt x hx,List.drop_length];simp
 .rw[em];show v.RG
theorem pH{β:Type}:∀{F:List (α×β)}{o:α}{a b:β},(F.map (·.1)).Nodup->(o,a)∈F->(o,b)∈F->a=b
 | [],_,_,_,_,h,_=>nomatch h
 | x::F,o,a,b,nd,ha,hb=>by rw[bR,jv] at nd;rcases aG.mp ha with e1|h1<;>rcases aG.mp hb with e2|h2;show congrArg Prod.snd^e1.trans e2.symm;show absurd (by rw[<- e1];show aE.mpr #[_,h2,rfl]) nd.1;show absurd (by rw[<- e2];show aE.mpr #[_,h1,rfl]) nd.1;show pH nd.2 h1 h2
end
def HK(H H':Hp):Prop:=∀b vs,H b=some^.tup vs->H' b=some^.tup vs
def sr{xs:List V}(hf:H f=some^.lst xs)(p:tR H f o H'):HK H H':=λb vs h=>p.keep (by intro z;subst z;rw[hf] at h;cases h) h
def Ep(hf:H f=some^.ext φ)(p:tR H f o H'):HK H H':=λb vs h=>p.keep (by intro z;subst z;rw[hf] at h;cases h) h
def fK.tups(h:fK H t v)(s:HK H H'):fK H' t v:=by
 cases t with
 | none=>show h
 | some p2=>let#[b,e1,e2]:=h;show#[b,e1,s _ _ e2]
theorem bf.tups{k:HM.bB}(h:bf H v k)(s:HK H H'):bf H' v k:=by let#[a,u,e,h1,h2]:=h;show#[a,u,e,s _ _ h1,fK.tups h2 s]
theorem bJ.tups(h:bJ H vs ks)(s:HK H H'):bJ H' vs ks:=dW (λ_ _ x=>bf.tups x s) h
theorem cE.tups(h:cE H kvs)(s:HK H H'):cE H' kvs:=λx hx=>bf.tups (h x hx) s
def iE(H:Hp)(kvs:gA)(L:HM.bB->List HM.bB):Prop:=∀x∈kvs,∃a vs,x.2.2=V.ref a/\H a=some^.lst vs/\bJ H vs^L x.1
theorem iE.same{L:HM.bB->List HM.bB}(h:iE H kvs L)(s:aA H H'):iE H' kvs L:=λx hx=>let⟨a,vs,h1,h2,h3⟩:=h x hx;#[a,vs,h1,s _ _ h2,bJ.same h3 s]
theorem yF:∀{kvs:gA}{x:HM.bB×Addr×V},(kvs.map (·.1)).Nodup->x∈kvs->kN kvs x.1=some x.2.2
 | [],_,_,hx=>nomatch hx
 | y::kvs,x,nd,hx=>by
  rw[bR,jv] at nd;unfold kN;rw[iN];rcases aG.mp hx with rfl|hx;simp
  .have ne:¬y.1=x.1:=λe=>nd.1 (e▸nH hx);rw[decide_eq_false ne];show yF nd.2 hx
def wm{k:HM.bB}(nd:(kvs.map (·.1)).Nodup)(hk:k∈kvs.map (·.1)):∃x∈kvs,x.1=k/\kN kvs k=some x.2.2:=by let#[x,hx,rfl]:=aE.mp hk;show#[x,hx,rfl,yF nd hx]
def jG(ks:List HM.bB)(L:HM.bB->List HM.bB):Prop:=ks.Nodup/\ks.length<=40000/\∀k∈ks,(L k).length<=4/\∀o∈L k,o∈ks
theorem Er(L:HM.bB->List HM.bB)(o:HM.bB):∀ks:List HM.bB,(∀k∈ks,(L k).length<=4)->(d9 L ks o).length<=4*ks.length
 | [],_=>by simp[d9]
 | k::ks,h=>by have h1:=Er L o ks λk hk=>h k^cM _ hk;have h2:=h k (by simp);have h3:=ju (λz=>decide (z=o))^L k;unfold d9 at h1 ⊢;rw[sR,aF,ao,ck];lia
def HL(H0 H:Hp)(kvs:gA)(L:HM.bB->List HM.bB):Prop:=(kvs.map (·.2.2)).Nodup/\∀x∈kvs,∃a vs,x.2.2=V.ref a/\H0 a=none/\H a=some^.lst vs/\bJ H vs^L x.1
theorem HL.same{H0:Hp}{L:HM.bB->List HM.bB}(h:HL H0 H kvs L)(s:aA H H'):HL H0 H' kvs L:=#[h.1,λx hx=>let⟨a,vs,h1,h0,h2,h3⟩:=h.2 x hx;#[a,vs,h1,h0,s _ _ h2,bJ.same h3 s]]
theorem HN:∀{kvs:gA}{x y:HM.bB×Addr×V},(kvs.map (·.2.2)).Nodup->x∈kvs->y∈kvs->x.2.2=y.2.2->x=y
 | [],_,_,_,hx,_,_=>nomatch hx
 | z::kvs,x,y,nd,hx,hy,e=>by rw[bR,jv] at nd;rcases aG.mp hx with e1|h1<;>rcases aG.mp hy with e2|h2;rw[e1,e2];show absurd (by rw[<- e1,e];show nH h2) nd.1;show absurd (by rw[<- e2,<- e];show nH h1) nd.1;show HN nd.2 h1 h2 e
inductive Qo(P:Program)(w:World)(vs:List V)(H:Hp)(Q:VK)(_:XK):Prop|mk(d:Addr)(ep:Nat)(kvs:gA)(L:HM.bB->List HM.bB)(_:vs=[.ref d])(_:H d=some^.ext (dQ P w d ep kvs))(_:cE H kvs)(_:iE H kvs L)(_:jG (kvs.map (·.1)) L)(_:∀(d':Addr)(uH:Nat)(kvs':gA)(H':Hp),aA H H'->H d'=none->H' d'=some^.ext (dQ P w d' uH kvs')->cE H' kvs'->kvs'.map (·.1)=kvs.map (·.1)->iE H' kvs'^d9 L^kvs.map (·.1)->Q (.ref d') H')
set_option maxHeartbeats 40000000 in
theorem Mb:T.turned∩(1,Qo P w):=by
 exists T.turned,o9,#[d,ep,kvs,L,rfl,hd,hk,hl,#[nd,hn,hL],q],"+/1bßÅÆ*«µ0E=-0*N+Dµ0?2.DC¤02?3.IW¤13*2.<1",4,(λ_ _=>rfl),(λ_ _=>rfl);rw[ao] at hn;lk;show BG (kvs:=kvs) (λi ys H'=>aA H H'/\∃ps:gA,ps.map (·.1)=(kvs.take i).map (·.1)/\rD H' ys ps/\HL H H' ps λ_=>[]) #[aA.refl _,[],by simp,.nil,.nil,λx hx=>nomatch hx] ?_ ?_ ?_;rintro i ys H' _ ⟨s',_⟩;show s' _ _ hd
 .rintro i e ys H1 he ⟨s1,ps,VU,hps,own⟩;have hil:=(e9 he).1;have hpl:=hps.length;have h2:=congrArg List.length VU;rw[ao,ao,cu] at h2;show#[bV ∅,?_];lk;rename_i a H2 n2 t H3 n3;have s3:=n2.same.trans n3.same;show#[s1.trans s3,ps++[(e.1,e.2.1,.ref a)],?_,dD (dW (λu p ⟨t,h1,h2,h3⟩=>#[t,h1,s3 _ _ h2,bf.same h3 s3]) hps) #[t,rfl,n3.self,bf.same (hk e^gq he)^s1.trans s3],?_,λx hx=>?_];rw[bA,VU,bT,he,bA];rfl;rw[bA,f7];show#[own.1,by simp,λx hx y hy e=>?_];let#[z,hz,rfl]:=aE.mp hx;let#[b,vs,h1,_,h3,_]:=own.2 z hz;rw[List.map_singleton,ay] at hy;subst hy;rw[h1] at e;cases e;rw[n2.1] at h3;cases h3;rcases aJ.mp hx with hx|hx;show(HL.same own s3).2 x hx;rw[ay.mp hx];show#[a,[],rfl,s1.free n2.1,n3.keep n2.self,.nil]
 rintro ys H1 ⟨s1,ps,VU,hps,own⟩ l H2 n2;rw[bU] at VU;lk;show Ju (bG.of n2.self) (dW (λu p ⟨t,h1,h2,h3⟩=>#[t,h1,n2.keep h2,bf.same h3 n2.same]) hps) (by rw[VU];show nd) ?_;intro f Lj H3 n3;have s23:=n2.same.trans n3.same;have s3:=s1.trans s23;have ff:H f=none:=(s1.trans n2.same).free n3.1;have hf:=n3.self;have ahj:=own.same s23;have hpk:cE H3 ps:=λx hx=>by let#[i,hi,rfl]:=jS.mp hx;let#[t,_,_,h]:=yc hps hi;rw[vD,fh hi] at h;show bf.same h s23
 clear n2 n3 s23 own hps s1;have ndp:(ps.map (·.1)).Nodup:=by rw[VU];show nd
 have e0:∀o,d9 L [] o=[]:=λo=>rfl;lk;show SR (λi σ' H'=>(∃y z,σ'=[some^.ref d,some^.ref f,y,z])/\aA H H'/\H' f=some^.ext (dQ P w f Lj ps)/\cE H' ps/\HL H H' ps^d9 L^(kvs.map (·.1)).take i) ?_ ?_ ?_ ?_;show#[#[_,_,rfl],s3,hf,hpk,by rw[List.take_zero];show ahj];rintro i σ' H' _ ⟨_,s',_⟩;show s' _ _ hd
 .rintro i e σ' H4 he ⟨⟨y,z,rfl⟩,s4,FP,YA,TJ⟩;have hem:=gq he;let#[a,vs,ea,ha,hvs]:=hl e hem;have hil:=(e9 he).1;have hLe:=hL e.1^nH hem;have hvl:=hvs.length;lk;show pT (s4 _ _ hd) (hk.same s4) (bf.same (hk e hem) s4) ((yF nd hem).trans^congrArg some ea) ?_;lk;show f_list (xs:=vs) (λj σ' H'=>(∃z,σ'=[some^.ref d,some^.ref f,some^.ref e.2.1,z])/\aA H H'/\H' f=some^.ext (dQ P w f Lj ps)/\cE H' ps/\HL H H' ps (λo=>d9 L ((kvs.map (·.1)).take i) o++(((L e.1).take j).filter λz=>decide (z=o)).map λ_=>e.1)) ?_ ?_ ?_ ?_;show#[#[_,rfl],s4,FP,YA,?_];simpa using TJ;rintro j σ' H' _ ⟨_,s',_⟩;show bG.of^s' _ _ ha
  .rintro j x σ' H5 hx ⟨⟨z,rfl⟩,s5,P7,TL,HP⟩;let#[o,ho,hxo]:=bu hvs hx;have hom:=hLe.2 o^gq ho;let#[p,hp,rfl,fW]:=wm ndp (by rw[VU];show hom);let#[b,bs,eb,fb,hb,Em]:=HP.2 p hp;have ahk:=bf.same hxo s5;let#[xa,xu,rfl,hxa,hxu]:=hxo;have hbl:bs.length<1000000:=by have h1:=Em.length;have h2:=Er L p.1 ((kvs.map (·.1)).take i) λk hk=>(hL k^List.take_subset _ _ hk).1;have h3:=ju (λz=>decide (z=p.1))^(L e.1).take j;rw[aF,ao] at h1;rw[cu,ao] at h2;rw[cu] at h3;lia
   lk;show pT P7 TL ahk (fW.trans^congrArg some eb) ?_;lk;rename_i H6 p6;have hfb:f≠b:=λz=>by rw[z,hb] at P7;cases P7
   have t6:=sr hb p6;show#[#[_,rfl],p6.same s5 fb,p6.keep hfb P7,cE.tups TL t6,HP.1,λx hx=>?_];by_cases hxp:x=p
   .subst hxp;show#[b,_,eb,fb,p6.self,?_];dsimp only;rw[bT,ho,jr,bA,<- jq];have e1:List.filter (λz=>decide (z=x.1)) (some x.1).toList=[x.1]:=by simp
    rw[e1];show dD (bJ.tups Em t6)^bf.tups (bf.same (hk e hem) s5) t6
   .let#[c,cs,ec,fc,hc,hcs]:=HP.2 x hx;show#[c,cs,ec,fc,p6.keep (λz=>hxp^HN HP.1 hx hp^by rw[ec,eb,z]) hc,?_];have hne:¬p.1=x.1:=λz=>by have h1:=yF ndp hx;rw[<- z,fW] at h1;show hxp^HN HP.1 hx hp (Option.some.inj h1).symm
    dsimp only;rw[bT,ho,jr,bA];have e1:List.filter (λz=>decide (z=x.1)) (some p.1).toList=[]:=by simp[hne]
    rw[e1,List.map_nil,fH];show bJ.tups hcs t6
  .rintro σ' H5 ⟨⟨z,rfl⟩,s5,P7,TL,HP⟩;show#[#[_,_,rfl],s5,P7,TL,?_];have e1:(λo=>d9 L ((kvs.map (·.1)).take i) o++(((L e.1).take vs.length).filter λz=>decide (z=o)).map λ_=>e.1)=d9 L^(kvs.map (·.1)).take (i+1):=by funext o;rw[hvl,bU,bT,aV,he];unfold d9;rw[List.flatMap_append];simp
   rw[<- e1];show HP
 .rintro σ' H4 ⟨⟨y,z,rfl⟩,s4,FP,YA,TJ⟩;rw[<- ao (f:=λx:HM.bB×Addr×V=>x.1),bU] at TJ;lk;show q f Lj ps H4 s4 ff FP YA VU λx hx=>let⟨a,vs,h1,_,h2,h3⟩:=TJ.2 x hx;#[a,vs,h1,h2,h3]
def iF(kvs:gA)(F:List (HM.bB×Int)):Prop:=kvs.map (λx=>(x.1,x.2.2))=F.map λp=>(p.1,V.int p.2)
def iF.keys{F:List (HM.bB×Int)}(e:iF kvs F):kvs.map (·.1)=F.map (·.1):=by have h:=congrArg (List.map (·.1)) e;rw[fJ,fJ] at h;show h
theorem Es:∀{kvs:gA}{F:List (HM.bB×Int)},iF kvs F->∀{o:HM.bB},o∈F.map (·.1)->∃n,(o,n)∈F/\kN kvs o=some (.int n)
 | [],[],_,_,ho=>nomatch ho
 | [],_::_,e,_,_=>nomatch e
 | _::_,[],e,_,_=>nomatch e
 | x::kvs,y::F,e,o,ho=>by unfold iF at e;rw[bR,bR] at e;let#[e1,e2]:=List.cons.inj e;have a1:x.1=y.1:=congrArg Prod.fst e1;have a2:x.2.2=V.int y.2:=congrArg Prod.snd e1;unfold kN;rw[iN];by_cases h:x.1=o;rw[decide_eq_true h];show#[y.2,by rw[<- h,a1];simp,congrArg some a2];rw[decide_eq_false h];rw[bR] at ho;let#[n,h1,h2]:=Es (kvs:=kvs) (F:=F) e2 ((aG.mp ho).resolve_left λz=>h^a1.trans z.symm);show#[n,cM _ h1,h2]
def Qp{F:List (HM.bB×Int)}{k:HM.bB}{n:Int}(e:iF kvs F)(hk:k∉F.map (·.1)):kX kvs k a^.int n=kvs++[(k,a,.int n)]/\iF (kvs++[(k,a,.int n)]) (F++[(k,n)]):=by show#[ya (by rw[e.keys];show hk),?_];unfold iF at e ⊢;rw[bA,bA,e];rfl
theorem su:∀{kvs:gA}{k:HM.bB},k∈kvs.map (·.1)->(kN kvs k).isSome=true
 | [],_,h=>nomatch h
 | x::kvs,k,h=>by unfold kN;rw[iN];by_cases e:x.1=k;rw[decide_eq_true e];rfl;rw[decide_eq_false e];show su (kvs:=kvs) ((aG.mp h).resolve_left λz=>e z.symm)
def FnAt(kvs:gA)(ks:List HM.bB)(g:HM.bB->Int):Prop:=kvs.map (·.1)=ks/\∀x∈kvs,x.2.2=V.int^g x.1
def FnAt.val{g:HM.bB->Int}(h:FnAt kvs ks g){k:HM.bB}(hk:k∈ks):kN kvs k=some^.int^g k:=by
 have:=su (kvs:=kvs) (k:=k) (by rw[h.1];show hk);unfold kN at this ⊢;cases e:kvs.find? (λx=>decide (x.1=k)) with
 | none=>rw[e] at this;cases this
 | some x =>
  have h1:=h.2 x^List.mem_of_find?_eq_some e;have h2:=List.find?_some e;rw[of_decide_eq_true h2] at h1;show congrArg some h1
def FnAt.put{g:HM.bB->Int}(h:FnAt kvs ks g){k:HM.bB}{n:Int}(hk:k∈ks):FnAt (kX kvs k a^.int n) ks^yE g k n:=by unfold kX;rw[if_pos^su (by rw[h.1];show hk)];constructor;rw[fJ,<- h.1];apply w4;intro x _;change(if x.1=k then(x.1,x.2.1,V.int n) else x).1=x.1;split<;>rfl;intro y hy;let#[x,hx,rfl]:=aE.mp hy;unfold yE;split;rfl;show h.2 x hx
def Qq{k:HM.bB}(h:cE H kvs)(hk:k∈kvs.map (·.1)):cE H^kX kvs k a v:=by unfold kX;rw[if_pos^su hk];intro y hy;let#[x,hx,rfl]:=aE.mp hy;split;show h x hx;show h x hx
def vh{F:α->β->Prop}{xs:List α}{ys:List β}(hp:Paired F xs ys):∀{i:Nat}{y:β},ys[i]?=some y->∃x,xs[i]?=some x/\F x y:=by
 induction hp with
 | nil=>show λ{i x} h=>by simp at h
 | cons a _ ih =>
  intro i x h;cases i with
  | zero=>cases h;show#[_,rfl,a]
  | succ i=>show ih h
def Et{F:α->β->Prop}{xs:List α}:∀{x:α}{ys:List β},Paired F (xs++[x]) ys->∃ys0 y,ys=ys0++[y]/\Paired F xs ys0/\F x y:=by
 induction xs with
 | nil =>
  intro x ys h;cases h with
  | cons h t=>cases t;show#[[],_,rfl,.nil,h]
 | cons a xs ih =>
  intro x ys h;cases h with
  | cons h t =>
   let#[ys0,y,rfl,h1,h2]:=ih t;show#[_::ys0,y,rfl,.cons h h1,h2]
inductive TM(P:Program)(w:World)(vs:List V)(H:Hp)(Q:VK)(_:XK):Prop|mk(d:Addr)(ep:Nat)(kvs:gA)(L:HM.bB->List HM.bB)(_:vs=[.ref d])(_:H d=some^.ext (dQ P w d ep kvs))(_:cE H kvs)(_:iE H kvs L)(_:jG (kvs.map (·.1)) L)(_:∀(d':Addr)(uH:Nat)(kvs':gA)(F:List (HM.bB×Int))(H':Hp),aA H H'->H d'=none->H' d'=some^.ext (dQ P w d' uH kvs')->cE H' kvs'->iF kvs' F->AH (kvs.map (·.1)) L F->Q (.ref d') H')
set_option maxHeartbeats 40000000 in
theorem Qs:T.ended∩(2,TM P w):=by
 exists T.ended,jY,#[d,ep,kvs,L,rfl,hd,hk,hl,hok,q],"+/1:Mb *0+/2bßÅÆ*OHµ0E=-0*j!*!+Ç3Hµ0gY!0+/4Ý+¡¢3+/5²3+Þ45ló*OHC¤05E!.DC¤15?6+ô26.@Y¤26.IW3*6.<4",7,"harm",["later"],[0],["later"],mh (K:=K) rfl,ue (P:=P) (w:=w) rfl rfl hr.units (pv 1) (pv 0) (λ_ _=>rfl),"harm",["waiting"],[2],["waiting"],ue (P:=P) (w:=w) rfl rfl hr.units (pv 1) (pv 0) (λ_ _=>rfl),(λ_=>rfl),"other",["found"],[4],["found"],(λ_ _=>rfl),ue (P:=P) (w:=w) rfl rfl hr.units (pv 1) (pv 0) (λ_ _=>rfl),(λ_ _=>rfl),(λ_ _ _=>rfl),(λ_ _=>rfl);lk;show#[d,ep,kvs,L,rfl,hd,hk,hl,hok,λe epE ahm H1 s1 fe he hke eke hle=>?_];let#[nd,hn,hL]:=hok;generalize Mc:kvs.map (·.1)=ks at *;have hkn:kvs.length<=40000:=by rw[<- Mc,ao] at hn;show hn
 have hd1:=s1 _ _ hd;have hk1:=hk.same s1;have hl1:=iE.same hl s1;clear hd hk hl;lk;show BG (kvs:=kvs) (λi ys H'=>aA H1 H'/\rD H' ys ((kvs.take i).map λx=>(x.1,x.2.1,V.int (L x.1).length))) #[aA.refl _,by rw[List.take_zero];show .nil] ?_ ?_ ?_;rintro i ys H' _ ⟨s',_⟩;show s' _ _ hd1
 .rintro i x ys H2 hx ⟨s2,hps⟩;have hil:=(e9 hx).1;have hpl:=hps.length;rw[ao,cu] at hpl;have Qt:=gq hx;let#[a,vs,ea,ha,hvs]:=hl1 x Qt;have hvl:=hvs.length;show#[bV ∅,?_];lk;show pT (s2 _ _ hd1) (hk1.same s2) (bf.same (hk1 x Qt) s2) ((yF (by rw[Mc];show nd) Qt).trans^congrArg some ea) ?_;have ha2:=s2 _ _ ha;lk;rename_i t H3 n3;show#[s2.trans n3.same,?_];rw[bT,hx,bA];show dD (dW (λu p ⟨t,h1,h2,h3⟩=>#[t,h1,n3.keep h2,bf.same h3 n3.same]) hps) #[t,rfl,by have z:=n3.self;rw[hvl] at z;show z,bf.same (hk1 x Qt)^s2.trans n3.same]
 rintro ys H2 ⟨s2,hps⟩ l H3 n3;rw[bU] at hps;lk;show Ju (bG.of n3.self) (dW (λu p ⟨t,h1,h2,h3⟩=>#[t,h1,n3.keep h2,bf.same h3 n3.same]) hps) (by rw[fJ];show(show(kvs.map (·.1)).Nodup by rw[Mc];show nd)) ?_;intro wt epw H4 n4;have s4:aA H1 H4:=(s2.trans n3.same).trans n4.same;have fwt:H1 wt=none:=(s2.trans n3.same).free n4.1;have hwt:=n4.self;have fn4:FnAt (kvs.map λx=>(x.1,x.2.1,V.int (L x.1).length)) ks λh=>((L h).length:Int):=#[by rw[fJ];show Mc,λx hx=>by let#[y,_,rfl]:=aE.mp hx;rfl];have hwk:cE H4 (kvs.map λx=>(x.1,x.2.1,V.int (L x.1).length)):=λx hx=>by let#[y,hy,rfl]:=aE.mp hx;show bf.same (hk1 y hy) s4
 generalize (kvs.map λx=>(x.1,x.2.1,V.int (L x.1).length))=J5 at *;clear n3 n4 hps s2;lk;show BG (kvs:=kvs) (λi ys H'=>aA H4 H'/\bJ H' ys ((ks.take i).filter λh=>decide (((L h).length:Int)=0))) #[aA.refl _,.nil] ?_ ?_ ?_;rintro i ys H' _ ⟨s',_⟩;show s' _ _^s4 _ _ hd1
 .rintro i x ys H5 hx ⟨s5,hys⟩;have hil:=(e9 hx).1;have hyl:=hys.length;have hfl:=ju (λh=>decide (((L h).length:Int)=0))^ks.take i;rw[cu] at hfl;have Qt:=gq hx;have hxk:x.1∈ks:=by rw[<- Mc];show nH Qt
  have hxi:ks[i]?=some x.1:=by rw[<- Mc,aV,hx];rfl
  have hkx:=bf.same (hk1 x Qt)^s4.trans s5;show#[bV ∅,?_];lk;show pT (s5 _ _ hwt) (hwk.same s5) hkx (fn4.val hxk) ?_;lk
  .rename_i h0;show#[s5,?_];rw[bT,hxi,jr];have e1:List.filter (λh=>decide (((L h).length:Int)=0)) (some x.1).toList=[x.1]:=by simpa using h0
   rw[e1];show dD hys hkx
  .rename_i h0;show#[s5,?_];rw[bT,hxi,jr];have e1:List.filter (λh=>decide (((L h).length:Int)=0)) (some x.1).toList=[]:=by simpa using h0
   rw[e1,fH];show hys
 rintro ys H5 ⟨s5,hys⟩ rd H6 n6;have ekl:kvs.length=ks.length:=by rw[<- Mc,ao]
 rw[ekl,bU] at hys;have VI:=s5.trans n6.same;have s6:=s4.trans VI;have frd:H1 rd=none:=(s4.trans s5).free n6.1;have hrd:=n6.self;have acg:=bJ.same hys n6.same;have TN:=VI _ _ hwt;have ach:=hwk.same VI;have YB:rd≠wt:=λz=>by rw[z] at n6;have:=s5 _ _ hwt;rw[n6.1] at this;cases this
 clear n6 hys hwt hwk VI s5 s4;lk;rename_i f FQ H7 n7;have s7:=s6.trans n7.same;have ff:H1 f=none:=s6.free n7.1;have Rw:=n7.self;have Tt:=n7.keep hrd;have aho:=n7.keep TN;have Yd:=bJ.same acg n7.same;have ahp:=ach.same n7.same;have aci:f≠wt:=λz=>by rw[z] at n7;rw[n7.1] at TN;cases TN
 have YC:f≠rd:=λz=>by rw[z] at n7;rw[n7.1] at hrd;cases hrd
 clear n7 hrd TN acg ach s6;show o7 (λm σ' H'=>(∃y5 y6,σ'=[some^.ref d,some^.ref e,some^.ref wt,some^.ref rd,some^.ref f,y5,y6])/\aA H1 H'/\∃vs R epw J5 g FQ vm F,H' rd=some^.lst vs/\bJ H' vs R/\H' wt=some^.ext (dQ P w wt epw J5)/\cE H' J5/\FnAt J5 ks g/\H' f=some^.ext (dQ P w f FQ vm)/\cE H' vm/\iF vm F/\jb ks L F g R/\m=ks.length-F.length) ?_ ?_;show#[_,#[_,_,rfl],s7,ys,_,epw,J5,_,FQ,[],[],Tt,Yd,aho,ahp,fn4,Rw,(λx hx=>nomatch hx),rfl,jb.start nd,rfl];rintro m σ' H8 ⟨⟨y5,y6,rfl⟩,s8,vs,R,ahq,ahr,g,ahs,vm,F,TQ,Eu,acj,ack,fn8,VJ,YD,hF8,inv,rfl⟩;lk;have hFl:F.length<=ks.length:=by
  have:=kC inv.nd (ys:=ks) λx hx=>by let#[y,hy,rfl]:=aE.mp hx;show inv.sub y hy
  rw[ao] at this;show this
 rcases List.eq_nil_or_concat vs with rfl|⟨vs0,v,rfl⟩
 .cases Eu;show Gp rfl ?_;lk;show q f ahs vm F H8 (s1.trans s8) (s1.free ff) VJ YD hF8 inv.done
 rw[List.concat_eq_append] at TQ Eu ⊢;let#[R0,h,rfl,acm,Zw]:=Et Eu;let#[VV,hhF,hhL,inn]:=inv.pop nd;show xJ (by simp) #[_,λ_ _ x=>x,?_];lk;show s_pop TQ (y:=v) (by simp) ?_;rw[List.dropLast_concat];intro H9 p9;have t9:=sr TQ p9;have s9:=p9.same s8 frd;have Qc:=p9.self;have Qu:=bJ.tups acm t9;have TR:=bf.tups Zw t9;have acn:=p9.keep (aQ YB) acj;have aco:=cE.tups ack t9;have Rz:=p9.keep YC VJ;have YE:=cE.tups YD t9;clear p9 t9 TQ Eu acm Zw acj ack VJ YD s8;let#[x,Qt,rfl,hxv]:=wm (kvs:=kvs) (k:=h) (by rw[Mc];show nd) (by rw[Mc];show VV);let#[a,as,ea,ha,has]:=hl1 x Qt;have hL4:=hL x.1 VV;have Dr:=has.length;have hv:=TR;let#[vb,vu,rfl,_,_]:=hv;lk;show pT (s9 _ _ hd1) (hk1.same s9) TR (hxv.trans^congrArg some ea) ?_;have Ym:=s9 _ _ ha;have acp:=bJ.same has s9;have hkF:=hF8.keys;lk;show fM (xs:=as) (λj ys H'=>aA H9 H'/\∃ns:List Int,ys=ns.map V.int/\Paired (λn o=>(o,n)∈F) ns^(L x.1).take j) #[aA.refl _,[],rfl,.nil] ?_ ?_ ?_;rintro j ys H' _ ⟨s',_⟩;show bG.of^s' _ _ Ym
 .rintro j y ys BY hy ⟨nC,ns,rfl,hns⟩;let#[o,ho,hyo]:=bu acp hy;have hjl:=(e9 hy).1;have hnl:=hns.length;rw[cu] at hnl;show#[bV (by rw[ao];lia),?_];let#[n,hn1,hn2]:=Es hF8^hhL o^gq ho;have ahu:=bf.same hyo nC;let#[yb,yu,rfl,_,_]:=hyo;lk;show pT (nC _ _ Rz) (YE.same nC) ahu hn2 ?_;show#[nC,ns++[n],by simp,?_];rw[bT,ho];show dD hns hn1
 rintro ys BY ⟨nC,ns,rfl,hns⟩ ml JX qB;rw[Dr,bU] at hns;have B3:=nC.trans qB.same;have hml:=qB.self;have RA:=s9.trans B3;have VW:=B3 _ _ Qc;have JY:=bJ.same Qu B3;have J6:=bf.same TR B3;have VX:=B3 _ _ acn;have VY:=aco.same B3;have YF:=B3 _ _ Rz;have Qv:=YE.same B3;clear qB nC B3 Qc Qu TR acn aco Rz YE s9 Ym acp;lk;show XX (bG.of hml) λm hm0 hm1=>?_;lk;have amc:vm.length=F.length:=by have:=congrArg List.length hkF;rw[ao,ao] at this;show this
 show Pe YF Qv J6 ∅ ?_;intro acr Yo TU;let#[ep1,ahv]:=Qp (a:=vb) (n:=1+m) hF8 hhF;rw[ep1] at TU;have Zx:=Ep YF TU;have s12:=TU.same RA ff;have acs:=TU.self;have VZ:cE Yo (vm++[(x.1,vb,.int (1+m))]):=λy hy=>by rcases aJ.mp hy with hy|hy;show bf.tups (Qv y hy) Zx;rw[ay.mp hy];show bf.tups J6 Zx
 have V0:=TU.keep (aQ YC) VW;have V1:=bJ.tups JY Zx;have acu:=bf.tups J6 Zx;have V2:=TU.keep (aQ aci) VX;have V3:=cE.tups VY Zx;clear TU Zx hml VW JY J6 VX VY YF Qv RA;let#[pe,hpe,epx,fW]:=wm (kvs:=ahm) (k:=x.1) (by rw[eke];show nd) (by rw[eke];show VV);let#[b,bs,eb,hb,Em]:=hle pe hpe;rw[epx] at Em;lk;show pT (s12 _ _ he) (hke.same s12) acu (fW.trans^congrArg some eb) ?_;have ahw:=s12 _ _ hb;lk;have cl:∀y∈ks,y∈F.map (·.1)->∀o∈L y,o∈F.map (·.1):=λy _ hy o ho=>by let#[z,hz,rfl]:=aE.mp hy;let#[n,hn,_]:=(inv.fin z hz).2.1 o ho;show aE.mpr #[_,hn,rfl]
 show f_list (xs:=bs) (λj σ' H'=>(∃z,σ'=[some^.ref d,some^.ref e,some^.ref wt,some^.ref rd,some^.ref f,some^.ref vb,z])/\aA H1 H'/\∃vs R epw J5 g,H' rd=some^.lst vs/\bJ H' vs R/\H' wt=some^.ext (dQ P w wt epw J5)/\cE H' J5/\FnAt J5 ks g/\H' f=some^.ext (dQ P w f acr (vm++[(x.1,vb,.int (1+m))]))/\cE H' (vm++[(x.1,vb,.int (1+m))])/\sj ks L (F.map (·.1)++[x.1]) (d9 L ks x.1) j g R) ?_ ?_ ?_ ?_;show#[#[_,rfl],s12,vs0,R0,ahq,ahr,g,V0,V1,V2,V3,fn8,acs,VZ,inn];rintro j σ' H' _ ⟨_,s',_⟩;show bG.of^s' _ _ hb
 .rintro j y σ' Zq hy ⟨⟨z0,rfl⟩,zy,vs,R,V4,J5,g,J7,J8,AI,AJ,Me,TV,J9,Mf⟩;clear V0 V1 V2 V3 acs VZ s12 ahw;let#[o,ho,hyo]:=bu Em hy;let#[hw1,hok,hyes,hno]:=Mf.next cl hhF hhL ho;have Ka:=bf.same hyo zy;let#[yb,yu,rfl,_,_]:=hyo;have hWl:J5.length=ks.length:=by rw[<- Me.1,ao]
  lk;show pT AI AJ Ka (Me.val hok) ?_;lk;show Xs ?_;show Pe AI AJ Ka ∅ ?_;intro V5 H14 RB;have t14:=Ep AI RB;have VS:=RB.same zy fwt;have Qw:=RB.self;have Qx:=cE.tups (Qq (a:=yb) (v:=.int (g o-1)) AJ (by rw[Me.1];show hok)) t14;have YG:FnAt (kX J5 o yb^.int (g o-1)) ks^yE g o (g o-1):=Me.put hok;have V6:=RB.keep YB J7;have Qy:=bJ.tups J8 t14;have Tu:=RB.keep aci TV;have V7:=cE.tups J9 t14;have V8:=bf.tups Ka t14;clear RB t14 zy J7 J8 AI AJ TV J9 Ka;have hvl:=Qy.length;have hRl:=kC Mf.Yz (ys:=ks) λy hy=>((Mf.RG y).mp hy).1;lk;show pT Qw Qx V8 (YG.val hok) ?_;have eg:yE g o (g o-1) o=g o-1:=by unfold yE;rw[if_pos rfl]
  rw[eg];lk;rename_i h0 VM HC;have t15:=sr V6 HC;show#[#[_,rfl],HC.same VS frd,_,_,V5,_,_,HC.self,dD (bJ.tups Qy t15)^bf.tups V8 t15,HC.keep (aQ YB) Qw,cE.tups Qx t15,YG,HC.keep YC Tu,cE.tups V7 t15,hyes h0];rename_i h0;show#[#[_,rfl],VS,_,_,V5,_,_,V6,Qy,Qw,Qx,YG,Tu,V7,hno h0]
 .rintro σ' Zq ⟨⟨z0,rfl⟩,zy,vs,R,V4,J5,g,J7,J8,AI,AJ,Me,TV,J9,Mf⟩;rw[Em.length] at Mf;show ace _ _ ?_;have hlt:F.length+1<=ks.length:=by
   have h1:(F.map (·.1)++[x.1]).Nodup:=by rw[f7];show#[inv.nd,by simp,λa ha b hb z=>hhF (by rw[ay.mp hb] at z;show z▸ha)]
   have:=kC h1 (ys:=ks) λy hy=>by rcases aJ.mp hy with hy|hy;let#[z,hz,rfl]:=aE.mp hy;show inv.sub z hz;rw[ay.mp hy];show VV
   rw[aF,ao] at this;show this
  show#[ks.length-(F++[(x.1,1+m)]).length,by rw[aF];simp;lia,#[_,_,rfl],zy,vs,R,V4,J5,g,acr,_,_,J7,J8,AI,AJ,Me,TV,J9,ahv,sj.end inv Mf VV hhF hhL rfl (λe0=>?_) (λe0=>?_),rfl];rw[e0] at hns;cases hns;show hm0 rfl
  .have hne:ns≠[]:=λz=>by rw[z] at hns;cases hL0:L x.1 with
    | nil=>show e0 hL0
    | cons _ _=>rw[hL0] at hns;cases hns
   let#[h1,h2]:=hm1 hne;let#[i,hi,ei]:=jS.mp h1;let#[o,ho,hoF]:=bu hns (i:=i) (x:=m) (by rw[fh hi,ei]);show#[#[o,gq ho,hoF],λo ho k hk=>?_];let#[j,hj,ej]:=jS.mp ho;let#[n,hn,hnF]:=vh hns (i:=j) (y:=o) (by rw[fh hj,ej]);rw[pH inv.nd hk hnF];show h2 n^gq hn
section
variable {α:Type} [DecidableEq α]
theorem yG{ks:List α}{L:α->List α}{F G:List (α×Int)}(hF:AH ks L F)(hG:AH ks L G):∀(n:Nat)(h:α)(m:Int),m.toNat<=n->(h,m)∈F->(h,m)∈G
 | 0,h,m,hn,hm=>by have:=(hF.fin _ hm).1;dsimp only at this;lia
 | n+1,h,m,hn,hm=>by
  let#[h1,h2,h3]:=hF.fin _ hm;dsimp only at h1 h2 h3;have ih:∀o∈L h,∀k,(o,k)∈F->(o,k)∈G:=λo ho k hk=>by let#[k',hk',hlt]:=h2 o ho;have e:=pH hF.nd hk hk';subst e;have:=(hF.fin _ hk).1;dsimp only at this;show yG hF hG n o k ∅ hk
  have hin:h∈G.map (·.1):=wQ λno=>by let#[o,ho,hno]:=hG.out h (hF.sub _ hm) no;let#[k,hk,_]:=h2 o ho;show hno^aE.mpr #[_,ih o ho k hk,rfl]
  let#[#[_,m'],hm',rfl]:=aE.mp hin;let#[g1,g2,g3]:=hG.fin _ hm';dsimp only at g1 g2 g3 h1 h2 h3 ih hm;have e:m'=m:=by rcases h3 with⟨e1,e2⟩|⟨o,ho,ho1⟩;rcases g3 with⟨e3,_⟩|⟨o,ho,_⟩;lia;rw[e2] at ho;show nomatch ho;rcases g3 with⟨_,e3⟩|⟨o',ho',ho2⟩;rw[e3] at ho;show nomatch ho;let#[k,hk,hlt]:=g2 o ho;have a:=pH hG.nd hk^ih o ho _ ho1;let#[k',hk',hlt']:=h2 o' ho';have b:=pH hG.nd (ih o' ho' _ hk') ho2;lia
  rw[<- e];show hm'
def gI(ks:List α)(L:α->List α)(F:List (α×Int)):Prop:=AH ks L F/\F.length=ks.length
theorem TX{ks:List α}{L:α->List α}{F G:List (α×Int)}(nd:ks.Nodup)(hF:gI ks L F)(hG:AH ks L G):G.length=ks.length:=by
 have h1:F.length<=G.length:=by
  have:=kC hF.1.nd (ys:=G.map (·.1)) λx hx=>by let#[#[h,m],hm,rfl]:=aE.mp hx;show aE.mpr #[_,yG hF.1 hG _ h m (av _) hm,rfl]
  rwa [ao,ao] at this
 have h2:G.length<=ks.length:=by
  have:=kC hG.nd (ys:=ks) λx hx=>by let#[y,hy,rfl]:=aE.mp hx;show hG.sub y hy
  rwa [ao] at this
 have:=hF.2;lia
theorem gI.mem{ks:List α}{L:α->List α}{F:List (α×Int)}(nd:ks.Nodup)(h:gI ks L F){x:α}(hx:x∈ks):∃n,(x,n)∈F:=by
 have:x∈F.map (·.1):=wQ λno=>by
  have h1:(F.map (·.1)++[x]).Nodup:=by rw[f7];show#[h.1.nd,by simp,λa ha b hb z=>no (by rw[ay.mp hb] at z;show z▸ha)]
  have:=kC h1 (ys:=ks) λy hy=>by rcases aJ.mp hy with hy|hy;let#[z,hz,rfl]:=aE.mp hy;show h.1.sub z hz;rw[ay.mp hy];show hx
  rw[aF,ao,h.2,gF] at this;lia
 let#[#[_,n],hn,rfl]:=aE.mp this;show#[n,hn]
def wo(ks:List α)(L:α->List α)(m:Int):Prop:=∃F,gI ks L F/\(∃x∈F,x.2=m)/\∀x∈F,x.2<=m
end
def TY{ls:List HM.bB}(h:iL rs r t ks)(g:iL rs r t ls):ks=ls:=JZ HM.tZ h.1 g.1 λz=>(h.2 z).trans (g.2 z).symm
theorem Qz{n:Int}(hok:r.ok n)(ht:RC t)(h:iL rs r t ks):ks.length<=4:=by
 have nd:ks.Nodup:=h.1.imp λh e=>by rw[e] at h;lia
 have h1:ks.length<=(r.ways.flatMap λq=>(eY r t).map λu=>(q,u)).length:=kC nd λz hz=>by let#[a1,a2,_]:=(h.2 z).mp hz;show qg.mpr #[z.1,a1,aE.mpr #[z.2,(j0 hok ht _).mpr a2,rfl]]
 have h2:=Row.ji r;have h3:=yz r ht;have h4:∀ws:List Int,(ws.flatMap λq=>(eY r t).map λu=>(q,u)).length=ws.length*(eY r t).length:=λws=>by
  induction ws with
  | nil=>simp
  | cons w ws ih=>rw[sR,aF,ih,ao,ck,Nat.succ_mul,Nat.add_comm]
 rw[h4] at h1;show bg h1^Nat.mul_le_mul h2 h3
open Classical in
def cU(rs:List Row)(h:HM.bB):List HM.bB:=if e:∃(ks:List HM.bB)(r:Row),rs[h.1.toNat]?=some r/\iL rs r h.2 ks then e.choose else[]
def Kc{h:HM.bB}(hr:rs[h.1.toNat]?=some r)(hl:iL rs r h.2 ks):cU rs h=ks:=by have e:∃(ks:List HM.bB)(r:Row),rs[h.1.toNat]?=some r/\iL rs r h.2 ks:=#[ks,r,hr,hl];unfold cU;rw[dif_pos e];let#[r',hr',hl']:=e.choose_spec;rw[hr] at hr';cases hr';show TY hl' hl
def Ew(h:eZ H rs kvs):iE H kvs^cU rs:=λx hx=>by let#[a,vs,ks,k,r,h1,h2,h3,h4,h5,h6]:=h x hx;show#[a,vs,h1,h2,?_];rw[Kc (r:=r) (by rw[h4];show h5) h6];show h3
def jj:z∈bq rs n↔∃k:Nat,k<n/\z.1=(k:Int)/\z.2∈cF rs k:=by unfold bq;rw[qg];constructor;rintro⟨k,hk,hz⟩;let#[t,ht,rfl]:=aE.mp hz;show#[k,f6.mp hk,rfl,ht];rintro⟨k,hk,e,ht⟩;show#[k,f6.mpr hk,aE.mpr #[z.2,ht,Prod.ext e.symm rfl]]
def ur:t∈cF rs k↔fG.lv rs k t:=by
 unfold cF;cases t with
 | none=>simp[fG.lv]
 | some p=>simp[fG.lv]
theorem Ex(rs:List Row):∀n,(bq rs n).Nodup
 | 0=>.nil
 | n+1=>by rw[qD,f7];show#[Ex rs n,jT.mpr ((AG rs n).imp λh e=>h^congrArg Prod.snd e),λx hx y hy e=>?_];let#[k,hk,e1,_]:=jj.mp hx;let#[t,_,rfl]:=aE.mp hy;rw[e] at e1;have e1:(n:Int)=(k:Int):=e1;lia
theorem Ey(hok:∀r∈rs,r.ok rs.length)(hn:rs.length<=2000)(em:kvs.map (·.1)=bq rs rs.length)(h:eZ H rs kvs):
  jG (bq rs rs.length)^cU rs/\∀k r t,rs[k]?=some r->t∈cF rs k->iL rs r t^cU rs ((k:Int),t):=by
 have each:∀z∈bq rs rs.length,∃(k:Nat)(r:Row),z.1=(k:Int)/\rs[k]?=some r/\iL rs r z.2^cU rs z/\RC z.2:=λz hz=>by rw[<- em] at hz;let#[x,hx,rfl]:=aE.mp hz;let#[a,vs,ks,k,r,h1,h2,h3,h4,h5,h6]:=h x hx;let#[k',_,e',ht]:=jj.mp (by rw[<- em];show hz);show#[k,r,h4,h5,?_,AF rs k' _ ht];rw[Kc (r:=r) (by rw[h4];show h5) h6];show h6
 show#[#[Ex rs _,bg (r9 rs _) ∅,λz hz=>?_],λk r t hr ht=>?_];let#[k,r,e,hr,hl,FL]:=each z hz;have L7:=hok r^gq hr;show#[Qz L7 FL hl,λo ho=>?_];let#[a1,a2,a3]:=(hl.2 o).mp ho;let#[b1,b2]:=Row.ja L7 o.1 a1;show jj.mpr #[o.1.toNat,∅,∅,ur.mpr a3];have hk:=(e9 hr).1;let#[k',r',e,hr',hl,_]:=each ((k:Int),t)^jj.mpr #[k,hk,rfl,ht];have e:(k:Int)=(k':Int):=e;have:k=k':=∅;subst this;rw[hr] at hr';cases hr';show hl
inductive Mg(P:Program)(w:World)(vs:List V)(H:Hp)(Q:VK)(_:XK):Prop|mk(d:Addr)(ep:Nat)(kvs:gA)(L:HM.bB->List HM.bB)(_:vs=[.ref d])(_:H d=some^.ext (dQ P w d ep kvs))(_:cE H kvs)(_:iE H kvs L)(_:jG (kvs.map (·.1)) L)(_:(∀H',aA H H'->(∀F,¬gI (kvs.map (·.1)) L F)->Q .eW H'))(_:∀(d':Addr)(uH:Nat)(kvs':gA)(F:List (HM.bB×Int))(H':Hp),aA H H'->H d'=none->H' d'=some^.ext (dQ P w d' uH kvs')->cE H' kvs'->iF kvs' F->gI (kvs.map (·.1)) L F->Q (.ref d') H')
set_option maxHeartbeats 40000000 in
theorem yH:T.rZ∩(3,Mg P w):=by
 exists T.rZ,ym,#[d,ep,kvs,L,rfl,hd,hk,hl,hok,q0,q],"+/1:Qs *0.<[|jÈ*1jÈ*01¥",2;lk;show#[d,ep,kvs,L,rfl,hd,hk,hl,hok,λf FQ vm F H1 s1 ff hf FT hF acw=>?_];have hd1:=s1 _ _ hd;have hkF:vm.length=F.length:=by have:=congrArg List.length hF.keys;rw[ao,ao] at this;show this
 lk;rename_i e;show q f FQ vm F H1 s1 ff hf FT hF #[acw,by rw[ao];lia];rename_i e;show q0 H1 s1 λG hG=>e ?_;have:=TX hok.1 hG acw;rw[ao] at this;lia
inductive QA(P:Program)(w:World)(vs:List V)(H:Hp)(Q:VK)(_:XK):Prop|mk(c:Addr)(us:List V)(rs:List Row)(_:vs=[.ref c])(_:H c=some^.lst us)(_:Rows H us rs)(_:(∀r∈rs,r.ok rs.length))(_:rs.length<=2000)(_:(jG (bq rs rs.length)^cU rs->(∀k r t,rs[k]?=some r->t∈cF rs k->iL rs r t^cU rs ((k:Int),t))->(∀H',aA H H'->(∀F,¬gI (bq rs rs.length) (cU rs) F)->Q .eW H')/\∀(d':Addr)(uH:Nat)(kvs':gA)(F:List (HM.bB×Int))(H':Hp),aA H H'->H d'=none->H' d'=some^.ext (dQ P w d' uH kvs')->cE H' kvs'->iF kvs' F->gI (bq rs rs.length) (cU rs) F->Q (.ref d') H'))
set_option maxHeartbeats 40000000 in
def Mh:T.BS∩(6,QA P w):=by
 exists T.BS,LK,#[c,us,rs,rfl,hc,hrs,hok,hn,q],".<:yH *:yD *0",1;lk;show#[c,us,rs,rfl,hc,hrs,hok,hn,λd ep kvs H1 s1 fd hd hk em hla=>?_];let#[CL,j8]:=Ey hok hn em hla;let#[q0,q1]:=q CL j8;lk;show#[d,ep,kvs,cU rs,rfl,hd,hk,Ew hla,by rw[em];show CL,λH2 s2 no=>?_,λf FQ vm F H2 s2 ff hf FT hF e=>?_]
 .lk;rw[em] at no;show q0 H2 (s1.trans s2) no
 .lk;rw[em] at e;show q1 f FQ vm F H2 (s1.trans s2) (s1.free ff) hf FT hF e
inductive TZ(vs:List V)(H:Hp)(Q:VK)(_:XK):Prop|mk(c:Addr)(us:List V)(rs:List Row)(_:vs=[.ref c])(_:H c=some^.lst us)(_:Rows H us rs)(_:(∀r∈rs,r.ok rs.length))(_:rs.length<=2000)(_:rs≠[])(_:(jG (bq rs rs.length)^cU rs->(∀k r t,rs[k]?=some r->t∈cF rs k->iL rs r t^cU rs ((k:Int),t))->(∀H',aA H H'->(∀F,¬gI (bq rs rs.length) (cU rs) F)->Q .eW H')/\∀(m:Int)(H':Hp),aA H H'->wo (bq rs rs.length) (cU rs) m->Q (.int m) H'))
set_option maxHeartbeats 40000000 in
def QB:T.delay∩(7,TZ):=by
 exists T.delay,DU,#[c,us,rs,rfl,hc,hrs,hok,hn,hne,q],"+/1:Mh *0.<[Xà1¥¥r!'T.PY 'BT.Ol *õ1",2,LA rfl;lk;show#[c,us,rs,rfl,hc,hrs,hok,hn,λCL j8=>#[λH1 s1 no=>?_,λf FQ vm F H1 s1 ff hf FT hF e=>?_]]
 .lk;show(q CL j8).1 H1 s1 no
 .lk;rename_i v H2 n2;have ev:vm.map (·.2.2)=(F.map (·.2)).map V.int:=by have:=congrArg (List.map (·.2)) hF;rw[fJ,fJ] at this;rw[fJ];show this
  have YH:F.map (·.2)≠[]:=λz=>by
   have h0:F.length=0:=by rw[<- ao (f:=(·.2)),z];rfl
   have h1:=e.2;cases rs with
   | nil=>show hne rfl
   | cons r rs =>
    have:((0:Int),none)∈bq (r::rs) (r::rs).length:=jj.mpr #[0,by simp,rfl,ur.mpr trivial];rw[h0] at h1;rw[List.length_eq_zero_iff.mp h1.symm] at this;show nomatch this
  show XU n2.self (n2.keep hf) ev YH λm hm hle=>?_;lk;let#[x,hx,rfl]:=aE.mp hm;show(q CL j8).2 _ H2 (s1.trans n2.same) #[F,e,#[x,hx,rfl],λy hy=>hle _^nH hy]
section
variable {α:Type} [DecidableEq α]
noncomputable def QC(g:α->Int)(cs:List α)(i:Nat):Int:=((cs[i]?).map g).getD 0
noncomputable def kQ(L:α->List α)(g:α->Int):Nat->List α->List α
 | 0,_=>[]
 | n+1,cs=>match cs[MK.sO (QC g cs) (cs.length-1)]? with
  | none=>[]
  | some h=>h::kQ L g n^L h
theorem pI{g:α->Int}{cs:List α}(hne:cs≠[]):∃h,cs[MK.sO (QC g cs) (cs.length-1)]?=some h/\h∈cs/\∀x∈cs,g x<=g h:=by let#[h1,h2]:=MK.Pn (QC g cs) (cs.length-1);have hp:=List.length_pos_iff.mpr hne;have hlt:MK.sO (QC g cs) (cs.length-1)<cs.length:=∅;show#[cs[MK.sO (QC g cs) (cs.length-1)],fh hlt,kK hlt,λx hx=>?_];let#[i,hi,rfl]:=jS.mp hx;have:=(h2 i ∅).1;generalize MK.sO (QC g cs) (cs.length-1)=j at hlt this ⊢;unfold QC at this;rw[fh hi,fh hlt] at this;show this
def sy{L:α->List α}{g:α->Int}{cs:List α}{h:α}(e:cs[MK.sO (QC g cs) (cs.length-1)]?=some h):kQ L g (n+1) cs=h::kQ L g n^L h:=by change(match cs[MK.sO (QC g cs) (cs.length-1)]? with|none=>[]|some h=>h::kQ L g n^L h)=_;rw[e]
theorem B4(L:α->List α)(g:α->Int):∀n,kQ L g n []=[]
 | 0=>rfl
 | _+1=>rfl
theorem AK{L:α->List α}{g:α->Int}:∀(n:Nat)(cs:List α),(∀x,(kQ L g n cs)[0]?=some x->x∈cs)/\∀(i:Nat)(x y:α),(kQ L g n cs)[i]?=some x->(kQ L g n cs)[i+1]?=some y->y∈L x
 | 0,cs=>#[(λx h=>nomatch h),λi x y h _=>by simp[kQ] at h]
 | n+1,cs=>by
  by_cases hne:cs=[];subst hne;rw[B4];show#[(λx h=>nomatch h),λi x y h _=>by simp at h];let#[h,e,hm,_]:=pI (g:=g) hne;rw[sy e];let#[c1,c2]:=AK (L:=L) (g:=g) n^L h;show#[λx hx=>by cases hx;show hm,λi x y hx hy=>?_];rw[jt] at hy;cases i with
  | zero=>cases hx;show c1 y hy
  | succ i=>show c2 i x y (by rwa [jt] at hx) hy
noncomputable def iG(F:List (α×Int))(n:Int)(h:α):Int:=((F.find? λx=>decide (x.1=h)).map (·.2)).getD n
def sA{F:List (α×Int)}{n:Int}{h:α}(nd:(F.map (·.1)).Nodup)(hm:(h,m)∈F):iG F n h=m:=by
 unfold iG;cases e:F.find? (λx=>decide (x.1=h)) with
 | none=>show absurd (List.find?_eq_none.mp e _ hm) (by simp)
 | some x =>
  have h1:=List.find?_some e;have h2:=List.mem_of_find?_eq_some e;let#[a,b]:=x;obtain rfl:a=h:=of_decide_eq_true h1;show pH nd h2 hm
theorem Kd{ks:List α}{L:α->List α}{F:List (α×Int)}{n0:Int}(nd:ks.Nodup)(hL:∀k∈ks,∀o∈L k,o∈ks)(hF:gI ks L F):∀(n:Nat)(h:α),h∈ks->(iG F n0 h).toNat<=n+1 ->
  (kQ L (iG F n0) n^L h).length+1=(iG F n0 h).toNat/\1<=iG F n0 h/\(∀x∈kQ L (iG F n0) n^L h,x∈ks/\iG F n0 x<iG F n0 h)/\(kQ L (iG F n0) n^L h).Nodup:=by
 intro n;induction n with
 | zero =>
  intro h hh hn;let#[m,hm]:=hF.mem nd hh;have ev:=sA (n:=n0) hF.1.nd hm;let#[h1,_,_]:=hF.1.fin _ hm;dsimp only at h1;show#[?_,∅,(λx hx=>nomatch hx),.nil];change 0+1=_;lia
 | succ n ih =>
  intro h hh hn;let#[m,hm]:=hF.mem nd hh;have ev:=sA (n:=n0) hF.1.nd hm;let#[h1,h2,h3]:=hF.1.fin _ hm;dsimp only at h1 h2 h3;by_cases hne:L h=[]
  .rw[hne,B4];show#[?_,∅,(λx hx=>nomatch hx),.nil];rcases h3 with⟨e,_⟩|⟨o,ho,_⟩
   .change 0+1=_;lia
   .rw[hne] at ho;show nomatch ho
  let#[x,e,hx,YI]:=pI (g:=iG F n0) hne;have hxk:=hL h hh x hx;rcases h3 with⟨_,e0⟩|⟨o,ho,hoF⟩;show absurd e0 hne;have evo:=sA (n:=n0) hF.1.nd hoF;let#[k,hk,hlt]:=h2 x hx;have evx:=sA (n:=n0) hF.1.nd hk;have h4:=YI o ho;let#[i1,i2,i3,i4]:=ih x hxk ∅;rw[sy e];show#[?_,∅,λy hy=>?_,jv.mpr #[λz=>?_,i4]];rw[ck];lia;rcases aG.mp hy with rfl|hy;show#[hxk,∅];have:=i3 y hy;show#[this.1,∅];have:=(i3 x z).2;lia
theorem T3{ks:List α}{L:α->List α}{F:List (α×Int)}{n0:Int}(nd:ks.Nodup)(hL:∀k∈ks,∀o∈L k,o∈ks)(hF:gI ks L F)(hd:wo ks L m):((kQ L (iG F n0) ks.length ks).length:Int)=m:=by
 let#[G,hG,#[y,hy,rfl],hle]:=hd;have hyk:=hG.1.sub y hy;have hne:ks≠[]:=λz=>by rw[z] at hyk;show nomatch hyk
 have hp:=List.length_pos_iff.mpr hne;let#[h,e,hh,YI]:=pI (g:=iG F n0) hne;have ev:∀x∈G,iG F n0 x.1=x.2:=λx hx=>sA hF.1.nd^yG hG.1 hF.1 _ x.1 x.2 (av _) hx;let#[k,hk]:=hG.mem nd hh;have e1:=ev _ hk;have e2:=ev _ hy;have h1:=hle _ hk;have h2:=YI _ hyk;dsimp only at e1 h1;let#[a1,a2,a3,a4]:=Kd (n0:=n0) nd hL hF ((iG F n0 h).toNat) h hh ∅;have hl:(h::kQ L (iG F n0) ((iG F n0 h).toNat)^L h).length<=ks.length:=kC (jv.mpr #[λz=>by have:=(a3 h z).2;lia,a4]) λx hx=>by rcases aG.mp hx with rfl|hx;show hh;show(a3 x hx).1
 rw[ck] at hl;obtain⟨n,hn⟩:∃n,ks.length=n+1:=#[ks.length-1,∅];let#[b1,_,_,_]:=Kd (n0:=n0) nd hL hF n h hh ∅;rw[hn,sy e,ck];lia
end
theorem Ez:∀{kvs:gA}{F:List (HM.bB×Int)},iF kvs F->∀(o:HM.bB)(n:Int),(kN kvs o).getD^.int n=.int (iG F n o)
 | [],[],_,_,_=>rfl
 | [],_::_,e,_,_=>nomatch e
 | _::_,[],e,_,_=>nomatch e
 | x::kvs,y::F,e,o,n=>by unfold iF at e;rw[bR,bR] at e;let#[e1,e2]:=List.cons.inj e;have a1:x.1=y.1:=congrArg Prod.fst e1;have a2:x.2.2=V.int y.2:=congrArg Prod.snd e1;unfold kN iG;rw[iN,iN,<- a1];by_cases h:x.1=o;rw[decide_eq_true h];show a2;rw[decide_eq_false h];show Ez (kvs:=kvs) (F:=F) e2 o n
theorem EA:∀{H:Hp}{vs:List V}{ks:List HM.bB},bJ H vs ks->vs=(vs.map adr).map V.ref
 | _,_,_,.nil=>rfl
 | _,_,_,.cons h t=>by rw[bR,bR,<- h.adr,<- EA t]
def ahy:Pos:=#[215,31,215,67]
noncomputable def acy:Str:=(envOfC "way_of" (aC yk) 0 0 .none).qual ++ "<lambda>"
abbrev Mi(H:Hp):Prop:=vJ cK acy ahy H
def kr.tups{p:Addr}(t:vJ p qual pos H)(s:kr p H H'):HK H H':=λb vs h=>s _ _ (t.ne h λ_ z=>nomatch z) h
inductive acz(P:Program)(w:World)(vs:List V)(H:Hp)(Q:VK)(_:XK):Prop|mk(d f:Addr)(ep FQ n:Nat)(kvs vm:gA)(L:HM.bB->List HM.bB)(F:List (HM.bB×Int))(_:vs=[.ref d,.ref f,.int n])(_:H d=some^.ext (dQ P w d ep kvs))(_:cE H kvs)(_:iE H kvs L)(_:jG (kvs.map (·.1)) L)(_:H f=some^.ext (dQ P w f FQ vm))(_:cE H vm)(_:iF vm F)(_:n<=40000)(_:Mi H)(_:∀(b:Addr)(us:List V)(H':Hp),kr cK H H'->Mi H'->H b=none->H' b=some^.lst us->bJ H' us^kQ L (iG F n) n^kvs.map (·.1)->Q (.ref b) H')
set_option maxHeartbeats 40000000 in
theorem Mj(T:Txt w K mg)(hB:base.BuiltinsAt mg cK):cA P w K mg base ir 4 T.um.f T.um.d ["later", "found", "most"]^acz P w:=by
 show T.um.F.okC k9 (λvs H Q E h=>?_) (λA outer s H vs Q E hr h=>?_);let#[d,f,ep,FQ,n,kvs,vm,L,F,rfl,_]:=h;rfl;let#[d,f,ep,FQ,n,kvs,vm,L,F,rfl,hd,hk,hl,hok,hf,FT,hF,hn,tab,q]:=h;show#[_,(ak (bD 3 k9.nd^dG (GX rfl) rfl T.qy BT.tM^aa (pv 0) af)^ak (bD 4 k9.nd^cO af)^ak (kR bK (PW.pt^tD (jJ (pv 3) (λ_=>rfl))^qP^fF xo (aO bN rfl T.eO BT.eK^aa (pv 4) af)^pv 2)^ak (bD 5 k9.nd^S5 T.um.cq T.um.ch hB rfl rfl (yf.caps (x := "other") (fr:=["found", "most"]) (ix:=[1,2]) (nm:=["most", "found"]) rfl (by decide +kernel) rfl rfl rfl rfl #[rfl,#[rfl,trivial]] rfl (by decide +kernel) rfl #[#[rfl,rfl,rfl],#[#[rfl,rfl,rfl],trivial]]) (Px hr) (λ_ _ _=>rfl) (λ_ _ _ _ _=>(GW (P:=P) (w:=w) rfl rfl (hr.in1.deeper _).units (pv 1) (pv 0) (pv 2) #[rfl,rfl,rfl,rfl])) rfl T.PY^aa (pv 3) af)^ak (cY^gf b7 fO fP dH (pv 4)^aa (pv 5) af)^aq^bD 3 k9.nd^jW hr.units (pv 0) (pv 5) (λ_ _=>rfl))^aq^aI^pv 4),?_];change(_:TS) (Ends.mk _ _ _ _) [_,_,_,_,_,_] H;k_in;lk;show SV hd ?_;intro cl H1 n1;lk;rename_i wa H2 n2;have s2:=n1.same.trans n2.same;have fwa:H wa=none:=n1.same.free n2.1;have hne:cl≠wa:=λz=>by have:=n1.self;rw[z,n2.1] at this;cases this
 have ek:(kvs.map λe=>V.ref e.2.1).length=kvs.length:=ao _;generalize Mc:kvs.map (·.1)=ks at *;have hv1:bJ H2 (kvs.map λe=>V.ref e.2.1) ks:=by
  have go:∀{l:gA},(∀x∈l,bf H (.ref x.2.1) x.1)->bJ H2 (l.map λe=>V.ref e.2.1)^l.map (·.1):=λ{l}=>by
   induction l with
   | nil=>intro _;show .nil
   | cons x l ih=>intro h;show .cons (bf.same (h x^by simp) s2) (ih λy hy=>h y^cM _ hy)
  rw[<- Mc];show go hk
 show o7 (λm σ' H'=>∃cl y5 vs cs us dn,σ'=[some^.ref d,some^.ref f,some^.int n,some^.ref cl,some^.ref wa,y5]/\kr cK H H'/\Mi H'/\H' cl=some^.lst vs/\bJ H' vs cs/\(∀x∈cs,x∈ks)/\cs.length<=40000/\cl≠wa/\H' wa=some^.lst us/\bJ H' us dn/\dn.length<=n/\dn++kQ L (iG F n) (n-dn.length) cs=kQ L (iG F n) n ks/\m=n-dn.length) ?_ ?_;show#[_,cl,_,_,ks,[],[],rfl,s2.abu,tab.same s2,n2.keep n1.self,hv1,λ_ h=>h,hok.2.1,hne,n2.self,.nil,aM _,rfl,rfl];clear hv1 hne n1 n2 s2 ek;rintro m σ' H3 ⟨cl,y5,vs,cs,us,dn,rfl,s3,uu,hcl,hvs,hcs,amh,hne,hwa,oZ,hdn,hw,rfl⟩;have hvl:=hvs.length;have FN:=oZ.length;lk;have fin:kQ L (iG F n) (n-dn.length) cs=[]->nx0 [some^.ref d,some^.ref f,some^.int n,some^.ref cl,some^.ref wa,y5] H3:=λe=>by show Tz _ _ ?_;clear Tz;lk;rw[e,fH] at hw;show q wa us H3 s3 uu fwa hwa (by rw[<- hw];show oZ)
 rcases vs with _|⟨v0,vr⟩;show Gp rfl^fin ?_;cases hvs;show B4 _ _ _;show xJ rfl ?_;lk
 .rename_i hlt;show S4 ?_;lk;show X0 uu λc fq ctv H4 s4 hfq hcc acC=>?_;have t4:=kr.tups uu s4;have np:∀{b:Addr}{xs:List V},H3 b=some^.lst xs->b≠cK:=λh=>uu.ne h λ_ z=>nomatch z;have ne:∀{b:Addr}{φ:Heap->Prop},H b=some^.ext φ->b≠cK:=λh=>tab.ne h λ_ z=>nomatch z;have yC:=s3.trans s4;have YJ:=bJ.tups hvs t4;have acD:=s4 _ _ (np hcl) hcl;have acE:=s4 _ _ (np hwa) hwa;have ahz:=bJ.tups oZ t4;have FP:=yC _ _ (ne hf) hf;have J4:=yC _ _ (ne hd) hd;have t04:=kr.tups tab yC;have ahB:=cE.tups FT t04;have Zr:=cE.tups hk t04;clear hcl hvs hwa oZ s4 s3 uu t4 np Tz fin;have eva:=EA YJ;have ahC:cs≠[]:=λz=>by rw[z] at hvl;cases hvl
  let#[h,eh,hhm,_]:=pI (g:=iG F n) ahC;let#[v,hv,Zw]:=vh YJ eh;show#[cl,(v0::vr).map adr,fq,c,ctv,QC (iG F n) cs,rfl,rfl,bG.of (by rw[<- eva];show acD),hfq,hcc,by simp,λi a ha=>?_,λa ha=>?_]
  .rw[aV] at ha;let#[x,hx,rfl]:=cG.mp ha;let#[k,hk,hxk]:=bu YJ hx;rw[hxk.adr] at hxk;show abp ?_;lk;show#[f,FQ,vm,rfl,FP,?_];lk;show#[adr x,FQ,vm,k,rfl,#[FP,ahB],hxk,?_,rfl];rw[Ez hF];unfold QC;rw[hk];rfl
  .have ea:V.ref a=v:=by rw[ao,hvl,aV,hv] at ha;rw[<- Option.some.inj ha];show Zw.adr.symm
   subst ea;lk;rename_i H5 p5;have t5:=sr acE p5;have ned:d≠wa:=λz=>by rw[z,fwa] at hd;cases hd
   have VV:=hcs h hhm;have hL:=hok.2.2 h VV;let#[x,Qt,rfl,hxv]:=wm (kvs:=kvs) (k:=h) (by rw[Mc];show hok.1) (by rw[Mc];show VV);let#[b,bs,eb,hb,Em]:=hl x Qt;have nwb:b≠wa:=λz=>by rw[z,fwa] at hb;cases hb
   show pT (p5.keep ned J4) (cE.tups Zr t5) (bf.tups Zw t5) (hxv.trans^congrArg some eb) ?_;show ace _ _ #[n-(dn.length+1),∅,b,_,bs,L x.1,us++[.ref a],dn++[x.1],rfl,λc o hc e=>p5.keep (λz=>by rw[z,fwa] at e;cases e)^yC c o hc e,acC.put acE p5,p5.keep nwb^yC _ _ (tab.ne hb λ_ z=>nomatch z) hb,bJ.tups (bJ.tups Em t04) t5,hL.2,∅,nwb,p5.self,dD (bJ.tups ahz t5)^bf.tups Zw t5,by rw[aF,gF];lia,?_,by rw[aF,gF]];obtain⟨m,em⟩:∃m,n-dn.length=m+1:=#[n-dn.length-1,∅];rw[em,sy eh] at hw;rw[aF,gF,show n-(dn.length+1)=m by lia,jq];show hw
 .rename_i hge;have e0:n-dn.length=0:=∅;rw[e0] at hw;have e1:kQ L (iG F n) 0 cs=[]:=rfl;rw[e1,fH] at hw;show q wa us H3 s3 uu fwa hwa (by rw[<- hw];show oZ)
def B5(K:az):Sp:=λvs H Q E=>abz K vs H Q E/\H cK=some^.sM #[]
inductive Mk(vs:List V)(H:Hp)(Q:VK)(_:XK):Prop|mk(c:Addr)(us:List V)(rs:List Row)(_:vs=[.ref c])(_:H c=some^.lst us)(_:Rows H us rs)(_:(∀r∈rs,r.ok rs.length))(_:rs.length<=2000)(_:Mi H)(_:(jG (bq rs rs.length)^cU rs->(∀k r t,rs[k]?=some r->t∈cF rs k->iL rs r t^cU rs ((k:Int),t))->(∀H',aA H H'->(∀F,¬gI (bq rs rs.length) (cU rs) F)->Q .eW H')/\∀(b:Addr)(us:List V)(F:List (HM.bB×Int))(H':Hp),kr cK H H'->Mi H'->H b=none->H' b=some^.lst us->gI (bq rs rs.length) (cU rs) F->bJ H' us^kQ (cU rs) (iG F (bq rs rs.length).length) (bq rs rs.length).length^bq rs rs.length->Q (.ref b) H'))
set_option maxHeartbeats 40000000 in
def HQ(hB:base.BuiltinsAt mg cK):T.longest∩(7,Mk):=by
 exists T.longest,qw,#[c,us,rs,rfl,hc,hrs,hok,hn,tab,q],"+/1:yD *0+/2:yH *1.<[Xà2¥¥á'T.um.toDD !-1-2*jÈ*1",3,Mj T hB;lk;show#[c,us,rs,rfl,hc,hrs,hok,hn,λd ep kvs H1 s1 fd hd hk em hla=>?_];let#[CL,j8]:=Ey hok hn em hla;let#[q0,q1]:=q CL j8;have j7:kvs.length=(bq rs rs.length).length:=by rw[<- em,ao]
 have VH:=Ew hla;lk;show#[d,ep,kvs,cU rs,rfl,hd,hk,VH,by rw[em];show CL,λH2 s2 no=>?_,λf FQ vm F H2 s2 ff hf FT hF e=>?_]
 .rw[em] at no;lk;show q0 H2 (s1.trans s2) no
 .rw[em] at e;have hd2:=s2 _ _ hd;lk;show#[d,f,ep,FQ,kvs.length,kvs,vm,cU rs,F,rfl,hd2,hk.same s2,iE.same VH s2,by rw[em];show CL,hf,FT,hF,by rw[j7];show CL.2.1,tab.same^s1.trans s2,λb us H3 s3 uu fb hb oZ=>?_];rw[em,j7] at oZ;have s12:=s1.trans s2;show q1 b us F H3 (s12.abu.trans s3) uu (s12.free fb) hb e oZ
section
variable {α:Type} [DecidableEq α]
noncomputable def FU:List Int->Int
 | []=>0
 | x::l=>if x<=FU l then FU l else x
theorem HR:∀{l:List Int}{x:Int},x∈l->x<=FU l
 | y::l,x,h=>by
  unfold FU;rcases aG.mp h with rfl|h;split<;>lia
  .have:=HR h;split<;>lia
theorem B6:∀l:List Int,(FU l=0\/FU l∈l)/\0<=FU l\/(FU l∈l)
 | []=>.inl #[.inl rfl,Int.le_refl _]
 | y::l=>by unfold FU;split;rcases B6 l with⟨h|h,h0⟩|h;show .inl #[.inl h,h0];show .inr^cM _ h;show .inr^cM _ h;show .inr^aG.mpr^.inl rfl
noncomputable def yI(L:α->List α):Nat->α->Int
 | 0,_=>1
 | n+1,h=>1+FU^(L h).map^yI L n
theorem AL{ks:List α}{L:α->List α}{rk:α->Nat}(hL:∀k∈ks,∀o∈L k,o∈ks)(hr:∀k∈ks,∀o∈L k,rk o<rk k):∀(n m:Nat)(h:α),h∈ks->rk h<n->rk h<m->yI L n h=yI L m h
 | 0,_,_,_,h1,_=>absurd h1^dU _
 | _,0,_,_,_,h2=>absurd h2^dU _
 | n+1,m+1,h,hk,h1,h2=>by unfold yI;congr 2;show w4 λo ho=>AL hL hr n m o (hL h hk o ho) ?_ ?_;have:=hr h hk o ho;lia;have:=hr h hk o ho;lia
theorem YK{ks:List α}{L:α->List α}{rk:α->Nat}(nd:ks.Nodup)(hL:∀k∈ks,∀o∈L k,o∈ks)(hr:∀k∈ks,∀o∈L k,rk o<rk k):∃F,gI ks L F:=by
 let G:α->Int:=λh=>yI L (rk h+1) h;have hG:∀h∈ks,G h=1+FU^(L h).map G:=λh hk=>by change 1+FU^(L h).map^yI L^rk h=_;congr 2;show w4 λo ho=>AL hL hr _ _ o (hL h hk o ho) (hr h hk o ho)^i0 _
 have pos:∀h,1<=G h:=λh=>by
  change 1<=1+FU _;have:0<=FU^(L h).map^yI L^rk h:=by
   rcases B6^(L h).map^yI L^rk h with⟨_,h0⟩|hm;show h0
   .have:∀(n:Nat)(x:α),0<=yI L n x:=λn=>by
     induction n with
     | zero=>intro x;change(0:Int)<=1;decide
     | succ n ih =>
      intro x;change 0<=1+FU^(L x).map^yI L n;rcases B6^(L x).map^yI L n with⟨_,h0⟩|hm;lia
      .let#[o,_,e]:=aE.mp hm;have:=ih o;lia
    let#[o,_,e]:=aE.mp hm;rw[<- e];show this _ _
  lia
 have em:(ks.map λh=>(h,G h)).map (·.1)=ks:=by rw[fJ];show List.map_id' _
 show#[ks.map λh=>(h,G h),#[by rw[em];show nd,λx hx=>?_,λx hx=>?_,λh hh no=>absurd (by rw[em];show hh) no],ao _];let#[h,hh,rfl]:=aE.mp hx;show hh
 .let#[h,hh,rfl]:=aE.mp hx;dsimp only;have e:=hG h hh;show#[pos h,λo ho=>#[G o,aE.mpr #[o,hL h hh o ho,rfl],?_],?_];have:=HR^nH (f:=G) ho;lia
  .by_cases hn:L h=[];left;rw[hn] at e;show#[e,hn]
   .right;have hm:FU^(L h).map G∈(L h).map G:=by rcases B6^(L h).map G with⟨h0|h0,_⟩|h0;exfalso;let#[o,ho]:=List.exists_mem_of_ne_nil _ hn;have h1:=HR^nH (f:=G) ho;have:=pos o;lia;show h0;show h0
    let#[o,ho,eo]:=aE.mp hm;show#[o,ho,aE.mpr #[o,hL h hh o ho,by rw[eo,e];congr 1;lia]]
end
open Classical in
def ahD(rs:List Row):Option Int:=if e:∃m,wo (bq rs rs.length) (cU rs) m then some e.choose else none
def Ke(j8:∀k r t,rs[k]?=some r->t∈cF rs k->iL rs r t^cU rs ((k:Int),t))(hz:z∈bq rs rs.length){o:HM.bB}(ho:o∈cU rs z):∃(p:Nat)(r:Row),z.1=(p:Int)/\p<rs.length/\rs[p]?=some r/\z.2∈cF rs p/\B0 rs r z.2 o:=by let#[p,hp,e,ht]:=jj.mp hz;let#[zp,zt]:=z;dsimp only at e ht;subst e;show#[p,rs[p],rfl,hp,fh hp,ht,((j8 p _ zt (fh hp) ht).2 o).mp ho]
def di(rs:List Row)(p:Nat):List Int:=SN.fT^(kB rs p).map (·.2)
def dO(rs:List Row)(p:Nat):Nat:=if bM rs p=true then(di rs p).length+1 else 0
def Row.own(r:Row):Nat:=if r.gH=true then 2 else 1
def cX(rs:List Row)(p:Nat):Nat:=dO rs p+(rs[p]?.map Row.own).getD 0
def firstM(rs:List Row):Nat->Nat
 | 0=>0
 | p+1=>firstM rs p+cX rs p
def gW(rs:List Row)(q:Int):Int:=(firstM rs q.toNat:Int)
noncomputable def Row.dbl(at_:Int):Row->List Row
 | .num _ k v q=>[.num 0 k v (at_+1),.num 1 k v q]
 | .copy _ k i q=>[.copy 0 k i (at_+1),.copy 1 k i q]
 | .op _ s k i j q=>[.op 0 s k i j (at_+1),.op 1 s k i j q]
 | r=>[r]
noncomputable def cL(f:Int):List Int->List Row
 | []=>[]
 | b::bs=>.look b (f+1)::cL (f+1) bs
theorem eS(f:Int):∀bs,(cL f bs).length=bs.length
 | []=>rfl
 | b::bs=>by rw[cL,ck,eS (f+1) bs,ck]
theorem ou(b:Int):∀(f:Int)(bs:List Int),cL f (bs++[b])=cL f bs++[.look b (f+bs.length+1)]
 | f,[]=>by simp[cL]
 | f,c::bs=>by rw[nE,cL,ou b (f+1) bs,cL,nE,ck];have:f+1+(bs.length:Int)+1=f+((bs.length+1:Nat):Int)+1:=∅;rw[this]
def EB(rs:List Row)(p:Nat):List Row:=if bM rs p=true then cL (firstM rs p)^di rs p++[.mark ((firstM rs p:Int)+(di rs p).length+1)] else[]
def putAt(rs:List Row)(p:Nat)(r:Row):List Row:=EB rs p++(r.d8^gW rs).dbl ((firstM rs p:Int)+dO rs p)
def aD(rs:List Row):Nat->List Row
 | 0=>[]
 | p+1=>aD rs p++(rs[p]?.map^putAt rs p).getD []
def yJ(rs:List Row)(p:Nat):(EB rs p).length=dO rs p:=by unfold EB dO;split;rw[aF,eS];rfl;rfl
def Kf(f:Int->Int)(a:Int)(r:Row):((r.d8 f).dbl a).length=r.own:=by cases r<;>rfl
theorem eT{rs:List Row}:∀{p},p<=rs.length->(aD rs p).length=firstM rs p
 | 0,_=>rfl
 | p+1,h=>by have e:rs[p]?=some rs[p]:=fh h;rw[aD,firstM,aF,eT^Nat.le_of_succ_le h];unfold cX;rw[e];change _+(putAt rs p rs[p]).length=_;unfold putAt;rw[aF,yJ,Kf];rfl
theorem Ml(rs:List Row)(p:Nat):∀b∈di rs p,0<=b/\b<8:=λb hb=>by unfold di SN.fT at hb;let#[k,hk,rfl]:=aE.mp hb;have:=f6.mp (dS.mp hk).1;lia
def yK(rs:List Row)(p:Nat):(di rs p).length<=8:=ly _
theorem wu(rs:List Row)(p:Nat):dO rs p<=9:=by have:=yK rs p;unfold dO;split<;>lia
theorem yL(r:Row):r.own<=2:=by unfold Row.own;split<;>lia
theorem T4(rs:List Row)(p:Nat):cX rs p<=11:=by
 have:=wu rs p;unfold cX;cases rs[p]? with
 | none=>simp;lia
 | some r=>have:=yL r;simp;lia
theorem uv(rs:List Row):∀p,firstM rs p<=11*p
 | 0=>av _
 | p+1=>by have:=uv rs p;have:=T4 rs p;rw[firstM];lia
theorem yM{ks:Nat->Key}{vs:Nat->V}:∀{n:Nat},(∀i j,i<n->j<n->ks i=ks j->i=j)->∀i,i<n->eG (jw ks vs n)^ks i=some (vs i)
 | 0,_,i,h=>absurd h^dU _
 | n+1,hn,i,h=>by
  rw[jw,xA];by_cases e:ks i=ks n;have:i=n:=hn i n h (i0 _) e;rw[if_pos e,this]
  .rw[if_neg e];show yM (λa b ha hb=>hn a b ∅ ∅) i ?_;rcases bE i n with hl|hg;show hl;show absurd (by rw[show i=n by lia]) e
theorem nh{ks:Nat->Key}{vs:Nat->V}{k:Key}:∀{n:Nat},(∀i,i<n->ks i≠k)->eG (jw ks vs n) k=none
 | 0,_=>rfl
 | n+1,h=>by rw[jw,xA,if_neg (λe=>h n (i0 _) e.symm)];show nh λi hi=>h i ∅
def sC(H:Hp)(rs:List Row)(kvs:List (Key×V)):Prop:=∀j:Nat,j<rs.length->(bM rs j=true->∃a,eG kvs^.inl (j:Int)=some^.ref a/\H a=some^.lst^(di rs j).map V.int)/\(¬bM rs j=true->eG kvs^.inl (j:Int)=none)
def sC.same{kvs:List (Key×V)}(e:aA H H')(h:sC H rs kvs):sC H' rs kvs:=λj hj=>#[λhm=>let⟨a,h1,h2⟩:=(h j hj).1 hm;#[a,h1,e _ _ h2],(h j hj).2]
def Row.pl:Row->Prop
 | .num d _ _ _=>d=2|.copy d _ _ _=>d=2|.op d _ _ _ _ _=>d=2|.look _ _=>False|.mark _=>False|_=>True
inductive uw (rs:List Row):Nat->Prop
 | zero:uw rs 0
 | step {p q:Nat} {r:Row} (h:uw rs p) (hr:rs[p]?=some r) (w:((q:Nat):Int)∈r.ways):uw rs q
def cnt_cons(r:Row)(rs:List Row)(j:Nat):cnt (r::rs) j=r.ways.count (j:Int)+cnt rs j:=by unfold cnt;rw[bR,List.sum_cons]
theorem B7:∀{rs:List Row}{p j:Nat}{r:Row},rs[p]?=some r->((j:Nat):Int)∈r.ways->1<=cnt rs j
 | [],_,_,_,h,_=>by simp at h
 | x::rs,0,j,r,h,w=>by
  simp at h;subst h;have:=List.count_pos_iff.mpr w;rw[cnt_cons];lia
 | x::rs,p+1,j,r,h,w=>by have:=B7 (rs:=rs) (p:=p) (by simpa using h) w;rw[cnt_cons];lia
theorem Kg{r':Row}(w:((j:Nat):Int)∈r.ways)(w':((j:Nat):Int)∈r'.ways)(rs:List Row):∀(p q:Nat),p<q->rs[p]?=some r->rs[q]?=some r'->2<=cnt rs j:=by
 induction rs with
 | nil=>intro p q _ h;simp at h
 | cons x rs ih =>
  intro p q hl h h';rw[cnt_cons];obtain⟨q,rfl⟩:∃i,q=i+1:=#[q-1,∅];rw[jt] at h';rcases lN p with e|hp
  .subst e;rw[A4] at h;cases h;have h1:=List.count_pos_iff.mpr w;have h2:=B7 h' w';lia
  .obtain⟨p,rfl⟩:∃i,p=i+1:=#[p-1,∅];rw[jt] at h;have:=ih p q ∅ h h';lia
def B8(hn:¬bM rs j=true)(hr:rs[p]?=some r)(w:((j:Nat):Int)∈r.ways):j≠0/\∀(q:Nat)(r':Row),rs[q]?=some r'->((j:Nat):Int)∈r'.ways->q=p:=by have h1:=B7 hr w;have hm:¬(if j=0 then 1 else 2)<=cnt rs j:=λz=>hn^decide_eq_true z;have hj:j≠0:=λz=>hm (by rw[if_pos z];show h1);rw[if_neg hj] at hm;show#[hj,λq r' hq w'=>?_];rcases oW p q with h|h|h;show absurd (Kg w w' rs _ _ h hr hq) hm;show h.symm;show absurd (Kg w' w rs _ _ h hq hr) hm
inductive RH (rs:List Row):Nat->Nat->Prop
 | top {j:Nat} (h:j=0\/bM rs j=true):RH rs j 0
 | on {p j d:Nat} {r:Row} (hr:rs[p]?=some r) (w:((j:Nat):Int)∈r.ways) (hn:¬bM rs j=true) (h:RH rs p d):RH rs j (d+1)
def YL(h:uw rs j):∃d,RH rs j d:=by
 induction h with
 | zero=>show#[0,.top^.inl rfl]
 | step _ hr w ih =>
  rename_i p q r _;let#[d,hd]:=ih;by_cases hm:bM rs q=true;show#[0,.top^.inr hm];show#[d+1,.on hr w hm hd]
def T5(h:RH rs j d):∀{d':Nat},RH rs j d'->d=d':=by
 induction h with
 | top h =>
  intro d' h';cases h' with
  | top _=>rfl
  | on hr w hn _=>show absurd (h.resolve_left (B8 hn hr w).1) hn
 | on hr w hn _ ih =>
  intro d' h';cases h' with
  | top h=>show absurd (h.resolve_left (B8 hn hr w).1) hn
  | on hr' w' _ h' =>
   obtain rfl:=(B8 hn hr w).2 _ _ hr' w';rw[ih h']
open Classical in
def pQ(rs:List Row)(j:Nat):Nat:=if e:∃d,RH rs j d then e.choose else 0
def B9(h:RH rs j d):pQ rs j=d:=by unfold pQ;rw[dif_pos #[d,h]];show T5 (Exists.choose_spec (#[d,h]:∃d,RH rs j d)) h
theorem jk(h:p<=q):firstM rs p<=firstM rs q:=by
 induction q with
 | zero=>rw[Nat.le_zero.mp h];show av _
 | succ q ih =>
  rcases bE p (q+1) with h1|h1;have:=ih ∅;change _<=firstM rs q+cX rs q;lia;rw[show p=q+1 by lia];show av _
theorem QD(hr:rs[p]?=some r)(hk:k<cX rs p):∀m,p<m->m<=rs.length->(aD rs m)[firstM rs p+k]?=(putAt rs p r)[k]?:=by
 intro m;induction m with
 | zero=>intro h;show absurd h^dU _
 | succ m ih =>
  intro h1 h2;have hl:=eT (rs:=rs) (p:=m) ∅;change(aD rs m++_)[firstM rs p+k]?=_;rcases bE p m with h3|h3
  .have hm:=jk (rs:=rs) (p:=p+1) (q:=m) h3;have e:firstM rs (p+1)=firstM rs p+cX rs p:=rfl;rw[jR ∅,ih h3 ∅]
  .obtain rfl:p=m:=∅;rw[kJ ∅,hl,show firstM rs p+k-firstM rs p=k by lia,hr];rfl
theorem yN{rs:List Row}:∀{m x:Nat},x<firstM rs m->m<=rs.length->∃p k,p<m/\k<cX rs p/\x=firstM rs p+k
 | 0,x,h,_=>absurd h^dU _
 | m+1,x,h,hm=>by rcases bE x^firstM rs m with h1|h1;let#[p,k,h2,h3,h4]:=yN h1 ∅;show#[p,k,∅,h3,h4];have h:x<firstM rs m+cX rs m:=h;show#[m,x-firstM rs m,∅,∅,∅]
theorem jM(hk:k<cX rs p)(hj:j<cX rs q)(e:firstM rs p+k=firstM rs q+j):p=q/\k=j:=by rcases oW p q with h|h|h;have h1:=jk (rs:=rs) (p:=p+1) (q:=q) h;have h1:firstM rs p+cX rs p<=firstM rs q:=h1;lia;subst h;show#[rfl,∅];have h1:=jk (rs:=rs) (p:=q+1) (q:=p) h;have h1:firstM rs q+cX rs q<=firstM rs p:=h1;lia
theorem pZ:∀(f:Int)(bs:List Int)(k:Nat),(cL f bs)[k]?=bs[k]?.map λb=>Row.look b (f+k+1)
 | _,[],_=>by simp[cL]
 | f,b::bs,0=>by simp[cL]
 | f,b::bs,k+1=>by rw[cL,jt,jt,pZ (f+1) bs k,show f+1+(k:Int)+1=f+((k+1:Nat):Int)+1 by lia]
inductive yO (rs:List Row) (p:Nat) (r:Row) (x:Int):Nat->Row->Prop
 | look {k:Nat} {b:Int} (hm:bM rs p=true) (hb:(di rs p)[k]?=some b):yO rs p r x k^.look b (x+1)
 | mark {k:Nat} (hm:bM rs p=true) (e:k=(di rs p).length):yO rs p r x k^.mark (x+1)
 | own {k:Nat} (hd:r.gH=false) (e:k=dO rs p):yO rs p r x k^r.d8^gW rs
 | one {k:Nat} {R:Row} (hd:r.gH=true) (e:k=dO rs p) (h1:R.gH=true) (h2:R.sd=0) (h3:R.pX=r.pX) (h4:R.ways=[x+1]) (h5:∀n n':Int,r.ok n->j6 n' (x+1)->R.ok n'):yO rs p r x k R
 | two {k:Nat} {R:Row} (hd:r.gH=true) (e:k=dO rs p+1) (h1:R.gH=true) (h2:R.sd=1) (h3:R.pX=r.pX) (h4:R.ways=r.ways.map^gW rs) (h5:∀n n':Int,r.ok n->(∀q,j6 n q->j6 n'^gW rs q)->R.ok n'):yO rs p r x k R
theorem ahE(h:(putAt rs p r)[k]?=some R):yO rs p r ((firstM rs p:Int)+k) k R:=by
 have hl:=yJ rs p;unfold putAt at h;rcases bE k^dO rs p with h1|h1
 .rw[jR ∅] at h;unfold dO at h1;by_cases hm:bM rs p=true
  .rw[if_pos hm] at h1;unfold EB at h;rw[if_pos hm] at h;rcases bE k (di rs p).length with h2|h2
   .rw[jR (by rw[eS];show h2),pZ] at h;let#[b,hb,rfl]:=cG.mp h;show .look hm hb
   .obtain rfl:k=(di rs p).length:=∅;rw[kJ (by rw[eS];show av _),eS,Nat.sub_self] at h;cases h;show .mark hm rfl
  .rw[if_neg hm] at h1;show absurd h1^dU _
 .rw[kJ ∅,hl] at h;have e2:k=dO rs p+(k-dO rs p):=∅;generalize k-dO rs p=i at h e2;subst e2;have ex:(firstM rs p:Int)+dO rs p+1=(firstM rs p:Int)+((dO rs p+0:Nat):Int)+1:=∅;cases r with
  | num d a v q =>
   match i,h with
   | 0,h=>cases h;show .one rfl rfl rfl rfl rfl (by change[_]=_;rw[ex]) (λn n' h hx=>by rw[<- ex] at hx;show#[#[by decide,by decide],h.2.1,h.2.2.1,hx])
   | 1,h=>cases h;show .two rfl rfl rfl rfl rfl rfl (λn n' h hf=>#[#[by decide,by decide],h.2.1,h.2.2.1,hf _ h.2.2.2])
   | i+2,h=>cases h
  | copy d a b q =>
   match i,h with
   | 0,h=>cases h;show .one rfl rfl rfl rfl rfl (by change[_]=_;rw[ex]) (λn n' h hx=>by rw[<- ex] at hx;show#[#[by decide,by decide],h.2.1,h.2.2.1,hx])
   | 1,h=>cases h;show .two rfl rfl rfl rfl rfl rfl (λn n' h hf=>#[#[by decide,by decide],h.2.1,h.2.2.1,hf _ h.2.2.2])
   | i+2,h=>cases h
  | op d s a b c q =>
   match i,h with
   | 0,h=>cases h;show .one rfl rfl rfl rfl rfl (by change[_]=_;rw[ex]) (λn n' h hx=>by rw[<- ex] at hx;show#[#[by decide,by decide],h.2.1,h.2.2.1,h.2.2.2.1,h.2.2.2.2.1,hx])
   | 1,h=>cases h;show .two rfl rfl rfl rfl rfl rfl (λn n' h hf=>#[#[by decide,by decide],h.2.1,h.2.2.1,h.2.2.2.1,h.2.2.2.2.1,hf _ h.2.2.2.2.2])
   | i+2,h=>cases h
  | out a q =>
   match i,h with
   | 0,h=>cases h;show .own rfl rfl
   | i+1,h=>cases h
  | fork a q q2 =>
   match i,h with
   | 0,h=>cases h;show .own rfl rfl
   | i+1,h=>cases h
  | look a q =>
   match i,h with
   | 0,h=>cases h;show .own rfl rfl
   | i+1,h=>cases h
  | mark q =>
   match i,h with
   | 0,h=>cases h;show .own rfl rfl
   | i+1,h=>cases h
  | back a =>
   match i,h with
   | 0,h=>cases h;show .own rfl rfl
   | i+1,h=>cases h
section
variable {rs:List Row}
def EC(h:r.pl)(s s':Int):r.gv s=r.gv s'/\r.rd s=r.rd s':=by
 unfold Row.gv Row.rd;cases r with
 | num d _ _ _=>have h:d=2:=h;subst h;simp[Row.sd,Row.gH]
 | copy d _ _ _=>have h:d=2:=h;subst h;simp[Row.sd,Row.gH]
 | op d _ _ _ _ _=>have h:d=2:=h;subst h;simp[Row.sd,Row.gH]
 | _=>show#[rfl,rfl]
def ED(hok:∀r∈rs,r.ok rs.length)(hpl:∀r∈rs,r.pl){s':Int}(hs:s=0\/s=1)(hs':s'=0\/s'=1)(hb:0<=b)(h:dg rs (s,b) p):dg rs (s',b) p:=by show oj (S:=dg rs (s',b)) (λk r hr hm=>?_) (λk q r hr hm w hq=>?_) p h;have hm':=gq hr;rw[lz (hok r hm') hs,(EC (hpl r hm') s s').2] at hm;show .here hr^(lz (hok r hm') hs').mpr hm;have hm':=gq hr;rw[iX (hok r hm') hs hb,(EC (hpl r hm') s s').1] at hm;show .on hr (λz=>hm^(iX (hok r hm') hs' hb).mp z) w hq
theorem wz(r:Row):1<=r.own:=by unfold Row.own;split<;>lia
theorem jl(hp:p<rs.length):firstM rs p<firstM rs rs.length/\dO rs p<cX rs p:=by
 have h1:=jk (rs:=rs) (p:=p+1) (q:=rs.length) hp;have h1:firstM rs p+cX rs p<=_:=h1;have e:cX rs p=dO rs p+(rs[p]).own:=by unfold cX;rw[fh hp];rfl
 have:=wz rs[p];lia
def qE:gW rs (q:Int)=(firstM rs q:Int):=by unfold gW;rw[jo]
theorem pJ{x:Nat}(h:(aD rs rs.length)[x]?=some R):∃(p k:Nat)(r:Row),rs[p]?=some r/\k<cX rs p/\x=firstM rs p+k/\yO rs p r (x:Int) k R:=by have hx:=(e9 h).1;rw[eT^av _] at hx;let#[p,k,h1,h2,rfl]:=yN hx^av _;have hr:rs[p]?=some rs[p]:=fh h1;rw[QD hr h2 _ h1^av _] at h;have:=ahE h;show#[p,k,_,hr,h2,rfl,by rw[show((firstM rs p+k:Nat):Int)=(firstM rs p:Int)+k by lia];show this]
def sD(hr:rs[p]?=some r):cX rs p=dO rs p+r.own:=by unfold cX;rw[hr];rfl
def kE(f:Int->Int)(r:Row):(r.d8 f).gH=r.gH/\(r.d8 f).sd=r.sd/\(r.d8 f).pX=r.pX/\(r.d8 f).ways=r.ways.map f:=by cases r<;>show#[rfl,rfl,rfl,rfl]
def EE(f:Int->Int)(r:Row)(s:Int):(r.d8 f).gv s=r.gv s/\(r.d8 f).rd s=r.rd s:=by let#[h1,h2,h3,_]:=kE f r;unfold Row.gv Row.rd Row.LV;rw[h1,h2,h3];show#[rfl,rfl]
theorem wA{d:Int}(hpl:r.pl)(hd:r.gH=true)(h1:R.gH=true)(h2:R.sd=d)(h3:R.pX=r.pX)(uO:d=0\/d=1)(s:Int):(s=d->R.gv s=r.gv s/\R.rd s=r.rd s)/\(s≠d->s=0\/s=1->R.gv s = -1/\R.rd s=[]):=by
 have e2:r.sd=2:=by
  cases r with
  | num d _ _ _=>show hpl
  | copy d _ _ _=>show hpl
  | op d _ _ _ _ _=>show hpl
  | _=>cases hd
 unfold Row.gv Row.rd Row.LV;rw[h1,h2,h3,hd,e2];constructor;intro e;subst e;simp;intro e hs;have e1:¬d=s:=λz=>e z.symm;have e3:¬d=2:=∅;simp[e1,e3]
theorem Mm(hok:∀r∈rs,r.ok rs.length)(hpl:∀r∈rs,r.pl)(QE:∀r∈aD rs rs.length,r.ok (aD rs rs.length).length)(hs:s=0\/s=1)(hb:0<=b/\b<8){x:Nat}(h:dg (aD rs rs.length) (s,b) x):
  ∀(p k:Nat)(r:Row),rs[p]?=some r->k<cX rs p->x=firstM rs p+k->(k<=dO rs p\/s=1->dg rs (s,b) p)/\(dO rs p<k->s=0->∃q:Nat,((q:Nat):Int)∈r.ways/\dg rs (s,b) q):=by
 show oj (S:=λx=>∀(p k:Nat)(r:Row),rs[p]?=some r->k<cX rs p->x=firstM rs p+k->(k<=dO rs p\/s=1->dg rs (s,b) p)/\(dO rs p<k->s=0->∃q:Nat,((q:Nat):Int)∈r.ways/\dg rs (s,b) q)) (λy R hR hm=>?_) (λy q R hR hm w hq=>?_) x h
 .intro p k r hr hk ey;let#[p',k',r',hr',hk',ey',hw]:=pJ hR;let#[rfl,rfl]:=jM hk hk' ∅;rw[hr] at hr';cases hr';have hmem:=gq hr;have RI:=hok r hmem;rw[lz (QE R^gq hR) hs] at hm;have hso:=sD hr;have Nd:=yL r;have here:b∈r.rd s->dg rs (s,b) p:=λz=>.here hr^(lz RI hs).mpr z;cases hw with
  | look hm' hb' =>
   have:b∈di rs p:=by have hm:b∈[_]:=hm;rw[ay.mp hm];show gq hb'
   obtain⟨z,hz,ez⟩:∃z∈kB rs p,z.2=b:=by
    unfold di at this;rw[SN.jK λn hn=>?_] at this;let#[z,hz,ez]:=aE.mp this;show#[z,hz,ez]
    .let#[z,hz,rfl]:=aE.mp hn;have all:∀t∈dz,0<=t.2/\t.2<8:=by decide
     show all z (dS.mp hz).1
   let#[hz1,hz2]:=dS.mp hz;have all:∀t∈dz,t.1=0\/t.1=1:=by decide
   let#[zs,zb]:=z;dsimp only at ez;subst ez;show#[λ_=>ED hok hpl (all _ hz1) hs hb.1^iW.mp hz2,λh=>?_];have:=(e9 hb').1;unfold dO at h;rw[if_pos hm'] at h;lia
  | mark _ _=>show nomatch (show b∈([]:List Int) from hm)
  | own hd e =>
   rw[(EE _ r s).2] at hm;show#[λ_=>here hm,λh=>∅]
  | one hd e h1 h2 h3 h4 _ =>
   show#[λ_=>?_,λh=>∅];have hg:=wA (hpl r hmem) hd h1 h2 h3 (.inl rfl) s;by_cases e0:s=0;rw[(hg.1 e0).2] at hm;show here hm;rw[(hg.2 e0 hs).2] at hm;show nomatch hm
  | two hd e h1 h2 h3 h4 _ =>
   have hg:=wA (hpl r hmem) hd h1 h2 h3 (.inr rfl) s;by_cases e0:s=1;rw[(hg.1 e0).2] at hm;show#[λ_=>here hm,λ_ h=>∅];rw[(hg.2 e0 hs).2] at hm;show nomatch hm
 .intro p k r hr hk ey;let#[p',k',r',hr',hk',ey',hw]:=pJ hR;let#[rfl,rfl]:=jM hk hk' ∅;rw[hr] at hr';cases hr';have hmem:=gq hr;have RI:=hok r hmem;rw[iX (QE R^gq hR) hs hb.1] at hm;have hso:=sD hr;have Nd:=yL r;have hop:=wz r;have next:∀{j:Nat},(q:Int)=(y:Int)+1->k+1=j->j<cX rs p->_:=λ{j} e1 e2 e3=>hq p j r hr e3 ∅;have QF:(q:Int)∈r.ways.map^gW rs->∃q':Nat,((q':Nat):Int)∈r.ways/\dg rs (s,b) q':=λw=>by let#[z,hz,ez]:=aE.mp w;let#[h1,h2]:=Row.ja RI z hz;obtain⟨q',rfl⟩:∃q':Nat,z=(q':Int):=#[z.toNat,∅];rw[qE] at ez;have hq':q'<rs.length:=∅;show#[q',hz,(hq q' 0 rs[q'] (fh hq') (by have:=(jl hq').2;lia) ∅).1^.inl^aM _]
  have onp:r.gv s≠b->(∃q':Nat,((q':Nat):Int)∈r.ways/\dg rs (s,b) q')->dg rs (s,b) p:=λh ⟨q',h1,h2⟩=>.on hr (λz=>h^(iX RI hs hb.1).mp z) h1 h2;cases hw with
  | look hm' hb' =>
   have j7:=(e9 hb').1;have em:dO rs p=(di rs p).length+1:=by unfold dO;rw[if_pos hm']
   have w:(q:Int)=(y:Int)+1:=ay.mp w;show#[λ_=>(next (j:=k+1) w rfl ∅).1 (.inl ∅),λh=>∅]
  | mark hm' e =>
   have em:dO rs p=(di rs p).length+1:=by unfold dO;rw[if_pos hm']
   have w:(q:Int)=(y:Int)+1:=ay.mp w;show#[λ_=>(next (j:=k+1) w rfl ∅).1 (.inl ∅),λh=>∅]
  | own hd e =>
   rw[(kE (gW rs) r).2.2.2] at w;rw[(EE _ r s).1] at hm;show#[λ_=>onp hm^QF w,λh=>∅]
  | one hd e h1 h2 h3 h4 _ =>
   rw[h4] at w;have w:(q:Int)=(y:Int)+1:=ay.mp w;have ho:r.own=2:=by unfold Row.own;rw[if_pos hd]
   have hn:=next (j:=k+1) w rfl ∅;show#[λ_=>?_,λh=>∅];by_cases e0:s=1;show hn.1^.inr e0;have e1:s=0:=hs.resolve_right e0;have hg:=(wA (hpl r hmem) hd h1 h2 h3 (.inl rfl) s).1 e1;rw[hg.1] at hm;show onp hm (hn.2 ∅ e1)
  | two hd e h1 h2 h3 h4 _ =>
   rw[h4] at w;show#[λh=>?_,λ_ _=>QF w];have e1:s=1:=h.resolve_left ∅;have hg:=(wA (hpl r hmem) hd h1 h2 h3 (.inr rfl) s).1 e1;rw[hg.1] at hm;show onp hm^QF w
def EF{n n':Int}{f:Int->Int}(h:r.ok n)(hf:∀q,j6 n q->j6 n'^f q):(r.d8 f).ok n':=by
 cases r with
 | num d k v q=>show#[h.1,h.2.1,h.2.2.1,hf _ h.2.2.2]
 | copy d k i q=>show#[h.1,h.2.1,h.2.2.1,hf _ h.2.2.2]
 | op d s k i j q=>show#[h.1,h.2.1,h.2.2.1,h.2.2.2.1,h.2.2.2.2.1,hf _ h.2.2.2.2.2]
 | out i q=>show#[h.1,hf _ h.2]
 | fork i q p=>show#[h.1,hf _ h.2.1,hf _ h.2.2]
 | look i q=>show#[h.1,hf _ h.2]
 | mark q=>show hf _ h
 | back i=>show h
theorem Kh(hok:∀r∈rs,r.ok rs.length):∀R∈aD rs rs.length,R.ok (aD rs rs.length).length:=λR hR=>by
 let#[x,hx]:=gG.mp hR;let#[p,k,r,hr,hk,ex,hw]:=pJ hx;have hp:=(e9 hr).1;have RI:=hok r^gq hr;have hso:=sD hr;have hop:=wz r;rw[eT^av _];have hm:=jk (rs:=rs) (p:=p+1) (q:=rs.length) hp;have hm:firstM rs p+cX rs p<=_:=hm;have hf:∀q,j6 rs.length q->j6 (firstM rs rs.length)^gW rs q:=λq hq=>by obtain⟨q',rfl⟩:∃q':Nat,q=(q':Int):=#[q.toNat,by have:=hq.1;lia];rw[qE];have h1:=hq.2;have:=(jl (rs:=rs) (p:=q') ∅).1;show#[∅,∅]
 have nx:k+1<cX rs p->j6 (firstM rs rs.length) ((x:Int)+1):=λh=>#[∅,∅];cases hw with
 | look hm' hb' =>
  have j7:=(e9 hb').1;have em:dO rs p=(di rs p).length+1:=by unfold dO;rw[if_pos hm']
  show#[Ml rs p _^gq hb',nx ∅]
 | mark hm' e =>
  have em:dO rs p=(di rs p).length+1:=by unfold dO;rw[if_pos hm']
  show nx ∅
 | own hd e=>show EF RI hf
 | one hd e _ _ _ _ h5 =>
  have ho:r.own=2:=by unfold Row.own;rw[if_pos hd]
  show h5 _ _ RI (nx ∅)
 | two hd e _ _ _ _ h5=>show h5 _ _ RI hf
def iY(rs:List Row)(p k:Nat)(t:HM.fG):Prop:=k<dO rs p/\(t=none\/∃s b i,t=some (s,b)/\k<=i/\(di rs p)[i]?=some b)
open Classical in
def ahG(rs:List Row)(p k:Nat)(t:HM.fG):Nat:=if iY rs p k t then dO rs p-k else 12*(rs.length+1-pQ rs p)+(cX rs p-k)
open Classical in
def rkZ(rs:List Row)(z:HM.bB):Nat:=if e:∃a:Nat×Nat,a.2<cX rs a.1/\z.1=((firstM rs a.1+a.2:Nat):Int) then ahG rs e.choose.1 e.choose.2 z.2 else 0
end
noncomputable def sumTo(f:Nat->Nat):Nat->Nat
 | 0=>0
 | n+1=>sumTo f n+f n
theorem sE{f g:Nat->Nat}:∀{n:Nat},(∀j,j<n->f j<=g j)->sumTo f n<=sumTo g n
 | 0,_=>av _
 | n+1,h=>Nat.add_le_add (sE λj hj=>h j ∅) (h n ∅)
theorem Ca{f:Nat->Nat}{a c:Nat}:∀n:Nat,sumTo (λj=>f j+if j=a then c else 0) n=sumTo f n+if a<n then c else 0
 | 0=>by rw[if_neg^dU _];rfl
 | n+1=>by change sumTo _ n+(f n+if n=a then c else 0)=sumTo f n+f n+_;rw[Ca n];by_cases h:a<n;rw[if_pos h,if_neg ∅,if_pos ∅];lia;rw[if_neg h];by_cases e:n=a;rw[if_pos e,if_pos ∅];lia;rw[if_neg e,if_neg ∅];lia
section
variable {rs:List Row}
theorem AM(rs:List Row):∀p,firstM rs p=sumTo (cX rs) p
 | 0=>rfl
 | p+1=>by change firstM rs p+_=sumTo _ p+_;rw[AM rs p]
def YM(h:¬bM rs p=true):dO rs p=0:=by unfold dO;rw[if_neg h]
def wB(h:bM rs p=true):dO rs p=(di rs p).length+1:=by unfold dO;rw[if_pos h]
def AN(rs:List Row)(d:Nat):Nat:=sumTo (λj=>if ¬bM rs j=true/\d<pQ rs j then cX rs j else 0) rs.length
theorem Mn(hq:q<rs.length)(hm:¬bM rs q=true)(hd:pQ rs q=d+1):cX rs q+AN rs (d+1)<=AN rs d:=by have:=Ca (f:=λj=>if ¬bM rs j=true/\d+1<pQ rs j then cX rs j else 0) (a:=q) (c:=cX rs q) rs.length;rw[if_pos hq] at this;unfold AN;rw[Nat.add_comm,<- this];show sE λj hj=>?_;by_cases e:j=q;subst e;rw[if_neg ∅,if_pos rfl,if_pos #[hm,∅]];lia;rw[if_neg e];by_cases h:¬bM rs j=true/\d+1<pQ rs j;rw[if_pos h,if_pos #[h.1,∅]];lia;rw[if_neg h];show aM _
theorem QG(m:Nat)(hp:p<rs.length):cX rs p+AN rs^pQ rs p+(if m<rs.length/\m≠p/\bM rs m=true then cX rs m else 0)<=firstM rs rs.length:=by
 have h1:=Ca (f:=λj=>if ¬bM rs j=true/\pQ rs p<pQ rs j then cX rs j else 0) (a:=p) (c:=cX rs p) rs.length;rw[if_pos hp] at h1;have key:∀j,j<rs.length->((if ¬bM rs j=true/\pQ rs p<pQ rs j then cX rs j else 0)+if j=p then cX rs p else 0)<=cX rs j:=λj hj=>by by_cases e:j=p;subst e;rw[if_neg ∅,if_pos rfl];lia;rw[if_neg e];split<;>lia
 rw[AM];by_cases hm:m<rs.length/\m≠p/\bM rs m=true;rw[if_pos hm];have h2:=Ca (f:=λj=>(if ¬bM rs j=true/\pQ rs p<pQ rs j then cX rs j else 0)+if j=p then cX rs p else 0) (a:=m) (c:=cX rs m) rs.length;rw[if_pos hm.1,h1] at h2;rw[Nat.add_comm^cX rs p];show bg (Nat.le_of_eq h2.symm) (sE λj hj=>?_);by_cases e:j=m;subst e;rw[if_neg (λz=>z.1 hm.2.2),if_neg hm.2.1,if_pos rfl];lia;rw[if_neg e];show key j hj;rw[if_neg hm,Nat.add_comm^cX rs p,Nat.add_zero];show bg (Nat.le_of_eq h1.symm)^sE key
open Classical in
def EG(rs:List Row):Nat:=if ∃m,m<rs.length/\bM rs m=true then 9 else 0
open Classical in
def RJ(rs:List Row)(p k:Nat)(t:HM.fG):Nat:=if iY rs p k t then dO rs p-k else cX rs p-k+AN rs^pQ rs p+EG rs
def sF(h:iY rs p k t):RJ rs p k t=dO rs p-k:=by unfold RJ;rw[if_pos h]
def mK(h:¬iY rs p k t):RJ rs p k t=cX rs p-k+AN rs^pQ rs p+EG rs:=by unfold RJ;rw[if_neg h]
open Classical in
def Nh(rs:List Row)(z:HM.bB):Nat:=if e:∃a:Nat×Nat,a.2<cX rs a.1/\z.1=((firstM rs a.1+a.2:Nat):Int) then RJ rs e.choose.1 e.choose.2 z.2 else 0
theorem HS{z:Int}(hk:k<cX rs p)(hz:z=((firstM rs p+k:Nat):Int)):Nh rs (z,t)=RJ rs p k t:=by have e:∃a:Nat×Nat,a.2<cX rs a.1/\(z,t).1=((firstM rs a.1+a.2:Nat):Int):=#[(p,k),hk,hz];unfold Nh;rw[dif_pos e];have h:=e.choose_spec;have h2:z=((firstM rs e.choose.1+e.choose.2:Nat):Int):=h.2;let#[h1,h3]:=jM h.1 hk ∅;rw[h1,h3]
theorem V9(hok:∀r∈rs,r.ok rs.length)(hpl:∀r∈rs,r.pl)(hq:q<rs.length)(hm:bM rs q=true)(lv:fG.lv (aD rs rs.length) (firstM rs q) u):iY rs q 0 u:=by
 have em:=wB hm;have hfl:=jl hq;show#[∅,?_];cases u with
 | none=>show .inl rfl
 | some y =>
  right;let#[s,b]:=y;have lv:(s,b)∈kB (aD rs rs.length)^firstM rs q:=lv;let#[l1,l2]:=dS.mp lv;have all:∀t∈dz,(t.1=0\/t.1=1)/\0<=t.2/\t.2<8:=by decide
  have Nb:=all _ l1;have Dy:=(Mm hok hpl (Kh hok) Nb.1 Nb.2 (iW.mp l2) q 0 rs[q] (fh hq) ∅ rfl).1^.inl^aM _;have hin:b∈di rs q:=by unfold di;rw[SN.jK λn hn=>?_];show aE.mpr #[(s,b),dS.mpr #[l1,iW.mpr Dy],rfl];let#[z,hz,rfl]:=aE.mp hn;show(all z (dS.mp hz).1).2
  let#[i,hi,e]:=jS.mp hin;show#[s,b,i,rfl,aM _,by rw[fh hi,e]]
noncomputable def Row.iM:Row->Bool
 | .look _ _=>true|.mark _=>true|_=>false
theorem sG(hpl:r.pl)(h:yO rs p r x k R):R.iM=decide (k<dO rs p)/\(R.iM=true->bM rs p=true/\R.ways=[x+1]/\R.gv=λ_=>-1):=by
 have np:∀{R:Row},R.gH=true->R.iM=false:=λ{R} h=>by cases R<;>first|rfl|cases h
 cases h with
 | look hm hb =>
  have:=(e9 hb).1;have em:=wB hm;show#[(decide_eq_true ∅).symm,λ_=>#[hm,rfl,rfl]]
 | mark hm e =>
  have em:=wB hm;show#[(decide_eq_true ∅).symm,λ_=>#[hm,rfl,rfl]]
 | own hd e =>
  have:(r.d8^gW rs).iM=false:=by cases r<;>first|rfl|show absurd hpl id
  rw[this];show#[(decide_eq_false ∅).symm,λz=>nomatch z]
 | one hd e h1=>rw[np h1];show#[(decide_eq_false ∅).symm,λz=>nomatch z]
 | two hd e h1=>rw[np h1];show#[(decide_eq_false ∅).symm,λz=>nomatch z]
def yP(hg:R.gv=λ_=>-1)(l:LeftOf R t u):u=t:=by
 cases t with
 | none=>show l.2
 | some y =>
  rcases l.2 with⟨h,_⟩|⟨_,h,_⟩;show h;rw[hg] at h;show absurd (show(0:Int) <= -1 from h) (by decide)
theorem Kl(hw:yO rs p r x k R)(he:iY rs p k t)(lf:LeftOf R t u)(hp:R.iM=true):u=t/\iY rs p (k+1) t:=by
 cases hw with
 | @look bb hm' hb' =>
  have j7:=(e9 hb').1;have em:=wB hm';have eu:=yP rfl lf;subst eu;show#[rfl,∅,he.2.imp_right ?_];rintro⟨s,b',i,rfl,hi,hib⟩;show#[s,b',i,rfl,?_,hib];rcases bE k i with h|h;show h
  .exfalso;obtain rfl:i=k:=∅;rw[hb'] at hib;cases hib;have h1:=lf.1;unfold Row.ends at h1;dsimp only at h1;rw[show uI (.str (Row.look bb (x+1)).key) [.str "look", .str "out", .str "back"]=true from by change uI (.str "look") _=true;decide,show(Row.look bb (x+1)).pX.headD 0=bb from rfl,decide_eq_true rfl] at h1;cases h1
 | mark hm' e =>
  exfalso;have eu:=yP rfl lf;subst eu;rcases he.2 with rfl|⟨s,b',i,rfl,hi,hib⟩
  .have h1:=lf.1;rw[show(Row.mark (x+1)).ends none=true from by change uI (.str "mark") _=true;decide] at h1;cases h1
  .have:=(e9 hib).1;lia
 | own hd e=>show absurd he.1 ∅
 | one hd e=>show absurd he.1 ∅
 | two hd e=>show absurd he.1 ∅
theorem Mp(hok:∀r∈rs,r.ok rs.length)(hpl:∀r∈rs,r.pl)(QH:∀p,p<rs.length->uw rs p){x:Nat}{op:Int}(hr:rs[p]?=some r)(hk:k<cX rs p)(ex:x=firstM rs p+k)(hw:yO rs p r (x:Int) k R)(hl:B0 (aD rs rs.length) R t (op,u)):
  Nh rs (op,u)<RJ rs p k t:=by
 have hp:=(e9 hr).1;have T6:=hpl r^gq hr;have hso:=sD hr;have hop:=wz r;have Nd:=yL r;let#[d,hd]:=YL^QH p hp;have hdm:=B9 hd;let#[w,lf,lv]:=hl;dsimp only at w lf lv;let#[hP,hP2]:=sG T6 hw;have next:k+1<cX rs p->op=(x:Int)+1->Nh rs (op,u)=RJ rs p (k+1) u:=λh e=>HS h (by rw[e,ex];lia);by_cases rg:R.iM=true
 .let#[hm,ew,eg]:=hP2 rg;rw[ew] at w;have hkm:k<dO rs p:=of_decide_eq_true (hP▸rg);rw[next ∅ (ay.mp w)];by_cases he:iY rs p k t;let#[rfl,he']:=Kl hw he lf rg;have:=he'.1;rw[sF he,sF he'];lia;have eu:=yP eg lf;subst eu;have he':¬iY rs p (k+1) u:=λz=>he #[hkm,z.2.imp_right λ⟨s,b',i,h1,h2,h3⟩=>#[s,b',i,h1,∅,h3]];rw[mK he,mK he'];lia
 .have hkm:¬k<dO rs p:=λz=>rg (by rw[hP];show decide_eq_true z);have hne:¬iY rs p k t:=λz=>hkm z.1;have QF:op∈r.ways.map^gW rs->Nh rs (op,u)<RJ rs p k t:=λw=>by
   rw[mK hne,hdm];let#[q,hq,eq]:=aE.mp w;let#[g1,g2]:=Row.ja (hok r^gq hr) q hq;obtain⟨q',rfl⟩:∃q':Nat,q=(q':Int):=#[q.toNat,∅];rw[qE] at eq;have hq':q'<rs.length:=∅;have hfl:=jl hq';rw[HS (p:=q') (k:=0) ∅ (by rw[<- eq];simp)];by_cases hm:bM rs q'=true
   .rw[<- eq] at lv;rw[sF^V9 hok hpl hq' hm^by simpa using lv];have:=wu rs q';have:EG rs=9:=by unfold EG;rw[if_pos #[q',hq',hm]]
    lia
   .have hd':=RH.on hr hq hm hd;rw[mK (λz=>by have:=z.1;rw[YM hm] at this;lia),B9 hd'];have:=Mn hq' hm^B9 hd';lia
  cases hw with
  | look=>show absurd rfl rg
  | mark=>show absurd rfl rg
  | own hd' e =>
   rw[(kE (gW rs) r).2.2.2] at w;show QF w
  | one hd' e h1 h2 h3 h4 _ =>
   have ho:r.own=2:=by unfold Row.own;rw[if_pos hd']
   rw[h4] at w;rw[next ∅ (ay.mp w),mK hne,mK (λz=>by have:=z.1;lia)];lia
  | two hd' e h1 h2 h3 h4 _ =>
   rw[h4] at w;show QF w
end
theorem QI{ks:List HM.bB}{L:HM.bB->List HM.bB}{rk:HM.bB->Nat}{F:List (HM.bB×Int)}(hF:gI ks L F)(h1:∀k∈ks,1<=rk k)(hr:∀k∈ks,∀o∈L k,rk o<rk k):∀(n:Nat)(x:HM.bB×Int),x∈F->rk x.1<=n->x.2<=rk x.1
 | 0,x,hx,h=>absurd (h1 _^hF.1.sub x hx) ∅
 | n+1,x,hx,h=>by
  have hk:=hF.1.sub x hx;have:=h1 _ hk;let#[_,_,h3]:=hF.1.fin x hx;rcases h3 with⟨e,_⟩|⟨o,ho,hm⟩;lia
  .have h4:=hr _ hk o ho;have h5:=QI hF h1 hr n (o,x.2-1) hm (by change rk o<=n;lia);dsimp only at h5;lia
section
variable {rs:List Row}(hok:∀r∈rs,r.ok rs.length)(hpl:∀r∈rs,r.pl)
include hok hpl
theorem wC(hz:z∈bq (aD rs rs.length) (aD rs rs.length).length):∃(p k x:Nat)(r R:Row),rs[p]?=some r/\p<rs.length/\k<cX rs p/\x=firstM rs p+k/\z.1=(x:Int)/\(aD rs rs.length)[x]?=some R/\yO rs p r (x:Int) k R/\Nh rs z=RJ rs p k z.2/\(bM rs p=true->k=0->iY rs p 0 z.2):=by let#[x,hx,ez,ht]:=jj.mp hz;let#[p,k,r,hr,hk,ex,hw]:=pJ^fh hx;have hp:=(e9 hr).1;let#[zp,t]:=z;dsimp only at ez ht;show#[p,k,x,r,_,hr,hp,hk,ex,ez,fh hx,hw,HS hk^by rw[ez,ex],λhm e=>V9 hok hpl hp hm ?_];have:=ur.mp ht;rwa [ex,e,Nat.add_zero] at this
theorem QJ(hz:z∈bq (aD rs rs.length) (aD rs rs.length).length):1<=Nh rs z/\Nh rs z<=(aD rs rs.length).length+8:=by let#[p,k,x,r,R,hr,hp,hk,ex,ez,hR,hw,e,h0]:=wC hok hpl hz;rw[e,eT^av _];have hal:=λm=>QG (rs:=rs) (p:=p) m hp;have hfl:=jl hp;by_cases he:iY rs p k z.2;rw[sF he];have:=he.1;have:=hal 0;have:=wu rs p;lia;rw[mK he];unfold EG;by_cases hm:∃m,m<rs.length/\bM rs m=true;rw[if_pos hm];let#[m,hm1,hm2]:=hm;have h1:=hal m;by_cases hpm:bM rs p=true;have hk0:k≠0:=λz=>he (z▸h0 hpm z);lia;rw[if_pos #[hm1,λz=>hpm (z▸hm2),hm2]] at h1;have:=(jl hm1).2;lia;rw[if_neg hm];have:=hal 0;lia
theorem Km(QH:∀p,p<rs.length->uw rs p)(j8:∀k r t,(aD rs rs.length)[k]?=some r->t∈cF (aD rs rs.length) k->iL (aD rs rs.length) r t^cU (aD rs rs.length) ((k:Int),t))
  {o:HM.bB}(hz:z∈bq (aD rs rs.length) (aD rs rs.length).length)(ho:o∈cU (aD rs rs.length) z):Nh rs o<Nh rs z:=by let#[p,k,x,r,R,hr,hp,hk,ex,ez,hR,hw,e,h0]:=wC hok hpl hz;let#[x',R',ez',hx',YN,Xu,hl]:=Ke j8 hz ho;obtain rfl:x'=x:=∅;rw[hR] at YN;cases YN;rw[e];show Mp hok hpl QH hr hk ex hw hl
theorem HU(QH:∀p,p<rs.length->uw rs p)(hne:rs≠[])(CL:jG (bq (aD rs rs.length) (aD rs rs.length).length)^cU^aD rs rs.length)
  (j8:∀k r t,(aD rs rs.length)[k]?=some r->t∈cF (aD rs rs.length) k->iL (aD rs rs.length) r t^cU (aD rs rs.length) ((k:Int),t)):
  (∃F,gI (bq (aD rs rs.length) (aD rs rs.length).length) (cU^aD rs rs.length) F)/\∀m,wo (bq (aD rs rs.length) (aD rs rs.length).length) (cU^aD rs rs.length) m->1<=m/\m<=((aD rs rs.length).length:Int)+8:=by show#[YK (rk:=Nh rs) CL.1 (λk hk o ho=>(CL.2.2 k hk).2 o ho) λz hz o ho=>Km hok hpl QH j8 hz ho,?_];rintro m ⟨F,hF,⟨x,hx,rfl⟩,_⟩;have h1:=QI (rk:=Nh rs) hF (λk hk=>(QJ hok hpl hk).1) (λz hz o ho=>Km hok hpl QH j8 hz ho) _ x hx^av _;have h2:=(QJ hok hpl^hF.1.sub x hx).2;show#[(hF.1.fin x hx).1,∅]
theorem Kn(j8:∀k r t,(aD rs rs.length)[k]?=some r->t∈cF (aD rs rs.length) k->iL (aD rs rs.length) r t^cU (aD rs rs.length) ((k:Int),t)){p:Nat}{t:HM.fG}:∀(zs:List HM.bB)(k:Nat),(∀z∈zs,z∈bq (aD rs rs.length) (aD rs rs.length).length) ->
  (∀(i:Nat)(a b:HM.bB),zs[i]?=some a->zs[i+1]?=some b->b∈cU (aD rs rs.length) a)->(∀a,zs[0]?=some a->a=(((firstM rs p+k:Nat):Int),t)/\iY rs p k t) ->
  ∀(i:Nat)(a:HM.bB),zs[i]?=some a->a.1=((firstM rs p+k+i:Nat):Int)/\∃R,(aD rs rs.length)[firstM rs p+k+i]?=some R/\R.iM=true
 | [],_,_,_,_,i,a,h=>by simp at h
 | z::zs,k,hin,hch,h0,i,a,h=>by
  let#[ez,he]:=h0 z rfl;have hz:=hin z (by simp);let#[p',k',x,r,R,hr,hp,hk,ex,ez',hR,hw,e,_]:=wC hok hpl hz;have hk2:k<cX rs p:=by have:=he.1;unfold cX;lia
  rw[ez] at ez';dsimp only at ez';let#[rfl,rfl]:=jM hk hk2 ∅;have T6:=hpl r^gq hr;have rg:R.iM=true:=by rw[(sG T6 hw).1];show decide_eq_true he.1
  cases i with
  | zero =>
   cases h;rw[ez];show#[rfl,R,by rw[Nat.add_zero,<- ex];show hR,rg]
  | succ i =>
   rw[jt] at h;have ih:=Kn j8 (p:=p') (t:=t) zs (k'+1) (λy hy=>hin y^by simp[hy]) (λj a b ha hb=>hch (j+1) a b (by rwa [jt])^by rwa [jt]) (λb hb=>?_) i a h;rw[show firstM rs p'+k'+(i+1)=firstM rs p'+(k'+1)+i by lia];show ih;have ho:=hch 0 z b rfl (by rwa [jt]);let#[x',R',ez2,hx',YN,Xu,hl]:=Ke j8 hz ho;rw[ez] at ez2;dsimp only at ez2;obtain rfl:x'=x:=∅;rw[hR] at YN;cases YN;let#[w,lf,_]:=hl;rw[ez] at lf;let#[eu,he']:=Kl hw he lf rg;rw[((sG T6 hw).2 rg).2.1] at w;have w:=ay.mp w;show#[Prod.ext (by rw[w,ex];dsimp only;lia) eu,he']
theorem Mq{x:Nat}(hR:(aD rs rs.length)[x]?=some R)(hp:R.iM=true)(h0:x=0\/∃R',(aD rs rs.length)[x-1]?=some R'/\R'.iM=false):∃p,p<rs.length/\bM rs p=true/\x=firstM rs p:=by
 let#[p,k,r,hr,hk,ex,hw]:=pJ hR;have T6:=hpl r^gq hr;let#[h1,h2]:=sG T6 hw;have hkm:k<dO rs p:=of_decide_eq_true (h1▸hp);show#[p,(e9 hr).1,(h2 hp).1,?_];rcases lN k with e|hk0;lia
 .exfalso;rcases h0 with e|⟨R',YN,hn⟩;lia
  .let#[p',k',r',hr',hk',ex',hw']:=pJ YN;let#[rfl,rfl]:=jM hk' (by lia:k-1<cX rs p) ∅;rw[hr] at hr';cases hr';rw[(sG T6 hw').1,decide_eq_true ∅] at hn;cases hn
end
inductive T7(vs:List V)(H:Hp)(Q:VK)(_:XK):Prop|mk(p:Addr)(us:List V)(rs:List Row)(_:vs=[.ref p])(_:H p=some^.lst us)(_:Rows H us rs)(_:(∀r∈rs,r.ok rs.length))(_:rs.length<=2000)(_:∀(d:Addr)(kvs:List (Key×V))(H':Hp),aA H H'->H d=none->H' d=some^.dK kvs->sC H' rs kvs->Q (.ref d) H')
theorem QK:T.looks∩(5,T7):=by
 exists T.looks,DT,#[p,us,rs,rfl,hp,hrs,hok,hn,q],"+/1:JW *0.<b!ÅÆ*OHC:Qe *0E=-0*w!*±!*«!E´!0",2,C9 rfl,"place",["lively"],[1],["lively"],Ds (w:=w) rfl rfl,GI (K:=K) (w:=w) rfl rfl rfl,Oi (K:=K) rfl (aX (iC (K:=K) rfl) (pv 1) (pv 0)),lZ (K:=K) rfl;lk;show#[p,us,rs,rfl,hp,hrs,hok,hn,λlv as H1 s1 flv Dy hal _ _ _ hL=>?_];lk;show#[p,us,rs,rfl,s1 _ _ hp,hrs.same s1,hok,∅,λmt H2 s2 _ hmt=>?_];have TF:=s2 _ _ Dy;have Ve:AD H2 as rs:=λk a e=>let⟨vs,h1,h2⟩:=hL k a e;#[vs,s2 _ _ h1,h2.same s2];have s12:=s1.trans s2;clear s1 s2 Dy hL;have mem:∀x∈gw rs,∃j:Nat,x=(j:Int)/\j<rs.length/\bM rs j=true:=λx hx=>by unfold gw at hx;let#[j,hj,rfl]:=aE.mp hx;let#[h1,h2]:=dS.mp hj;show#[j,rfl,f6.mp h1,h2]
 have amr:(gw rs).length<=rs.length:=by unfold gw;rw[ao];show bg (ju _ _) (by rw[lK];show av _)
 lk;show fM (xs:=(gw rs).map V.int) (λi ys H'=>aA H2 H'/\∃ps:List (Key×V),xQ H' ys ps/\ps.length=i/\∀(k:Nat)(x:Int),k<i->(gw rs)[k]?=some x->∃b,ps[k]?=some (.inl x,.ref b)/\H' b=some^.lst^(di rs x.toNat).map V.int) #[aA.refl _,[],.nil,rfl,λk x h=>absurd h^dU _] ?_ ?_ ?_;rintro i ys H' _ ⟨s',_⟩;show bG.of^s' _ _ hmt
 .rintro i x ys H3 hx ⟨s3,ps,hP,hpl,hps⟩;rw[aV] at hx;let#[x,hxi,rfl]:=cG.mp hx;let#[j,rfl,hj,hmj]:=mem x^gq hxi;have hil:=(e9 hxi).1;have hyl:=kh hP;show#[bV ∅,?_];obtain⟨a,ha⟩:∃a,as[j]?=some a:=#[_,fh ∅];let#[vs,hvs,Qh]:=Ve j a ha;have ahJ:=s3 _ _ hvs;have ahK:=Qh.same s3;have hvl:vs.length<=16:=by rw[Qh.length];show om ..
  lk;show cZ (bG.of^s3 _ _ TF) (v:=.ref a) (fR (by rw[aV,ha];rfl)) ?_;lk;show fM (xs:=vs) (λk zs H'=>H'=H3/\zs=(((kB rs j).take k).map (·.2)).map V.int) #[rfl,rfl] ?_ ?_ ?_;rintro k zs H' _ ⟨rfl,_⟩;show bG.of ahJ
  .rintro k y zs H' hy ⟨rfl,rfl⟩;let#[t,htk,b,rfl,hb]:=bu ahK hy;have VH:=om rs j;show#[bV (by simp;lia),?_];lk;show#[rfl,?_];rw[bT,htk,bA,bA];rfl
  .rintro zs H' ⟨rfl,rfl⟩ l H4 n4;rw[Qh.length,bU] at n4;have Rx:∀b∈(kB rs j).map (·.2),0<=b/\b<8:=λb hb=>by
    let#[t,ht,rfl]:=aE.mp hb;have all:∀t∈dz,0<=t.2/\t.2<8:=by decide
    show all t (dS.mp ht).1
   have hl:=om rs j;lk;show OH (bG.of n4.self) (by rw[ao];lia) ?_;intro st H5 n5;lk;show Jh n5.self Rx ?_;intro so H6 n6;have hso:=n6.self;have s36:=(n4.same.trans n5.same).trans n6.same;clear n4 n5 n6;lk;rename_i tu H7 n7;have Yc:=s36.trans n7.same;show#[s3.trans Yc,ps++[(.inl (j:Int),.ref so)],?_,by simp[hpl],λk y hk hy=>?_];show dD (dW (λ_ _ zq=>?_) hP) #[tu,rfl,n7.self];let#[t,e1,e2]:=zq;show#[t,e1,Yc _ _ e2];rcases bE k i with hlt|hge;let#[b,h1,h2]:=hps k y hlt hy;show#[b,by rw[jR ∅];show h1,Yc _ _ h2];have ek:k=i:=∅;subst ek;rw[hxi] at hy;cases hy;show#[so,?_,n7.keep hso];rw[kJ ∅,hpl,Nat.sub_self];rfl
 .rintro ys H3 ⟨s3,ps,hP,hpl,hps⟩ l H4 n4;rw[ao] at hpl hps;have hP4:xQ H4 ys ps:=dW (λ_ _ ⟨t,e1,e2⟩=>#[t,e1,n4.keep e2]) hP;lk;show aa7 (bG.of n4.self) hP4 ?_;intro d H5 n5;have s25:=(s3.trans n4.same).trans n5.same;lk;show q d _ H5 (s12.trans s25) (s12.free^(s3.trans n4.same).free n5.1) n5.self λj hj=>#[λhm=>?_,λhm=>?_]
  all_goals
   have up:(gw rs).Pairwise (· < ·):=by unfold gw;rw[jT];show List.Pairwise.imp (λh=>Int.ofNat_lt.mpr h)^List.Pairwise.sublist List.filter_sublist A6
   have key:∀i,i<ps.length->∃x,(gw rs)[i]?=some x/\(ps.getD i (.inl 0,.eW)).1=(.inl x:Key)/\∃b,(ps.getD i (.inl 0,.eW)).2=.ref b/\H3 b=some^.lst^(di rs x.toNat).map V.int:=λi hi=>by obtain⟨x,hx⟩:∃x,(gw rs)[i]?=some x:=#[_,fh ∅];let#[b,h1,h2]:=hps i x ∅ hx;show#[x,hx,by rw[getD_at h1],b,by rw[getD_at h1],h2]
  .have hin:(j:Int)∈gw rs:=by unfold gw;show aE.mpr #[j,dS.mpr #[f6.mpr hj,hm],rfl]
   let#[i,hi]:=gG.mp hin;have hil:=(e9 hi).1;let#[x,hx,hk,b,hb,hHb]:=key i ∅;rw[hi] at hx;cases hx;rw[jo] at hHb;show#[b,?_,((n4.same.trans n5.same) _ _ hHb)];have:=yM (ks:=λi=>(ps.getD i (.inl 0,.eW)).1) (vs:=λi=>(ps.getD i (.inl 0,.eW)).2) (n:=ps.length) (λa c ha hc e=>?_) i ∅;rw[<- hk,<- hb];show this;let#[x1,h1,k1,_]:=key a ha;let#[x2,h2,k2,_]:=key c hc;have e':(Sum.inl x1:Key)=Sum.inl x2:=k1.symm.trans^e.trans k2;cases e';show lu (up.imp λh=>∅) h1 h2
  .show nh λi hi e=>hm ?_;let#[x1,h1,k1,_]:=key i hi;have e':(Sum.inl x1:Key)=Sum.inl (j:Int):=k1.symm.trans e;cases e';let#[j',e1,_,hm']:=mem _^gq h1;have:j'=j:=∅;rw[<- this];show hm'
inductive T8(vs:List V)(H:Hp)(Q:VK)(_:XK):Prop|mk(p d:Addr)(us:List V)(rs:List Row)(kvs:List (Key×V))(_:vs=[.ref p,.ref d])(_:H p=some^.lst us)(_:Rows H us rs)(_:rs.length<=2000)(_:H d=some^.dK kvs)(_:sC H rs kvs)(_:∀(f:Addr)(H':Hp),aA H H'->H f=none->H' f=some^.lst ((List.range rs.length).map λp=>V.int^firstM rs p)->Q (.ref f) H')
theorem vK:T.jF∩(1,T8):=by
 exists T.jF,dN,#[p,d,us,rs,kvs,rfl,hp,hrs,hn,hd,hL,q],"+/2N+/3M+Dm*0t2P?4U?5+IW2*3{@ÃâK41.É3RJ*^K14ã.É3[q>5}J*eØMã.<2",6,(λ_ _=>rfl),(by with_unfolding_all rfl);have cD:=T.pU.q;have cS:=T.JQ.q;have FN:=hrs.length;lk;rename_i f H1 n1;have ff:=n1.1;have s1:=n1.same;have hf1:=n1.self;clear n1;show xN (xs:=us) (λi σ' H'=>(∃x y,σ'=[some^.ref p,some^.ref d,some^.ref f,some^.int^firstM rs i,x,y])/\aA H H'/\H' f=some^.lst ((List.range i).map λp=>V.int^firstM rs p)) ?_ ?_ ?_ ?_;show#[#[_,_,rfl],s1,hf1];rintro i σ' H' _ ⟨_,s',_⟩;show bG.of^s' _ _ hp
 .rintro i x t σ' H2 H3 hx ⟨⟨x0,y0,rfl⟩,s2,hf2⟩ n3;have hi:i<us.length:=(e9 hx).1;let#[r,hr',ra,rfl,zL]:=bu hrs hx;have s3:=s2.trans n3.same;have hf3:=n3.keep hf2;have vI:=s3 _ _ hd;have Tp:=s3 _ _ zL;have ht3:=n3.self;have hfl:((List.range i).map λp=>V.int^firstM rs p).length=i:=by simp
  have hdf:d≠f:=aP hd ff;have ahL:ra≠f:=aP zL ff;clear n3 s2 hf2;let#[Xj,Ve]:=hL i ∅;lk;rename_i H4 p4;have s4:=p4.same s3 ff;have FP:H4 f=some^.lst ((List.range (i+1)).map λp=>V.int^firstM rs p):=by rw[p4.self,List.range_succ,bA];rfl
  have J4:=p4.keep hdf vI;have amw:=p4.keep ahL Tp;clear p4 vI Tp hf3 s3 ht3;show C3 (λσ' H'=>H'=H4/\σ'=[some^.ref p,some^.ref d,some^.ref f,some^.int ((firstM rs i:Int)+dO rs i),some^.int (i:Int),some^.ref ra]) ?_ ?_
  .lk;by_cases hm:bM rs i=true
   .let#[a,e1,e2]:=Xj hm;have ha4:=s4 _ _ e2;rw[e1,if_pos (show(some^V.ref a).isSome=true from rfl)];lk;show aa1 J4 e1 ?_;lk;show#[rfl,?_];unfold dO;rw[if_pos hm,ao];have:(firstM rs i:Int)+((di rs i).length+1:Int)=(firstM rs i:Int)+(((di rs i).length+1:Nat):Int):=∅;rw[this]
   .rw[Ve hm,if_neg^by decide];lk;show#[rfl,?_];unfold dO;rw[if_neg hm];simp
  rintro _ _ ⟨rfl,rfl⟩;have hdi:=wk r;have eN:firstM rs (i+1)=firstM rs i+(dO rs i+r.own):=by rw[firstM];unfold cX;rw[hr'];rfl
  lk;rw[hdi];cases uO:r.gH with
  | true =>
   rw[if_pos rfl];lk;show#[#[some^.int (i:Int),some^.ref ra,?_],s4,FP];have:(firstM rs (i+1):Int)=(firstM rs i:Int)+(dO rs i:Int)+2:=by rw[eN];unfold Row.own;rw[uO,if_pos rfl];lia
   rw[this]
   first|rfl|skip
  | false =>
   rw[if_neg^by decide];lk;show#[#[some^.int (i:Int),some^.ref ra,?_],s4,FP];have:(firstM rs (i+1):Int)=(firstM rs i:Int)+(dO rs i:Int)+1:=by rw[eN];unfold Row.own;rw[uO,if_neg^by decide];lia
   rw[this]
 .rintro σ' H2 ⟨⟨x0,y0,rfl⟩,s2,hf2⟩;lk;rw[FN] at hf2;show q f H2 s2 ff hf2
inductive Mr(vs:List V)(H:Hp)(Q:VK)(_:XK):Prop|mk(a:Addr)(r:Row)(q:Int)(_:vs=[.ref a,.int q])(_:H a=some^.tup r.vals)(_:∀(l:Addr)(us:List V)(H':Hp),aA H H'->H l=none->H' l=some^.lst us->Rows H' us^r.dbl q->Q (.ref l) H')
def HV(r:Row)(h:r.gH=true):∃(ky:Str)(d:Int)(m:List V),r.vals=.str ky::.int d::m/\(2<=m.length/\m.length<=5)/\uI (.str ky) [.str "num", .str "copy", .str "op"]=true /\
  ∀q,∃r0 r1,r.dbl q=[r0,r1]/\r0.vals=(([.str ky]++[.int 0])++m.dropLast)++[.int (q+1)]/\r1.vals=([.str ky]++[.int 1])++m:=by cases r<;>first|(cases h;done)|show#[_,_,_,rfl,by simp,rfl,λq=>#[_,_,rfl,rfl,rfl]]
theorem acG(a b:V)(m:List V):gc (a::b::m) none^some 1=[a]/\gc (a::b::m) (some 2)^some (-1)=m.dropLast/\gc (a::b::m) (some 2) none=m:=by show#[?_,?_,?_]<;>simp[gc,HT.fz,List.dropLast_eq_take]<;>lia
theorem HW:T.doubled∩(1,Mr):=by
 exists T.doubled,Hj,#[a,r,q1,rfl,ha,q],"+@hÙ>0}.<Z*0.<Z-xxx`¶0da=L`¶0a¦·=*R1*xx`¶0da=L­0a",2,(by with_unfolding_all rfl);have cD:=T.pU.q;by_cases hd:r.gH=true
 .let#[ky,d,m,e,#[m2,m5],hin,hq]:=HV r hd;let#[r0,r1,e0,e1,e2]:=hq q1;let#[c1,c2,c3]:=acG (.str ky) (.int d) m;have d0:m.dropLast.length=m.length-1:=List.length_dropLast;have dn:m.dropLast≠[]:=λz=>by rw[z] at d0;simp at d0;lia
  have mn:m≠[]:=λz=>by rw[z] at m2;simp at m2
  rw[e] at ha;rw[e0] at q;clear e hd hq e0;lk;rw[hin];lk;show Ag (dJ.of ha) (by simp[HT.fz]) λp1 H1 n1=>?_;rw[c1] at n1;lk;rename_i p2 H2 n2;show tT (dJ.of^n2.keep n1.self) (dJ.of n2.self) (by simp) (by simp) (by simp) λp3 H3 n3=>?_;have s3:=(n1.same.trans n2.same).trans n3.same;have ha3:=s3 _ _ ha;clear n1 n2;lk;show Ag (dJ.of ha3) (by simp[HT.fz]) λp4 H4 n4=>?_;rw[c2] at n4;show tT (dJ.of^n4.keep n3.self) (dJ.of n4.self) (by simp) dn (by simp;lia) λp5 H5 n5=>?_;have s5:=(s3.trans n4.same).trans n5.same;have h5:=n5.self;clear n3 n4 n5 ha3 s3;lk;rename_i p6 H6 n6;show tT (dJ.of^n6.keep h5) (dJ.of n6.self) (by simp) (by simp) (by simp;lia) λp7 H7 n7=>?_;have s7:=(s5.trans n6.same).trans n7.same;have ha7:=s7 _ _ ha;have h7:=n7.self;rw[<- e1] at h7;clear n6 n7 h5 s5;lk;show Ag (dJ.of ha7) (by simp[HT.fz]) λp8 H8 n8=>?_;rw[c1] at n8;lk;rename_i p9 H9 n9;show tT (dJ.of^n9.keep n8.self) (dJ.of n9.self) (by simp) (by simp) (by simp) λQL BY HJ=>?_;have nC:=(n8.same.trans n9.same).trans HJ.same;have LZ:=nC _ _ ha7;clear n8 n9;lk;show Ag (dJ.of LZ) (by simp[HT.fz]) λvg JX qB=>?_;rw[c3] at qB;show tT (dJ.of^qB.keep HJ.self) (dJ.of qB.self) (by simp) mn (by simp;lia) λTU Yo HB=>?_;have s12:=(nC.trans qB.same).trans HB.same;have h12:=HB.self;rw[<- e2] at h12;have h7':=s12 _ _ h7;clear HJ qB HB LZ;lk;rename_i l Zq n13;show q l _ Zq ((s7.trans s12).trans n13.same) ((s7.trans s12).free n13.1) n13.self^.cons #[p7,rfl,n13.keep h7']^.cons #[TU,rfl,n13.keep h12] .nil
 .have ha0:=ha;cases r<;>first|show absurd rfl hd|(erw[Row.vals,Row.key,Row.rest] at ha;lk;rename_i l H1 n1;show q l _ H1 n1.same n1.1 n1.self^.cons #[a,rfl,n1.keep ha0] .nil)
def jN{g:Addr}{us:List V}(h:H g=some^.lst us)(p:tR H g (.lst vs) H'):bQ H H':=λb xs e=>p.keep (iJ e h (by intro z;cases z)) e
def QM{us:List V}{qs:List Row}(h1:Rows H us rs)(h2:Rows H vs qs):Rows H (us++vs) (rs++qs):=gU h1 h2
inductive QN(vs:List V)(H:Hp)(Q:VK)(_:XK):Prop|mk(p:Addr)(us:List V)(rs:List Row)(_:vs=[.ref p])(_:H p=some^.lst us)(_:Rows H us rs)(_:(∀r∈rs,r.ok rs.length))(_:rs.length<=2000)(_:∀(g:Addr)(vs:List V)(H':Hp),aA H H'->H g=none->H' g=some^.lst vs->Rows H' vs^aD rs rs.length->Q (.ref g) H')
set_option maxHeartbeats 40000000 in
theorem Ms:T.BQ∩(6,QN):=by
 exists T.BQ,iT,#[p,us,rs,rfl,hp,hrs,hok,hn,q],"+/1:QK *0+/2:vK -0*1+/3N+Dm*0t2P?4U?5+DCöK14N?6.IW3*=A-6*RJ*3{@ÃâK41.IW3*=A*RJ*3.Ii3*:HW -:BV -5*2*J*3.<3",7,#[rfl,rfl,rfl,rfl];have FN:=hrs.length;lk;show#[p,us,rs,rfl,hp,hrs,hok,hn,λd kvs H1 s1 fd hd1 Xj=>?_];lk;show#[p,d,us,rs,kvs,rfl,s1 _ _ hp,hrs.same s1,hn,hd1,Xj,λf H2 s2 ff hf2=>?_];have hd2:=s2 _ _ hd1;have Ve:=Xj.same s2;have Zy:=s1.trans s2;have hp2:=Zy _ _ hp;have P9:=hrs.same Zy;clear s1 s2 hd1 Xj;lk;rename_i g H3 n3;have Zz:H2 g=none:=n3.1;have s3:=n3.same;have ZA:=n3.self;clear n3;show xN (xs:=us) (λi σ' H'=>(∃x y z,σ'=[some^.ref p,some^.ref d,some^.ref f,some^.ref g,x,y,z])/\aA H2 H'/\∃vs,H' g=some^.lst vs/\Rows H' vs^aD rs i) ?_ ?_ ?_ ?_;show#[#[_,_,_,rfl],s3,[],ZA,.nil];rintro i σ' H' _ ⟨_,s',_⟩;show bG.of^s' _ _ hp2
 .rintro i x t σ' H4 H5 hx ⟨⟨x0,y0,z0,rfl⟩,s4,vs,T9,hvs⟩ n5;have hi:i<us.length:=(e9 hx).1;let#[r,hr',ra,rfl,zL]:=bu P9 hx;have s5:=s4.trans n5.same;have hg5:=n5.keep T9;have acI:=hvs.same n5.same;have vH:=s5 _ _ hd2;have acJ:=s5 _ _ zL;have ht5:=n5.self;have hdg:d≠g:=aP hd2 Zz;have hvl:vs.length=firstM rs i:=by rw[hvs.length,eT ∅]
  have hfl:=uv rs i;let#[hm1,hm2]:=Ve i ∅;clear n5 s4 T9 hvs;lk;rename_i dl H6 n6;have s6:=s5.trans n6.same;have hg6:=n6.keep hg5;have acK:=acI.same n6.same;have HH:=n6.keep vH;have ahN:=n6.keep acJ;have ahO:dl≠g:=(aP hg5 n6.1).symm;have acL:=n6.self;clear n6 hg5 acI vH acJ s5 ht5;obtain⟨la,Lk,ela,hla,hlk,hlg⟩:∃la Lk,(eG kvs (.inl (i:Int))).getD (.ref dl)=.ref la/\H6 la=some (.lst (Lk.map V.int))/\Lk=(if bM rs i=true then di rs i else[])/\la≠g:=by by_cases hm:bM rs i=true;let#[a,e1,e2]:=hm1 hm;show#[a,_,by rw[e1];rfl,s6 _ _ e2,by rw[if_pos hm],aP e2 Zz];show#[dl,[],by rw[hm2 hm];rfl,acL,by rw[if_neg hm],ahO]
  have hLl:Lk.length<=8:=by rw[hlk];split;show yK rs i;show aM _
  rw[ela];lk;show f_list (xs:=Lk.map V.int) (λk σ' H'=>(∃z,σ'=[some^.ref p,some^.ref d,some^.ref f,some^.ref g,some^.int (i:Int),some^.ref ra,z])/\aA H2 H'/\H' la=some^.lst^Lk.map V.int/\∃vs',H' g=some^.lst vs'/\Rows H' vs' (aD rs i++cL (firstM rs i)^Lk.take k)) ?_ ?_ ?_ ?_;show#[#[_,rfl],s6,hla,vs,hg6,by simpa[cL] using acK];rintro k σ' H' _ ⟨_,_,h,_⟩;show bG.of h
  .rintro k y σ' H7 hy ⟨⟨z,rfl⟩,s7,Qk,vs',Ua,zM⟩;rw[aV] at hy;let#[b,hb,rfl]:=cG.mp hy;have j7:=(e9 hb).1;have acN:vs'.length=firstM rs i+k:=by rw[zM.length,aF,eT ∅,eS,cu];lia
   lk;rename_i t8 H8 n8 H9 p9;have ZC:=n8.keep Ua;have tt:=jN ZC p9;show#[#[_,rfl],p9.same (s7.trans n8.same) Zz,p9.keep hlg^n8.keep Qk,_,p9.self,?_];rw[bT,hb];change Rows H9 _ (aD rs i++cL (firstM rs i) (Lk.take k++[b]));rw[ou,<- jq];show dD ((zM.same n8.same).gp tt) #[t8,rfl,?_];have e:(firstM rs i:Int)+((Lk.take k).length:Int)+1=(vs'.length:Int)+1:=by rw[cu];lia
   rw[e];show tt _ _ n8.self
  .rintro σ' H7 ⟨⟨z,rfl⟩,s7,Qk,vs',Ua,zM⟩;rw[ao,bU] at zM;have Ng:=s7 _ _ hd2;have Ub:=s7 _ _ zL;have acN:vs'.length=firstM rs i+Lk.length:=by rw[zM.length,aF,eT ∅,eS]
   clear hg6 acK HH ahN acL hla s6;lk;show C3 (λσ' H'=>σ'=[some^.ref p,some^.ref d,some^.ref f,some^.ref g,some^.int (i:Int),some^.ref ra,z]/\aA H2 H'/\∃vs2,H' g=some^.lst vs2/\Rows H' vs2 (aD rs i++EB rs i)) ?_ ?_
   .lk;by_cases hm:bM rs i=true
    .let#[a,e1,_]:=hm1 hm;rw[e1,if_pos (show(some^V.ref a).isSome=true from rfl)];lk;rename_i t8 H8 n8 H9 p9;have ZC:=n8.keep Ua;have tt:=jN ZC p9;show#[rfl,p9.same (s7.trans n8.same) Zz,_,p9.self,?_];unfold EB;rw[if_pos hm,<- jq];rw[hlk,if_pos hm] at zM acN;show dD ((zM.same n8.same).gp tt) #[t8,rfl,?_];have e:(firstM rs i:Int)+((di rs i).length:Int)+1=(vs'.length:Int)+1:=∅;rw[e];show tt _ _ n8.self
    .rw[hm2 hm,if_neg^by decide];lk;show#[rfl,s7,vs',Ua,?_];unfold EB;rw[if_neg hm];rw[hlk,if_neg hm] at zM;simpa[cL] using zM
   rintro _ H8 ⟨rfl,s8,vs2,ZC,Eu⟩;have ahP:vs2.length=firstM rs i+dO rs i:=by rw[Eu.length,aF,eT ∅,yJ]
   have hmn:=wu rs i;have acP:=s8 _ _ zL;have VJ:=s8 _ _ hf2;clear Ng Ub Ua zM s7 Qk;lk;show#[ra,f,r,_,gW rs,rfl,acP,VJ,λz hz=>?_,λt9 H9 s9 ht9=>?_];have hzb:=Row.ja (hok r^gq hr') z hz;have ez:z=((z.toNat:Nat):Int):=∅;have Yt:z.toNat<rs.length:=∅;have:=fR (xs:=(List.range rs.length).map λp=>V.int^firstM rs p) (j:=z.toNat) (v:=.int^firstM rs z.toNat) (by rw[aV,wV Yt];rfl);rw[<- ez] at this;show this;have hg9:=s9 _ _ ZC;have Qu:=Eu.same s9;have s29:=s8.trans s9;clear s9 s8 ZC Eu acP VJ;lk;show#[t9,r.d8^gW rs,_,rfl,ht9,λl Uc BY nC fl amA Wa=>?_];have ahQ:=nC _ _ hg9;have acR:=Qu.same nC;have ahR:=s29.trans nC;have hlg:l≠g:=(aP hg9 fl).symm;have amB:Uc.length<=2:=by rw[Wa.length,Kf];show yL r
   clear nC hg9 Qu s29 ht9;lk;rename_i JX vg;have tt:=jN ahQ vg;show#[#[_,_,_,rfl],vg.same ahR Zz,_,vg.self,?_];have e:aD rs (i+1)=aD rs i++EB rs i++(r.d8^gW rs).dbl (vs2.length:Int):=by rw[aD,hr'];change _++putAt rs i r=_;unfold putAt;rw[ahP,<- jq,Int.natCast_add]
   rw[e];show QM (acR.gp tt)^Wa.gp tt
 .rintro σ' H4 ⟨⟨x0,y0,z0,rfl⟩,s4,vs,T9,hvs⟩;lk;rw[FN] at hvs;show q g vs H4 (Zy.trans s4) (Zy.free Zz) T9 hvs
structure Lk (rs:List Row) (p:Nat):Prop where
 a:∀j r,j+1<rs.length->rs[j]?=some r->((j+1:Nat):Int)∈r.ways\/∃i r',i+1=j/\rs[i]?=some r'/\((j+1:Nat):Int)∈r'.ways
 b:∀j r,p<=j->j+1<rs.length->rs[j]?=some r->((j+1:Nat):Int)∈r.ways
theorem Lk.next(h:Lk rs p):Lk rs (p+1):=#[h.a,λj r hj=>h.b j r ∅]
theorem Lk.ahS{f g:Row}(h:Lk rs (p+1))(h1:((p+1:Nat):Int)∈f.ways)(h2:((p+2:Nat):Int)∈f.ways):Lk ((rs.set p f).set (p+1) g) (p+2):=by
 have len:((rs.set p f).set (p+1) g).length=rs.length:=by rw[qf,qf]
 have QF:∀j,j≠p->j≠p+1->((rs.set p f).set (p+1) g)[j]?=rs[j]?:=λj a b=>by rw[sU^aQ b,sU^aQ a]
 have atp:p<rs.length->((rs.set p f).set (p+1) g)[p]?=some f:=λhp=>by rw[sU ∅,List.getElem?_set_self hp]
 constructor
 .intro j r hj hr;rw[len] at hj;rcases oW j p with hlt|rfl|hgt
  .rw[QF j ∅ ∅] at hr;rcases h.a j r hj hr with h|⟨i,r',e,h3,h4⟩;show .inl h;show .inr #[i,r',e,by rw[QF i ∅ ∅];show h3,h4]
  .rw[atp ∅] at hr;cases hr;show .inl h1
  .rcases bE (p+1) j with hg|hg;rw[QF j ∅ ∅] at hr;show .inl (h.b j r ∅ hj hr);have e:j=p+1:=∅;subst e;show .inr #[p,f,rfl,atp ∅,h2]
 .intro j r hp hj hr;rw[len] at hj;rw[QF j ∅ ∅] at hr;show h.b j r ∅ hj hr
theorem Lk.rch(h:Lk rs p):∀j,j<rs.length->uw rs j/\∀i,i<j->uw rs i:=by
 intro j;induction j with
 | zero=>show λ_=>#[.zero,λi hi=>absurd hi^dU _]
 | succ j ih =>
  intro hj;let#[r1,r2]:=ih ∅;have all:∀i,i<j+1->uw rs i:=λi hi=>by rcases bE i j with hlt|hge;show r2 i hlt;rw[show i=j by lia];show r1
  show#[?_,all];obtain⟨r,hr⟩:∃r,rs[j]?=some r:=#[_,fh ∅];rcases h.a j r hj hr with h|⟨i,r',e,h3,h4⟩;show .step r1 hr h;show .step (all i ∅) h3 h4
inductive YO(K:az)(vs:List V)(H:Hp)(Q:VK)(_:XK):Prop|mk(c p m y:Int)(a:Addr)(ks:List Int)(_:vs=[.int c,.int p,.int m,.ref a,.int y])(_:0<=p)(_:p<m)(_:m<=1000)(_:H a=some^.lst^ks.map V.int)(_:0<ks.length)(_:ks.length<=1000)(_:(∀k∈ks,iK k))(_:∀q H' r,aA H H'->H' q=some^.tup^Row.vals r->r.ok m->r.pl->(p+1<m->p+1∈r.ways)->Q (.ref q) H')
theorem Cb:T.pF∩(2,YO K):=by
 exists T.pF,eL,#[c,p,m,y,a,ks,rfl,h0,h1,hm,ha,hk0,hk1,hb,q],"+/5B0+/6F0+uOH_LEV!1SBTÊ2V!=QQL0j!*1ËP?7P?8U?9+/:F6+/;räåæ-R1*k2Ì@]£|R12³Y4.<=A*8+@¸5.<=AQ-7-SF&:TÍMM*&;+@¸5.<=AQ-7-8*&;+@¸5.<=AQ-§BF&:-7-8-9*&;+@¸5.<=A-8*&;+@YBF&:.<=A-8-&;*SF&:2.<=A-8-SF&:2*&;",12,"_law_x",["_law_pool_here", "_law_rest"],[3,6],["_law_rest", "_law_pool_here"],iC (K:=K) rfl,lZ (K:=K) rfl,mh (K:=K) rfl;have j7:(ks.map V.int).length=ks.length:=ao _;lk;show kq (λi ys H'=>aA H H'/\∃ls:List Int,ys=ls.map V.int/\ls.length=i/\∀k∈ls,iK k) #[aA.refl _,[],rfl,rfl,λk h=>nomatch h] ?_ ?_
 .rintro i ys H' hi ⟨sm,ls,rfl,hl,hlb⟩;have hi:i<3:=∅;show#[bV (by rw[ao];lia),?_];have ha':=sm _ _ ha;lk;rename_i t2 H2 n2;have ha2:=n2.keep ha';have b3:∃g:Int,tH [V.int 1,V.int 8,V.int 64] (0+((i:Nat):Int))=some^.int g/\0<g/\g<=64:=by rcases i with _|_|_|i;show#[1,rfl,by decide,by decide];show#[8,rfl,by decide,by decide];show#[64,rfl,by decide,by decide];lia
  let#[g,hg,g0,g1]:=b3;show Af (dJ.of n2.self) hg ?_;lk;rw[j7];have bb:=bX (a:=c / 16 / g % 8) (b:=(ks.length:Int)) ∅;let#[v,hv,mv]:=D9 (ns:=ks) (i:=c / 16 / g % 8 % (ks.length:Int)) bb.1 bb.2;show cZ (bG.of ha2) hv ?_;show#[sm.trans n2.same,ls++[v],by rw[bA];rfl,by simp[hl],λk h=>?_];rcases aJ.mp h with h|h;show hlb k h;rw[ay.mp h];show hb v mv
 rintro ys H2 ⟨s2,ls,rfl,hl,hlb⟩ l H3 n3;have hl3:ls.length=3:=∅
 match ls,hl3 with
 | [k,i,j],_ =>
 have bk:=hlb k (by simp);have bi:=hlb i (by simp);have bj:=hlb j (by simp);have s3:aA H H3:=s2.trans n3.same;replace n3:fV H2 l (.lst [.int k,.int i,.int j]) H3:=n3;have b5:=bX (a:=c / 16 / 512 / 512) (b:=m) ∅;obtain⟨hq1,ZD⟩:j6 m (if m-1<p+1 then m-1 else p+1)/\(p+1<m->p+1=if m-1<p+1 then m-1 else p+1):=#[by split<;>show#[∅,∅],by split<;>lia];have bv:isVal ((c / 16 / 512 / 256) % 2 ^ (48:Int).toNat):=bX (by decide);have b9:=bX (a:=c / 16 / 512 / 256) (b:=9) (by decide);let#[ch,hch,Nf]:=Hu b9.1 b9.2;lk
 all_goals first
  | (rename_i t4 H4 n4;show q t4 H4 (.back i) (s3.trans n4.same) n4.self bi trivial (λh=>∅))
  | (rename_i t4 H4 n4;show q t4 H4 (.num 2 k _ _) (s3.trans n4.same) n4.self ⟨⟨by decide,by decide⟩,bk,bv,hq1⟩ rfl (λh=>ay.mpr^ZD h))
  | (rename_i t4 H4 n4;show q t4 H4 (.copy 2 k i _) (s3.trans n4.same) n4.self ⟨⟨by decide,by decide⟩,bk,bi,hq1⟩ rfl (λh=>ay.mpr^ZD h))
  | (rename_i t4 H4 n4;show q t4 H4 (.out i _) (s3.trans n4.same) n4.self ⟨bi,hq1⟩ trivial (λh=>ay.mpr^ZD h))
  | (rename_i t4 H4 n4;show q t4 H4 (.fork i _ _) (s3.trans n4.same) n4.self ⟨bi,hq1,b5⟩ trivial (λh=>aG.mpr^.inl^ZD h))
  | (rename_i t4 H4 n4;show q t4 H4 (.fork i _ _) (s3.trans n4.same) n4.self ⟨bi,b5,hq1⟩ trivial (λh=>cM _^ay.mpr^ZD h))
  | skip
 all_goals
  show C4 (by decide) hch ?_;lk;rename_i t4 H4 n4;show q t4 H4 (.op 2 #[#v[ch]] k i j _) (s3.trans n4.same) n4.self #[#[by decide,by decide],Nf,bk,bi,bj,hq1] rfl (λh=>ay.mpr^ZD h)
theorem oA{α β:Type}{F:α->β->Prop}:∀{xs:List α}{ys:List β}(j:Nat){x:α}{y:β},Paired F xs ys->F x y->Paired F (xs.set j x) (ys.set j y)
 | _,_,_,_,_,.nil,_=>.nil
 | _,_,0,_,_,.cons _ t,h=>.cons h t
 | _,_,j+1,_,_,.cons a t,h=>.cons a^oA j t h
def QO(h1:r.key ≠ "fork")(h2:r.ways≠[])(q:Int):gc r.vals none^some (-1)++[V.int q]=(r.d8 λ_=>q).vals/\¬(HT.fz r.vals.length 0 none=0/\HT.fz r.vals.length r.vals.length^some (-1)=r.vals.length):=by
 cases r
 case fork=>show absurd rfl h1
 case back=>show absurd rfl h2
 all_goals show#[rfl,by erw[Row.vals,Row.rest,ck,sW];decide]
def QS{f:Int->Int}(h:r.pl):(r.d8 f).pl:=by cases r<;>show h
theorem Mt{l:List α}{x:α}(hn:l.length=n+1)(hx:l[n]?=some x):tH l (-1)=some x:=by unfold tH NG;rw[if_neg^by decide,if_pos ∅];change l[((-1:Int)+(l.length:Int)).toNat]?=some x;rw[show((-1:Int)+(l.length:Int)).toNat=n by lia];show hx
structure PlC (rs:List Row) (n p:Nat):Prop where
 len:rs.length=n
 ok:∀r∈rs,r.ok n
 pl:∀r∈rs,r.pl
 lk:Lk rs p
inductive YQ(vs:List V)(H:Hp)(Q:VK)(_:XK):Prop|mk(a:Addr)(c:Int)(us:List V)(rs:List Row)(n:Nat)(H0:Hp)(_:vs=[.ref a,.int c])(_:aA H0 H)(_:H0 a=none)(_:H a=some^.lst us)(_:Rows H us rs)(_:n<=1000)(_:0<n)(_:PlC rs n 0)(_:∀us' rs' p H',aA H0 H'->H' a=some^.lst us'->Rows H' us' rs'->PlC rs' n p->Q (.ref a) H')
set_option maxHeartbeats 40000000 in
theorem Ud:T.S9∩(1,YQ):=by
 exists T.S9,BL,#[a,c,us,rs,n,H0,rfl,s0,fa,ha,rows,hn,hn0,hP,q],"+DçQ*kJ*0?2+/1F1.@]£o>G0k2£Xè>G02Ä³XéB1M+uGZ-=A->G0k2-2*R2*=A->G0k2-R2*2B2»0k2.ux`¶G02d¦·=*SF1J*0»02.<0",3;have FN:=rows.length;have hrl:=hP.len;lk;show Br (λi σ' H'=>∃c x us rs,σ'=[some^.ref a,some^.int c,x]/\aA H0 H'/\H' a=some^.lst us/\Rows H' us rs/\PlC rs n (i+1)) #[c,_,us,rs,rfl,s0,ha,rows,hP.len,hP.ok,hP.pl,hP.lk.next] ?_ ?_
 .rintro i σ' H1 hi ⟨c,x,us,rs,rfl,s1,ha1,nj,h1⟩;have amC:=nj.length;have ahU:=h1.len;have hi:i+2<n:=∅;lk;have skip:PlC rs n (i+1+1):=#[h1.len,h1.ok,h1.pl,h1.lk.next];obtain⟨r1,hr1⟩:∃r,rs[i]?=some r:=#[_,fh ∅];obtain⟨r2,hr2⟩:∃r,rs[i+1]?=some r:=#[_,fh ∅];let#[ra,hat,zL]:=kD nj hr1;let#[rb,Vz,hrb]:=kD nj hr2;have ahV:=Vz;have ahW:=hat;rw[show((i:Nat):Int)=1+(i:Int)-1 by lia] at hat;rw[show((i+1:Nat):Int)=1+(i:Int) by lia] at Vz;show cZ (bG.of ha1) hat ?_;by_cases hk1:r1.key = "fork"
  case neg =>
   lk;show#[_,_,us,rs,rfl,s1,ha1,nj,skip]
  lk;show cZ (bG.of ha1) Vz ?_;by_cases hk2:r2.key = "fork"
  case pos =>
   lk;show#[_,_,us,rs,rfl,s1,ha1,nj,skip]
  lk;rename_i hc3;obtain⟨b,x1,y1,rfl⟩:∃b x y,r1=.fork b x y:=by
   cases r1
   case fork b x y=>show#[b,x,y,rfl]
   all_goals show absurd hk1 (by erw[Row.key];decide)
  have zL:H1 ra=some^.tup [.str "fork", .int b,.int x1,.int y1]:=zL;show cZ (bG.of ha1) hat ?_;lk;rename_i t1 H2 n2;show cZ (bG.of^n2.keep ha1) hat ?_;have ahX:=n2.keep zL;lk;rename_i t2 H3 n3 l H4 n4;have ht1:=n4.keep^n3.keep n2.self;have ht2:=n4.keep n3.self;obtain⟨tn,f,htn,hf,fok,fpl,w1,w2⟩:∃(tn:Addr)(f:Row),tH [V.ref t1,V.ref t2] ((1+(i:Int)) % 2)=some (.ref tn)/\H4 tn=some (.tup f.vals)/\f.ok n/\f.pl/\((i+1:Nat):Int)∈f.ways/\((i+2:Nat):Int)∈f.ways:=by have hb:iK b:=(h1.ok _^gq hr1).1;have o1:j6 n (1+(i:Int)):=#[∅,∅];have o2:j6 n (1+(i:Int)+1):=#[∅,∅];rcases(by lia:(1+(i:Int)) % 2=0\/(1+(i:Int)) % 2=1) with e|e;show#[t1,.fork b _ _,by rw[e];rfl,ht1,#[hb,o1,o2],trivial,aG.mpr (.inl ∅),cM _ (ay.mpr ∅)];show#[t2,.fork b _ _,by rw[e];rfl,ht2,#[hb,o2,o1],trivial,cM _ (ay.mpr ∅),aG.mpr (.inl ∅)]
  have s4:=(n2.same.trans n3.same).trans n4.same;have ha4:=s4 _ _ ha1;have yQ:=nj.same s4;show cZ (bG.of n4.self) htn ?_;clear n2 n3 n4 ht1 ht2 ahX;lk;show Gr (j:=i) ha4 (by rw[show 1+(i:Int)-1=i by lia,Ht ∅ ∅];rfl) ?_;intro H5 p5;have tt:=jN ha4 p5;have qa:Rows H5 (us.set i^.ref tn)^rs.set i f:=oA i (yQ.gp tt) #[tn,rfl,tt _ _ hf];have s5:=p5.same (s1.trans s4) fa;have ha5:=p5.self;have hr5:(rs.set i f)[i+1]?=some r2:=by rw[sU ∅];show hr2
  let#[rc,hct,YR]:=kD qa hr5;rw[show((i+1:Nat):Int)=1+(i:Int) by lia] at hct;have zx:(us.set i^.ref tn).length=n:=by rw[qf];lia
  let#[cl,cw]:=QO hk2 (λz=>by have:=h1.lk.b (i+1) r2 ∅ ∅ hr2;rw[z] at this;show nomatch this) (c / 5 / 3 % (n:Int));have hq:=bX (a:=c / 5 / 3) (b:=(n:Int)) ∅;clear zL hrb hat Vz ahW ahV p5 yQ ha4;lk;show cZ (bG.of ha5) hct ?_;lk;show Ag (dJ.of YR) cw ?_;intro t6 H6 n6;have ha6:=n6.keep ha5;lk;rename_i t7 H7 n7;rw[zx] at n7;have hcl:(gc r2.vals none^some (-1)).length+1=(r2.d8 λ_=>c / 5 / 3 % (n:Int)).vals.length/\gc r2.vals none^some (-1)≠[]:=by rw[<- cl,aF];show#[rfl,λz=>?_];rw[z] at cl;cases r2<;>cases cl
  have hvl:(r2.d8 λ_=>c / 5 / 3 % (n:Int)).vals.length<=7:=by cases r2<;>show Nat.le_of_ble_eq_true rfl
  show tT (dJ.of^n7.keep n6.self) (dJ.of n7.self) hcl.2 (by simp) (by erw[ck,sW];lia) ?_;intro t8 H8 n8;rw[cl] at n8;have s8:=(n6.same.trans n7.same).trans n8.same;have ha8:=s8 _ _ ha5;have QT:=qa.same s8;have h8:=n8.self;clear n6 n7 n8 ha6;lk;show Gr (j:=i+1) ha8 (by rw[Ht ∅ ∅];show congrArg some ∅) ?_;intro H9 p9;have YS:=jN ha8 p9;lk;show#[_,_,_,(rs.set i f).set (i+1) (r2.d8 λ_=>c / 5 / 3 % (n:Int)),rfl,p9.same (s5.trans s8) fa,p9.self,oA _ (QT.gp YS) #[t8,rfl,YS _ _ h8],#[by rw[qf,qf];show ahU,λr hr=>?_,λr hr=>?_,h1.lk.ahS w1 w2]];rcases A5 hr with hr|rfl;rcases A5 hr with hr|rfl;show h1.ok r hr;show fok;show EF (h1.ok r2^gq hr2) λ_ _=>hq;rcases A5 hr with hr|rfl;rcases A5 hr with hr|rfl;show h1.pl r hr;show fpl;show QS^h1.pl r2^gq hr2;show#[_,_,us,rs,rfl,s1,ha1,nj,skip]
 .rintro σ' H1 ⟨c,x,us,rs,rfl,s1,ha1,nj,h1⟩;lk;show q us rs _ H1 s1 ha1 nj h1
inductive Ue(K:az)(vs:List V)(H:Hp)(Q:VK)(_:XK):Prop|mk(a:Addr)(ns:List Int)(n:Nat)(m:Int)(_:vs=[.ref a,.int n,.int m])(_:bG K H a^ns.map V.int)(_:ns.length<=63)(_:0<n)(_:n<=1000)(_:0<m)(_:m<=1000)(_:∀q H' us rs,aA H H'->H' q=some^.lst us->Rows H' us rs->rs.length=n->(∀r∈rs,Row.ok n r)->(∀r∈rs,r.pl)->(∀j,j<n->uw rs j)->Q (.ref q) H')
theorem zN:T.mF∩(4,Ue K):=by
 exists T.mF,gJ,#[a,ns,n,m,rfl,hS,hn,h0,h1,hm0,hm1,q],"+/3:JR -0*2+/4:qz -0*1+/5BF:gT -0L+Ç6H_*1E:Cb -V!30-0-1-2*4.<:Ud -6*G4·",7,"_law_p",["_law_many_here", "_law_pool_here", "_law_numbers_here", "_law_way"],[1,3,4,5],["_law_way", "_law_pool_here", "_law_numbers_here", "_law_many_here"],iC (K:=K) rfl;lk;show#[a,ns,m,rfl,hS,hm0,hm1,λp H1 ks s1 hp hk0 hk1 hkb=>?_];lk;show#[a,ns,n,rfl,s1.seq hS,hn,h0,h1,λc H2 cs s2 hc hcl=>?_];have hp2:=s2 _ _ hp;lk;show#[a,ns,0,rfl,(s1.trans s2).seq hS,by decide,λy=>?_];lk;show kq (λi ys H'=>aA H2 H'/\∃rs:List Row,Rows H' ys rs/\rs.length=i/\(∀r∈rs,r.ok n)/\(∀r∈rs,r.pl)/\∀(j:Nat)(r:Row),j+1<n->rs[j]?=some r->((j+1:Nat):Int)∈r.ways) #[aA.refl _,[],.nil,rfl,(λr h=>nomatch h),(λr h=>nomatch h),λj r _ h=>nomatch h] ?_ ?_
 .rintro i ys H' hi ⟨sm,rs,hrs,hlen,hok,hpl,hlk⟩;have hi:i<n:=∅;show#[bV (by rw[hrs.length];lia),?_];lk;let#[v,hv]:=wj (ns:=cs) (i:=0+((i:Nat):Int)) ∅ ∅;show cZ (bG.of^sm _ _ hc) hv ?_;lk;show#[v,_,_,_,p,ks,rfl,∅,∅,∅,sm _ _ hp2,hk0,hk1,hkb,λt H3 r s3 ht hr hp hl=>?_];show#[sm.trans s3,rs++[r],dD (hrs.same s3) #[t,rfl,ht],by simp[hlen],λr' h=>?_,λr' h=>?_,λj r' hj h=>?_];rcases aJ.mp h with h|h;show hok r' h;rw[ay.mp h];show hr;rcases aJ.mp h with h|h;show hpl r' h;rw[ay.mp h];show hp
  .rcases bE j rs.length with hj'|hj';rw[jR hj'] at h;show hlk j r' hj h
   .rw[kJ hj'] at h;have:=(e9 h).1;have e:j=i:=by simp at this;lia
    subst e;rw[hlen,Nat.sub_self] at h;cases h;have:=hl ∅;rw[show 0+(j:Int)+1=((j+1:Nat):Int) by lia] at this;show this
 .rintro ys H' ⟨sm,rs,hrs,hlen,hok,hpl,hlk⟩ g H3 n3;have hc3:=n3.keep^sm _ _ hc;have J3:aA H H':=(s1.trans s2).trans sm;have hPl:PlC rs n 0:=#[∅,hok,hpl,λj r hj hr=>.inl (hlk j r ∅ hr),λj r _ hj hr=>hlk j r ∅ hr];lk;show cZ (bG.of hc3) (v:=.int^cs.getD (n-1) 0) (Mt (n:=n-1) (by rw[ao];lia) (by rw[aV,fh ∅,vD,fh ∅];rfl)) ?_;lk;show#[g,_,ys,rs,n,H',rfl,n3.same,n3.1,n3.self,hrs.same n3.same,h1,h0,hPl,λus' rs' p' H4 s4 T9 yQ P4=>q g H4 us' rs' (J3.trans s4) T9 yQ P4.len P4.ok P4.pl λj hj=>(P4.lk.rch j (by rw[P4.len];show hj)).1]
inductive S where
 | num (x:Str) (n:Int)
 | copy (x a:Str)
 | op (x o a b:Str)
 | out (a:Str)
 | ifs (a:Str) (y n:List S)
 | qF (a:Str) (b:List S)
end
mutual
def c7(H:Hp):S->V->Prop
 | .num x n,v=>∃p,v=.ref p/\H p=some^.tup [.str "num", .str x,.int n]
 | .copy x a,v=>∃p,v=.ref p/\H p=some^.tup [.str "copy", .str x,.str a]
 | .op x o a b,v=>∃p,v=.ref p/\H p=some^.tup [.str "op", .str x,.str o,.str a,.str b]
 | .out a,v=>∃p,v=.ref p/\H p=some^.tup [.str "out", .str a]
 | .ifs a y n,v=>∃p py pn vy vn,v=.ref p/\H p=some^.tup [.str "if", .str a,.ref py,.ref pn]/\H py=some^.tup vy/\H pn=some^.tup vn/\bC H y vy/\bC H n vn
 | .qF a b,v=>∃p pb vb,v=.ref p/\H p=some^.tup [.str "while", .str a,.ref pb]/\H pb=some^.tup vb/\bC H b vb
def bC(H:Hp):List S->List V->Prop
 | [],vs=>vs=[]
 | s::ss,vs=>∃v vr,vs=v::vr/\c7 H s v/\bC H ss vr
end
mutual
theorem c7.mono{H H':Hp}(e:bQ H H'):∀(s:S)(v:V),c7 H s v->c7 H' s v
 | .num x n,v,h=>by
  erw[c7] at h ⊢;let#[p,h1,h2]:=h;show#[p,h1,e _ _ h2]
 | .copy x a,v,h=>by
  erw[c7] at h ⊢;let#[p,h1,h2]:=h;show#[p,h1,e _ _ h2]
 | .op x o a b,v,h=>by
  erw[c7] at h ⊢;let#[p,h1,h2]:=h;show#[p,h1,e _ _ h2]
 | .out a,v,h=>by
  erw[c7] at h ⊢;let#[p,h1,h2]:=h;show#[p,h1,e _ _ h2]
 | .ifs a y n,v,h=>by
  erw[c7] at h ⊢;let#[p,py,pn,vy,vn,h1,h2,h3,h4,h5,h6]:=h;show#[p,py,pn,vy,vn,h1,e _ _ h2,e _ _ h3,e _ _ h4,bC.mono e y vy h5,bC.mono e n vn h6]
 | .qF a b,v,h=>by erw[c7] at h ⊢;let#[p,pb,vb,h1,h2,h3,h4]:=h;show#[p,pb,vb,h1,e _ _ h2,e _ _ h3,bC.mono e b vb h4]
theorem bC.mono{H H':Hp}(e:bQ H H'):∀(ss:List S)(vs:List V),bC H ss vs->bC H' ss vs
 | [],vs,h=>by
  erw[bC] at h ⊢;show h
 | s::ss,vs,h=>by erw[bC] at h ⊢;let#[v,vr,h1,h2,h3]:=h;show#[v,vr,h1,c7.mono e s v h2,bC.mono e ss vr h3]
end
theorem bC.append{ts:List S}{ws:List V}(h2:bC H ts ws):∀{ss:List S}{vs:List V},bC H ss vs->bC H (ss++ts) (vs++ws)
 | [],vs,h=>by
  erw[bC] at h;subst h;show h2
 | s::ss,vs,h=>by erw[bC] at h;let#[v,vr,rfl,h1,h3]:=h;change bC H (s::(ss++ts)) (v::(vr++ws));erw[bC];show#[v,_,rfl,h1,bC.append h2 h3]
def bC.one{s:S}(h:c7 H s v):bC H [s] [v]:=by erw[bC];show#[v,[],rfl,h,rfl]
theorem bC.length{H:Hp}:∀{ss:List S}{vs:List V},bC H ss vs->vs.length=ss.length
 | [],vs,h=>by
  erw[bC] at h;subst h;rfl
 | s::ss,vs,h=>by erw[bC] at h;let#[v,vr,rfl,_,h3]:=h;simp[bC.length h3]
theorem bC.get:∀{ss:List S}{vs:List V}{i:Nat}{v:V},bC H ss vs->vs[i]?=some v->∃s,ss[i]?=some s/\c7 H s v
 | [],vs,i,v,h,e=>by
  erw[bC] at h;subst h;simp at e
 | s::ss,vs,0,v,h,e=>by
  erw[bC] at h;let#[w,vr,rfl,h1,h3]:=h;simp at e;subst e;show#[s,rfl,h1]
 | s::ss,vs,i+1,v,h,e=>by erw[bC] at h;let#[w,vr,rfl,h1,h3]:=h;let#[t,e1,e2]:=bC.get (i:=i) (v:=v) h3 (by simpa using e);show#[t,by simpa using e1,e2]
mutual
noncomputable def S.rows:S->Nat
 | .ifs _ y n=>3+S.bY y+S.bY n
 | .qF _ b=>3+S.bY b
 | .num _ _=>1
 | .copy _ _=>1
 | .op _ _ _ _=>1
 | .out _=>1
noncomputable def S.bY:List S->Nat
 | []=>0
 | s::ss=>s.rows+S.bY ss
end
theorem iH(ss ts:List S):S.bY (ss++ts)=S.bY ss+S.bY ts:=by
 induction ss with
 | nil=>simp[S.bY]
 | cons s ss ih=>simp[S.bY,ih];lia
mutual
def S.ok(N:Str->Prop):S->Prop
 | .num x n=>N x/\0<=n/\n<281474976710656
 | .copy x a=>N x/\N a
 | .op x o a b=>N x/\o∈(["+", "-", "*", "/", "<", "=", "&", "|", "^"]:List Str)/\N a/\N b
 | .out a=>N a
 | .ifs a y n=>N a/\S.ux N y/\S.ux N n
 | .qF a b=>N a/\S.ux N b
def S.ux(N:Str->Prop):List S->Prop
 | []=>True
 | s::ss=>S.ok N s/\S.ux N ss
end
def qG{ss ts:List S}(h1:S.ux N ss)(h2:S.ux N ts):S.ux N (ss++ts):=by
 induction ss with
 | nil=>show h2
 | cons s ss ih =>
  erw[S.ux] at h1;erw[nE,S.ux];show#[h1.1,ih h1.2]
def Ug{s:S}(h:S.ok N s):S.ux N [s]:=by erw[S.ux];show#[h,trivial]
mutual
noncomputable def S.cR:S->List S
 | .ifs a y n=>.ifs a y n::(S.aU y++S.aU n)
 | .qF a b=>.qF a b::S.aU b
 | .num x n=>[.num x n]
 | .copy x a=>[.copy x a]
 | .op x o a b=>[.op x o a b]
 | .out a=>[.out a]
noncomputable def S.aU:List S->List S
 | []=>[]
 | s::ss=>s.cR++S.aU ss
end
def mL(ss ts:List S):S.aU (ss++ts)=S.aU ss++S.aU ts:=by
 induction ss with
 | nil=>simp[S.aU]
 | cons s ss ih=>simp[S.aU,ih]
mutual
theorem Mu:∀s:S,s.cR.length<=s.rows
 | .num ..=>by simp[S.cR,S.rows]
 | .copy ..=>by simp[S.cR,S.rows]
 | .op ..=>by simp[S.cR,S.rows]
 | .out ..=>by simp[S.cR,S.rows]
 | .ifs a y n=>by
  have h1:=g9 y;have h2:=g9 n;erw[S.cR,S.rows,ck,aF];lia
 | .qF a b=>by have h1:=g9 b;erw[S.cR,S.rows,ck];lia
theorem g9:∀ss:List S,(S.aU ss).length<=S.bY ss
 | []=>by simp[S.aU,S.bY]
 | s::ss=>by have h1:=Mu s;have h2:=g9 ss;erw[S.aU,S.bY,aF];lia
end
theorem sH:∀{ss:List S}{i:Nat}{s:S},ss[i]?=some s->S.bY^ss.take i+s.rows<=S.bY ss
 | [],i,s,e=>by simp at e
 | t::ss,0,s,e=>by
  simp at e;subst e;erw[List.take_zero,S.bY];lia
 | t::ss,i+1,s,e=>by have:=sH (ss:=ss) (i:=i) (s:=s) (by simpa using e);erw[List.take_succ_cons,S.bY];lia
noncomputable def S.own:S->List Str
 | .num x _=>[x]
 | .copy x a=>[x,a]
 | .op x _ a b=>[x,a,b]
 | .out a=>[a]
 | .ifs a _ _=>[a]
 | .qF a _=>[a]
def Uh(s:S):s.own.length<=3:=by cases s<;>simp[S.own]
def cj(ss:List S):List Str:=ss.flatMap S.own
theorem yR(ss:List S):(cj ss).length<=3*ss.length:=by
 induction ss with
 | nil=>simp[cj]
 | cons s ss ih =>
  have:=Uh s;erw[cj,sR,aF,ck] at ih ⊢;lia
noncomputable def jm(acc:List Str)(x:Str):List Str:=if x∈acc then acc else acc++[x]
def dR(xs:List Str):List Str:=xs.foldl jm []
def Cc(xs ys:List Str):dR (xs++ys)=ys.foldl jm^dR xs:=List.foldl_append ..
theorem Mv(acc:List Str)(x:Str):(jm acc x).length<=acc.length+1:=by unfold jm;split;lia;simp
theorem pK(xs:List Str):(dR xs).length<=xs.length:=by
 have:∀(xs acc:List Str),(xs.foldl jm acc).length<=acc.length+xs.length:=by
  intro xs;induction xs with
  | nil=>intro acc;simp
  | cons x xs ih =>
   intro acc;have h1:=ih^jm acc x;have h2:=Mv acc x;erw[List.foldl_cons,ck];lia
 have:=this xs [];simpa[dR] using this
noncomputable def ef(xs:List Str):List (Key×V):=xs.map λx=>(Sum.inr x,V.bl true)
def uz(acc:List Str)(x:Str):putK (ef acc) (.inr x)^.bl true=ef^jm acc x:=by
 have ea:((ef acc).any λkv=>decide (kv.1=Sum.inr x))=decide (x∈acc):=by
  unfold ef;rw[List.any_map];induction acc with
  | nil=>simp
  | cons y acc ih =>
   rw[kI,ih];by_cases e:y=x;simp[e];have e':¬x=y:=λh=>e h.symm;simp[e,e']
 unfold putK jm;rw[ea];by_cases h:x∈acc;rw[if_pos^decide_eq_true h,if_pos h];unfold ef;rw[fJ];show w4 λy _=>?_;change(if(Sum.inr y:Key)=Sum.inr x then((Sum.inr y:Key),V.bl true) else(Sum.inr y,V.bl true))=_;split<;>rfl;rw[if_neg^by simpa using h,if_neg h];unfold ef;rw[bA];rfl
def uA(xs:List Str):(ef xs).length=xs.length:=ao _
def HX(xs:List Str):(ef xs).map (λz=>kV z.1)=xs.map V.str:=by unfold ef;rw[fJ];rfl
def bC.cons_inv{s:S}{ss:List S}(h:bC H (s::ss) vs):∃v vr,vs=v::vr/\c7 H s v/\bC H ss vr:=by simpa only[bC] using h
theorem ia(ts:List S):ts.length<=S.bY ts:=by
 induction ts with
 | nil=>simp
 | cons t ts ih =>
  have:1<=t.rows:=by cases t<;>erw[S.rows]<;>lia
  erw[S.bY,ck];lia
inductive Mw(vs:List V)(H:Hp)(Q:VK)(_:XK):Prop|mk(p:Addr)(vb:List V)(ss:List S)(_:vs=[.ref p])(_:H p=some^.tup vb)(_:bC H ss vb)(_:S.bY ss<=100000)(_:∀(l:Addr)(vf:List V)(H':Hp),aA H H'->H l=none->H' l=some^.lst vf->bC H' (S.aU ss) vf->Q (.ref l) H')
section
variable (T:Txt w K mg)
theorem jn:T.jg∩(1,Mw):=by
 exists T.jg,je,#[p,vb,ss,rfl,hp,hrep,lB,q],"+/1ê0+/2N+¡¢1+/3²1+IW2*3.Dë÷e'T.jL.uV >3=ì?4.Ii1*êVí34.<2",5,(λ_=>rfl),#[rfl,rfl,rfl,rfl];have hfl:=g9 ss;have cI:=T.jL.rJ;have cW:=T.jL.rK;lk;rename_i co H1 n1 fo H2 n2;have Ui:H co=none:=n1.1;have VG:H fo=none:=n1.same.free n2.1;have nco:co≠fo:=n2.ne n1.self;have QU:=n2.keep n1.self;have yv:=n2.self;have s2:aA H H2:=n1.same.trans n2.same;clear n1 n2;show o7 (λk σ' H'=>∃(done rest:List S)(vd vr:List V)(st kk:Option V),σ'=[some^.ref p,some^.ref co,some^.ref fo,st,kk]/\aA H H'/\H' co=some^.lst vr.reverse/\H' fo=some^.lst vd/\bC H' done vd/\bC H' rest vr/\S.aU ss=done++S.aU rest/\S.bY rest<=100000/\k=(S.aU rest).length) ?_ ?_;show#[_,[],ss,[],vb,none,none,rfl,s2,QU,yv,rfl,bC.mono (sT s2) _ _ hrep,rfl,lB,rfl]
 .rintro k σ' H3 ⟨done,rest,vd,vr,st,kk,rfl,s3,Cd,r6,hd,QH,YT,hrr,rfl⟩;clear QU yv s2;have hdl:vd.length=done.length:=hd.length;have amH:done.length+(S.aU rest).length<=100000:=by have:=congrArg List.length YT;rw[aF] at this;lia
  cases rest with
  | nil =>
   erw[bC] at QH;subst QH;rw[List.reverse_nil] at Cd;lk;show q fo vd H3 s3 VG r6 ?_;rw[YT];erw[S.aU,fH];show hd
  | cons x rs =>
   let#[v,vr',rfl,hx,hrs]:=QH.cons_inv;rw[qi] at Cd;lk;show xJ (by simp) ?_;lk;show s_pop Cd (y:=v) (by simp) ?_;intro H4 p4;rw[List.dropLast_concat] at p4;have QV:=p4.keep (aQ nco) r6;have tt4:bQ H3 H4:=λb xs e=>p4.keep (iJ e Cd (by intro z;cases z)) e;have s4:=p4.same s3 Ui;have acU:=p4.self;have hx4:=c7.mono tt4 _ _ hx;have Qa:=bC.mono tt4 _ _ hrs;have J4:=bC.mono tt4 _ _ hd;clear p4 Cd r6 tt4 hx hrs QH hd s3;have hvd:vd.length<=100000:=∅;lk;rename_i H5 p5;have EH:=p5.keep nco acU;have vL:bQ H4 H5:=λb xs e=>p5.keep (iJ e QV (by intro z;cases z)) e;have s5:=p5.same s4 VG;have QW:=p5.self;have Mx:=c7.mono vL _ _ hx4;have acV:=bC.mono vL _ _ Qa;have vH:=bC.mono vL _ _ J4;clear p5 acU QV vL hx4 Qa J4 s4;have hvr:=acV.length;have fin:∀(H6:Hp)(Uj:Option V)(ys:List S)(vy:List V),aA H H6->bQ H5 H6->H6 co=some^.lst ((vy++vr').reverse)->H6 fo=some^.lst (vd++[v])->bC H6 ys vy->x.cR=x::S.aU ys->S.bY ys<=x.rows ->
     ∃m',m'<(S.aU (x::rs)).length/\∃done rest vd vr st kk,[some^V.ref p,some^.ref co,some^.ref fo,some v,Uj]=[some^.ref p,some^.ref co,some^.ref fo,st,kk]/\aA H H6/\H6 co=some^.lst vr.reverse/\H6 fo=some^.lst vd/\bC H6 done vd/\bC H6 rest vr/\S.aU ss=done++S.aU rest/\S.bY rest<=100000/\m'=(S.aU rest).length:=by
    intro H6 Uj ys vy a1 a2 a3 a4 a5 a6 a7;have e:S.aU (x::rs)=x::S.aU (ys++rs):=by rw[mL];erw[S.aU];rw[a6];rfl
    show#[_,?_,done++[x],ys++rs,vd++[v],vy++vr',some v,Uj,rfl,a1,a3,a4,bC.append (bC.one^c7.mono a2 _ _ Mx)^bC.mono a2 _ _ vH,bC.append (bC.mono a2 _ _ acV) a5,?_,?_,rfl];rw[e,ck];lia;rw[YT,e];simp;rw[iH];erw[S.bY] at hrr;lia
   have hvl:vr'.length<=100000:=by have:=ia rs;erw[S.bY] at hrr;lia
   have simple:∀(t:Addr)(H6:Hp),fV H5 t (.tup []) H6->x.cR=[x]->∃m',m'<(S.aU (x::rs)).length/\∃done rest vd vr st Uj,[some^V.ref p,some^.ref co,some^.ref fo,some v,kk]=[some^.ref p,some^.ref co,some^.ref fo,st,Uj]/\aA H H6/\H6 co=some^.lst vr.reverse/\H6 fo=some^.lst vd/\bC H6 done vd/\bC H6 rest vr/\S.aU ss=done++S.aU rest/\S.bY rest<=100000/\m'=(S.aU rest).length:=λt H6 n6 e =>
    fin H6 kk [] [] (s5.trans n6.same) (sT n6.same) (n6.keep EH) (n6.keep QW) rfl (by rw[e];rfl)^aM _
   cases x with
   | num x n =>
    erw[c7] at Mx;let#[pv,rfl,fW]:=Mx;lk;rename_i t H6 n6;change uL K _ (.ref t) H6;show o8 (dJ.of n6.self) ?_;show vZ (dJ.of n6.self) ?_;walk_at "nxd";show simple t H6 n6 rfl
   | copy x n =>
    erw[c7] at Mx;let#[pv,rfl,fW]:=Mx;lk;rename_i t H6 n6;change uL K _ (.ref t) H6;show o8 (dJ.of n6.self) ?_;show vZ (dJ.of n6.self) ?_;walk_at "nxd";show simple t H6 n6 rfl
   | op x o a b =>
    erw[c7] at Mx;let#[pv,rfl,fW]:=Mx;lk;rename_i t H6 n6;change uL K _ (.ref t) H6;show o8 (dJ.of n6.self) ?_;show vZ (dJ.of n6.self) ?_;walk_at "nxd";show simple t H6 n6 rfl
   | out a =>
    erw[c7] at Mx;let#[pv,rfl,fW]:=Mx;lk;rename_i t H6 n6;change uL K _ (.ref t) H6;show o8 (dJ.of n6.self) ?_;show vZ (dJ.of n6.self) ?_;walk_at "nxd";show simple t H6 n6 rfl
   | ifs a y n =>
    erw[c7] at Mx;let#[pv,py,pn,vy,vn,rfl,fW,hpy,hpn,hy,hn]:=Mx;clear simple;lk;rename_i t H6 n6;have HY:=n6.keep EH;have My:=n6.keep QW;have HZ:=n6.keep fW;have amI:=n6.keep hpy;have amJ:=n6.keep hpn;have s6:=s5.trans n6.same;have Mz:=sT n6.same;clear n6 EH QW fW hpy hpn;change uL K _ (.ref T.jL.jD) H6;show o8 (cI H6) ?_;show Ja (xs:=[.int 2,.int 3]) (λH=>cI H) ?_;erw[qi,List.reverse_nil,List.nil_append,nE,Dd];have hry:S.bY y<=100000/\S.bY n<=100000/\S.bY rs<=100000:=by erw[S.bY,S.rows] at hrr;lia
    have l1:vr'.reverse.length<=100000:=by simpa using hvl
    have l2:vn.reverse.length<=100000:=by have:=ia n;rw[kL,hn.length];lia
    have l3:vy.reverse.length<=100000:=by have:=ia y;rw[kL,hy.length];lia
    have l4:(vr'.reverse++vn.reverse).length<=2000000:=by rw[aF];lia
    lk;rename_i la H7 n7 H8 p8 lb H9 n9 BY QL;have zO:=n7.keep HY;have c8:=p8.self;have MA:=n9.keep c8;have ZE:bQ H7 H8:=λb xs e=>p8.keep (iJ e zO (by intro z;cases z)) e;have QX:bQ H9 BY:=λb xs e=>QL.keep (iJ e MA (by intro z;cases z)) e;have tt:=(((Mz.trans^sT n7.same).trans ZE).trans^sT n9.same).trans QX;have nC:aA H BY:=QL.same ((p8.same (s6.trans n7.same) Ui).trans n9.same) Ui;show fin BY _ (y++n) (vy++vn) nC tt ?_ (QL.keep (aQ nco)^n9.keep^p8.keep (aQ nco)^n7.keep My) (bC.append (bC.mono tt _ _ hn)^bC.mono tt _ _ hy) ?_ ?_;rw[QL.self];simp;erw[S.cR,mL];rw[iH];erw[S.rows];lia
   | qF a b =>
    erw[c7] at Mx;let#[pv,pb',vb',rfl,fW,QY,hb]:=Mx;clear simple;lk;rename_i t H6 n6;have HY:=n6.keep EH;have My:=n6.keep QW;have HZ:=n6.keep fW;have amL:=n6.keep QY;have s6:=s5.trans n6.same;have Mz:=sT n6.same;clear n6 EH QW fW QY;change uL K _ (.ref T.jL.jE) H6;show o8 (cW H6) ?_;show Ja (xs:=[.int 2]) (λH=>cW H) ?_;erw[qi,List.reverse_nil,List.nil_append,nE,Dd];have hry:S.bY b<=100000:=by erw[S.bY,S.rows] at hrr;lia
    have l1:vr'.reverse.length<=100000:=by simpa using hvl
    have l3:vb'.reverse.length<=100000:=by have:=ia b;rw[kL,hb.length];lia
    lk;rename_i la H7 n7 H8 p8;have zO:=n7.keep HY;have ZE:bQ H7 H8:=λb xs e=>p8.keep (iJ e zO (by intro z;cases z)) e;have tt:=(Mz.trans^sT n7.same).trans ZE;show fin H8 _ b vb' (p8.same (s6.trans n7.same) Ui) tt ?_ (p8.keep (aQ nco)^n7.keep My) (bC.mono tt _ _ hb) ?_ ?_;rw[p8.self];simp;erw[S.cR];erw[S.rows];lia
def EI(H:Hp)(ps:List Str)(ss:List S)(gB:Str)(v:V):Prop:=∃p pp pb vb,v=.ref p/\H p=some^.tup [.ref pp,.ref pb,.str gB]/\H pp=some^.tup^ps.map V.str/\H pb=some^.tup vb/\bC H ss vb
theorem EI.mono{H H':Hp}{ps:List Str}{ss:List S}{gB:Str}{v:V}(e:aA H H')(h:EI H ps ss gB v):EI H' ps ss gB v:=by let#[p,pp,pb,vb,h1,h2,h3,h4,h5]:=h;show#[p,pp,pb,vb,h1,e _ _ h2,e _ _ h3,e _ _ h4,bC.mono (sT e) _ _ h5]
def MB{ss:List S}{s:S}(h:ss[i]?=some s):cj^ss.take (i+1)=cj^ss.take i++s.own:=by unfold cj;rw[bT,h,List.flatMap_append];simp
def uB(xs:List Str)(x:Str):dR (xs++[x])=jm (dR xs) x:=by rw[Cc];rfl
inductive Ce(vs:List V)(H:Hp)(Q:VK)(_:XK):Prop|mk(v:V)(ps:List Str)(ss:List S)(gB:Str)(_:vs=[v])(_:EI H ps ss gB v)(_:S.bY ss<=100000)(_:∀H',aA H H'->Q (.int (S.aU ss).length) H')
def zP:T.mE∩(2,Ce):=by exists T.mE,zJ,#[v,ps,ss,gB,rfl,hp,lB,q],".<J*:jn *>0",1;let#[pa,pp,pb,vb,rfl,hpa,hpp,QY,hrep]:=hp;lk;show#[pb,vb,ss,rfl,QY,hrep,lB,λl vf H' s1 _ hl hf=>?_];lk;rw[hf.length];show q H' s1
inductive MC(vs:List V)(H:Hp)(Q:VK)(_:XK):Prop|mk(v:V)(ps:List Str)(ss:List S)(gB:Str)(_:vs=[v])(_:EI H ps ss gB v)(_:ps.length<=10000)(_:S.bY ss<=100000)(_:∀l H',aA H H'->H l=none->H' l=some^.lst^(dR (ps++cj^S.aU ss++[gB])).map V.str->Q (.ref l) H')
theorem EJ:T.rT∩(2,MC):=by
 exists T.rT,jf,#[v,ps,ss,gB,rfl,hp,hps,lB,q],"+/1Â+DÁ>0?2.~K12+DC:jn *>0?3.DÁ½'T.jh.yq e'T.jh.yp >3?4.~K1Ví34+~K1>0.<b!îï*1",5,(λ_ _=>rfl),xS rfl;let#[pa,pp,pb,vb,rfl,hpa,hpp,QY,hrep]:=hp;have hfl:=g9 ss;lk;rename_i d H1 n1;have fd:H d=none:=n1.1;have hd1:H1 d=some^.dK^ef^dR^ps.take 0:=n1.self;have s1:=n1.same;clear n1;show f_tup (xs:=ps.map V.str) (λi σ' H'=>∃nm,σ'=[some^.ref pa,some^.ref d,nm,none,none]/\aA H H'/\H' d=some^.dK^ef^dR^ps.take i) #[none,rfl,s1,hd1] ?_ ?_ ?_;rintro i σ' H' _ ⟨nm,rfl,s',_⟩;show dJ.of^s' _ _ hpp
 .rintro i x σ' H2 hx ⟨nm,rfl,s2,hd2⟩;rw[aV] at hx;let#[z,hz,rfl]:=cG.mp hx;have hi:=(e9 hz).1;have j7:(ef^dR^ps.take i).length<=10000:=by have:=pK^ps.take i;rw[uA];rw[cu] at this;lia
  clear hd1 s1;lk;rename_i H3 p3;show#[_,rfl,p3.same s2 fd,?_];rw[p3.self,uz,bT,hz];change _=some^HO.dK^ef^dR (ps.take i++[z]);rw[uB]
 rintro σ' H2 ⟨nm,rfl,s2,hd2⟩;rw[ao,bU] at hd2;clear hd1 s1;have ah1:=s2 _ _ hpa;have acX:=s2 _ _ QY;have Wb:=bC.mono (sT s2) _ _ hrep;lk;show#[pb,vb,ss,rfl,acX,Wb,lB,λl vf H3 s3 fl hl hf=>?_];have vI:=s3 _ _ hd2;have zy:=s2.trans s3;have hvl:=hf.length;have ndl:d≠l:=aP hd2 fl;clear hd2 ah1 acX Wb;lk;show f_list (xs:=vf) (λi σ' H'=>∃st kk,σ'=[some^.ref pa,some^.ref d,nm,st,kk]/\aA H H'/\H' l=some^.lst vf/\bC H' (S.aU ss) vf/\H' d=some^.dK^ef^dR (ps++cj^(S.aU ss).take i)) ?_ ?_ ?_ ?_;show#[none,none,rfl,zy,hl,hf,by simpa[cj] using vI];rintro i σ' H' _ ⟨st,kk,rfl,s',hl',_⟩;show bG.of hl'
 .rintro i x σ' H4 hx ⟨st,kk,rfl,s4,HF,FP,J4⟩;let#[t,ht,Cf]:=FP.get hx;have hi:=(e9 hx).1;clear vI hl hf zy s2 s3;have j7:∀ys:List Str,ys.length<=3->(ef^dR (ps++cj^(S.aU ss).take i++ys)).length<=900000:=λys hy=>by have h1:=pK (ps++cj^(S.aU ss).take i++ys);have h2:=yR^(S.aU ss).take i;rw[cu] at h2;rw[aF,aF] at h1;rw[uA];lia
  have k0:=j7 [] (by simp);rw[fH] at k0;have step:∀(Ha Hb:Hp)(ys:List Str)(y:Str),Ha d=some^.dK^ef^dR (ps++cj^(S.aU ss).take i++ys)->tR Ha d (.dK^putK (ef^dR (ps++cj^(S.aU ss).take i++ys)) (.inr y)^.bl true) Hb->Hb d=some^.dK^ef^dR (ps++cj^(S.aU ss).take i++(ys++[y])):=λHa Hb ys y h p=>by rw[p.self,uz,<- jq,uB]
  have tup:∀{Ha Hb:Hp}{o:HO}{kvs:List (Key×V)},tR Ha d o Hb->Ha d=some^.dK kvs->bQ Ha Hb:=λp h b xs e=>p.keep (iJ e h (by intro z;cases z)) e;have fin:∀(Hb:Hp)(st' Uj:Option V)(ys:List Str),aA H Hb->bQ H4 Hb->Hb l=some^.lst vf->Hb d=some^.dK^ef^dR (ps++cj^(S.aU ss).take i++ys)->t.own=ys->∃st kk,[some^V.ref pa,some^.ref d,nm,st',Uj]=[some^.ref pa,some^.ref d,nm,st,kk]/\aA H Hb/\Hb l=some^.lst vf/\bC Hb (S.aU ss) vf/\Hb d=some^.dK^ef^dR (ps++cj^(S.aU ss).take (i+1)):=λHb st' Uj ys a1 a2 a3 a4 a5=>#[st',Uj,rfl,a1,a3,bC.mono a2 _ _ FP,by rw[MB ht,a5,<- jq];show a4];have ny:H4 d=some^.dK^ef^dR (ps++cj^(S.aU ss).take i++[]):=by rw[fH];show J4
  have Uk:l≠d:=aQ ndl;clear J4;cases t with
  | num x n =>
   erw[c7] at Cf;let#[pv,rfl,fW]:=Cf;have cN:=T.jh.uX;have k0:=j7 [] (by simp);have yS:=fW;lk;show tU (xs:=[.int 1]) (λH=>cN H) ?_;erw[Dd];lk;rename_i H5 p5;have vH:H5 d=some^.dK^ef^dR (ps++cj^(S.aU ss).take i++[x]):=step _ _ [] x ny p5;have vL:bQ H4 H5:=tup p5 ny;have s5:=p5.same s4 fd;have zx:=p5.keep Uk HF;have oB:=vL _ _ fW;have k5:=j7 [x] (by simp);clear p5 ny HF fW;have fW:=oB;clear oB yS;show fin H5 _ _ [x] s5 vL zx vH rfl
  | copy x a =>
   erw[c7] at Cf;let#[pv,rfl,fW]:=Cf;have cN:=T.jh.uY;have k0:=j7 [] (by simp);have yS:=fW;lk;show tU (xs:=[.int 1,.int 2]) (λH=>cN H) ?_;erw[Dd];lk;rename_i H5 p5;have vH:H5 d=some^.dK^ef^dR (ps++cj^(S.aU ss).take i++[x]):=step _ _ [] x ny p5;have vL:bQ H4 H5:=tup p5 ny;have s5:=p5.same s4 fd;have zx:=p5.keep Uk HF;have oB:=vL _ _ fW;have k5:=j7 [x] (by simp);clear p5 ny HF fW;have fW:=oB;clear oB yS;lk;rename_i H6 p6;have HH:H6 d=some^.dK^ef^dR (ps++cj^(S.aU ss).take i++[x,a]):=step _ _ [x] a vH p6;have Mz:bQ H5 H6:=tup p6 vH;have s6:=p6.same s5 fd;have VR:=p6.keep Uk zx;have HZ:=Mz _ _ fW;have k6:=j7 [x,a] (by simp);clear p6 vH zx fW;have fW:=HZ;clear HZ;show fin H6 _ _ [x,a] s6 (vL.trans Mz) VR HH rfl
  | op x o a b =>
   erw[c7] at Cf;let#[pv,rfl,fW]:=Cf;have cN:=T.jh.uZ;have k0:=j7 [] (by simp);have yS:=fW;lk;show tU (xs:=[.int 1,.int 3,.int 4]) (λH=>cN H) ?_;erw[Dd];lk;rename_i H5 p5;have vH:H5 d=some^.dK^ef^dR (ps++cj^(S.aU ss).take i++[x]):=step _ _ [] x ny p5;have vL:bQ H4 H5:=tup p5 ny;have s5:=p5.same s4 fd;have zx:=p5.keep Uk HF;have oB:=vL _ _ fW;have k5:=j7 [x] (by simp);clear p5 ny HF fW;have fW:=oB;clear oB yS;lk;rename_i H6 p6;have HH:H6 d=some^.dK^ef^dR (ps++cj^(S.aU ss).take i++[x,a]):=step _ _ [x] a vH p6;have Mz:bQ H5 H6:=tup p6 vH;have s6:=p6.same s5 fd;have VR:=p6.keep Uk zx;have HZ:=Mz _ _ fW;have k6:=j7 [x,a] (by simp);clear p6 vH zx fW;have fW:=HZ;clear HZ;lk;rename_i H7 p7;have Ng:H7 d=some^.dK^ef^dR (ps++cj^(S.aU ss).take i++[x,a,b]):=step _ _ [x,a] b HH p7;have Wc:bQ H6 H7:=tup p7 HH;have s7:=p7.same s6 fd;have Wd:=p7.keep Uk VR;have Ie:=Wc _ _ fW;have k7:=j7 [x,a,b] (by simp);clear p7 HH VR fW;have fW:=Ie;clear Ie;show fin H7 _ _ [x,a,b] s7 ((vL.trans Mz).trans Wc) Wd Ng rfl
  | out a =>
   erw[c7] at Cf;let#[pv,rfl,fW]:=Cf;have cN:=T.jh.u0;have k0:=j7 [] (by simp);have yS:=fW;lk;show tU (xs:=[.int 1]) (λH=>cN H) ?_;erw[Dd];lk;rename_i H5 p5;have vH:H5 d=some^.dK^ef^dR (ps++cj^(S.aU ss).take i++[a]):=step _ _ [] a ny p5;have vL:bQ H4 H5:=tup p5 ny;have s5:=p5.same s4 fd;have zx:=p5.keep Uk HF;have oB:=vL _ _ fW;have k5:=j7 [a] (by simp);clear p5 ny HF fW;have fW:=oB;clear oB yS;show fin H5 _ _ [a] s5 vL zx vH rfl
  | ifs a y n =>
   erw[c7] at Cf;let#[pv,_,_,_,_,rfl,fW,_]:=Cf;have cN:=T.jh.u7;have k0:=j7 [] (by simp);have yS:=fW;lk;show tU (xs:=[.int 1]) (λH=>cN H) ?_;erw[Dd];lk;rename_i H5 p5;have vH:H5 d=some^.dK^ef^dR (ps++cj^(S.aU ss).take i++[a]):=step _ _ [] a ny p5;have vL:bQ H4 H5:=tup p5 ny;have s5:=p5.same s4 fd;have zx:=p5.keep Uk HF;have oB:=vL _ _ fW;have k5:=j7 [a] (by simp);clear p5 ny HF fW;have fW:=oB;clear oB yS;show fin H5 _ _ [a] s5 vL zx vH rfl
  | qF a b =>
   erw[c7] at Cf;let#[pv,_,_,rfl,fW,_]:=Cf;have cN:=T.jh.vc;have k0:=j7 [] (by simp);have yS:=fW;lk;show tU (xs:=[.int 1]) (λH=>cN H) ?_;erw[Dd];lk;rename_i H5 p5;have vH:H5 d=some^.dK^ef^dR (ps++cj^(S.aU ss).take i++[a]):=step _ _ [] a ny p5;have vL:bQ H4 H5:=tup p5 ny;have s5:=p5.same s4 fd;have zx:=p5.keep Uk HF;have oB:=vL _ _ fW;have k5:=j7 [a] (by simp);clear p5 ny HF fW;have fW:=oB;clear oB yS;show fin H5 _ _ [a] s5 vL zx vH rfl
 .rintro σ' H4 ⟨st,kk,rfl,s4,HF,FP,J4⟩;rw[hvl,bU] at J4;have amM:=s4 _ _ hpa;have j7:(ef^dR (ps++cj^S.aU ss)).length<=900000:=by have h1:=pK (ps++cj^S.aU ss);have h2:=yR^S.aU ss;rw[aF] at h1;rw[uA];lia
  clear vI hl hf zy s2 s3;lk;rename_i H5 p5 lo H6 n6;show q lo H6 ((p5.same s4 fd).trans n6.same) ((p5.same s4 fd).free n6.1) ?_;rw[n6.self,uz,<- uB,HX]
def S.cnt(s:S):Nat:=s.cR.length
def bZ(ss:List S):Nat:=(S.aU ss).length
def fL(s:S)(ss:List S):bZ (s::ss)=s.cnt+bZ ss:=by unfold bZ S.cnt;erw[S.aU,aF]
def oE(ss ts:List S):bZ (ss++ts)=bZ ss+bZ ts:=by unfold bZ;rw[mL,aF]
def Ul(s:S):1<=s.cnt:=by unfold S.cnt;cases s<;>simp[S.cR]
theorem wD(a:Str)(y n:List S):(S.ifs a y n).cnt=1+(bZ y+bZ n):=by unfold S.cnt bZ;erw[S.cR,ck,aF];lia
theorem wF(a:Str)(b:List S):(S.qF a b).cnt=1+bZ b:=by unfold S.cnt bZ;erw[S.cR,ck];lia
end
mutual
noncomputable def cV(bx:Str->Int)(p e:Int):S->List Row
 | .num x n=>[.num 2 (bx x) n e]
 | .copy x a=>[.copy 2 (bx x) (bx a) e]
 | .op x o a b=>[.op 2 o (bx x) (bx a) (bx b) e]
 | .out a=>[.out (bx a) e]
 | .ifs a y n=>.fork (bx a) (if y.isEmpty then e else p+1) (if n.isEmpty then e else p+1+bZ y)::(gC bx (p+1) e y++gC bx (p+1+bZ y) e n)
 | .qF a b=>.fork (bx a) (if b.isEmpty then p else p+1) e::gC bx (p+1) p b
noncomputable def gC(bx:Str->Int)(p e:Int):List S->List Row
 | []=>[]
 | s::ss=>cV bx p (if ss.isEmpty then e else p+s.cnt) s++gC bx (p+s.cnt) e ss
end
noncomputable def fU:List S->Int->Int->List (S×Int)
 | [],_,_=>[]
 | s::ss,p,e=>(s,if ss.isEmpty then e else p+s.cnt)::fU ss (p+s.cnt) e
noncomputable def j3(bx:Str->Int):Int->List (S×Int)->List Row
 | _,[]=>[]
 | p,z::L=>cV bx p z.2 z.1++j3 bx (p+z.1.cnt) L
theorem j4(bx:Str->Int)(e:Int):∀(ss:List S)(p:Int),j3 bx p^fU ss p e=gC bx p e ss
 | [],_=>by erw[fU,j3,gC]
 | s::ss,p=>by erw[fU,j3,gC];rw[j4 bx e ss]
mutual
theorem AO(bx:Str->Int):∀(s:S)(p e:Int),(cV bx p e s).length=s.cnt
 | .num ..,_,_=>by erw[cV];rfl
 | .copy ..,_,_=>by erw[cV];rfl
 | .op ..,_,_=>by erw[cV];rfl
 | .out ..,_,_=>by erw[cV];rfl
 | .ifs a y n,p,e=>by
  erw[cV,ck,aF];rw[jO bx y,jO bx n,wD];lia
 | .qF a b,p,e=>by erw[cV,ck];rw[jO bx b,wF];lia
theorem jO(bx:Str->Int):∀(ss:List S)(p e:Int),(gC bx p e ss).length=bZ ss
 | [],_,_=>by erw[gC];rfl
 | s::ss,p,e=>by erw[gC,aF];rw[AO bx s,jO bx ss,fL]
end
def cntK(L:List (S×Int)):Nat:=bZ^L.map (·.1)
theorem mO(bx:Str->Int)(M:List (S×Int)):∀(L:List (S×Int))(p:Int),j3 bx p (L++M)=j3 bx p L++j3 bx (p+cntK L) M
 | [],p=>by
  change j3 bx p M=j3 bx (p+((bZ []:Nat):Int)) M;rw[show((bZ []:Nat):Int)=0 from rfl,Int.add_zero]
 | z::L,p=>by
  erw[nE,j3];rw[mO bx M L,jq];have e:cntK (z::L)=z.1.cnt+cntK L:=by unfold cntK;rw[bR,fL]
  rw[e,show p+((z.1.cnt+cntK L:Nat):Int)=p+(z.1.cnt:Int)+(cntK L:Int) by lia]
theorem gz(e:Int):∀(ss:List S)(p:Int),(fU ss p e).map (·.1)=ss
 | [],_=>rfl
 | s::ss,p=>by erw[fU,bR];rw[gz e ss]
def lC(ss:List S)(p e:Int):(fU ss p e).length=ss.length:=by have:=congrArg List.length^gz e ss p;rwa [ao] at this
theorem AQ(e:Int):∀(ss:List S)(p:Int)(k:Nat)(s:S),ss[k]?=some s->(fU ss p e)[k]?=some (s,if k+1=ss.length then e else p+bZ^ss.take (k+1))
 | [],_,_,_,h=>by simp at h
 | t::ss,p,0,s,h=>by
  simp at h;subst h;erw[fU,A4,List.take_succ_cons,List.take_zero,ck];cases ss with
  | nil=>rfl
  | cons u us =>
   rw[if_neg^by simp,if_neg^by simp];have:bZ [t]=t.cnt:=by rw[fL];rfl
   rw[this]
 | t::ss,p,k+1,s,h=>by erw[fU,jt];rw[AQ e ss (p+t.cnt) k s^by simpa using h];erw[ck,List.take_succ_cons];rw[fL];by_cases hk:k+1=ss.length;rw[if_pos hk,if_pos ∅];rw[if_neg hk,if_neg ∅,show p+(t.cnt:Int)+(bZ^ss.take (k+1):Int)=p+((t.cnt+bZ^ss.take (k+1):Nat):Int) by lia]
noncomputable def jH(nms:List Str)(x:Str):Int:=(nms.idxOf x:Nat)
def gX(ps:List Str)(ss:List S)(gB:Str):List Str:=dR (ps++cj^S.aU ss++[gB])
def lD(ps:List Str)(ss:List S)(gB:Str):List Row:=gC (jH^gX ps ss gB) 0 (bZ ss) ss++[.back^jH (gX ps ss gB) gB]
def yT(xs:List Str):(dR xs).Nodup:=by
 have:∀(xs acc:List Str),acc.Nodup->(xs.foldl jm acc).Nodup:=by
  intro xs;induction xs with
  | nil=>intro acc h;show h
  | cons x xs ih =>
   intro acc h;show ih _ ?_;unfold jm;split;show h;rename_i hx;rw[f7];show#[h,by simp,λa ha b hb e=>?_];rw[ay.mp hb] at e;show hx (e▸ha)
 show this xs [] lM
def EK{x:Str}(h:x∈xs):x∈dR xs:=by
 have grow:∀(xs acc:List Str)(y:Str),y∈acc->y∈xs.foldl jm acc:=by
  intro xs;induction xs with
  | nil=>intro acc y h;show h
  | cons z xs ih =>
   intro acc y h;show ih _ y ?_;unfold jm;split;show h;show iw _ h
 have:∀(xs acc:List Str),x∈xs->x∈xs.foldl jm acc:=by
  intro xs;induction xs with
  | nil=>intro acc h;cases h
  | cons z xs ih =>
   intro acc h;rcases aG.mp h with e|h
   .rw[e];show grow xs _ z ?_;unfold jm;split;assumption;simp
   .show ih _ h
 show this xs [] h
mutual
theorem YU{N M:Str->Prop}:∀s:S,S.ok N s->(∀x∈cj s.cR,M x)->S.ok M s
 | .num x n,h,q=>#[q x^by simp[S.cR,cj,S.own],h.2]
 | .copy x a,h,q=>#[q x^by simp[S.cR,cj,S.own],q a^by simp[S.cR,cj,S.own]]
 | .op x o a b,h,q=>#[q x^by simp[S.cR,cj,S.own],h.2.1,q a^by simp[S.cR,cj,S.own],q b^by simp[S.cR,cj,S.own]]
 | .out a,h,q=>q a (by simp[S.cR,cj,S.own])
 | .ifs a y n,h,q=>by
  have e:cj (S.ifs a y n).cR=a::(cj^S.aU y++cj^S.aU n):=by simp[S.cR,cj,S.own]
  rw[e] at q;show#[q a^by simp,yU y h.2.1 (λx hx=>q x^by simp[hx]),yU n h.2.2 (λx hx=>q x^by simp[hx])]
 | .qF a b,h,q=>by
  have e:cj (S.qF a b).cR=a::cj^S.aU b:=by simp[S.cR,cj,S.own]
  rw[e] at q;show#[q a^by simp,yU b h.2 (λx hx=>q x^by simp[hx])]
theorem yU{N M:Str->Prop}:∀ss:List S,S.ux N ss->(∀x∈cj^S.aU ss,M x)->S.ux M ss
 | [],_,_=>trivial
 | s::ss,h,q=>by
  have e:cj^S.aU (s::ss)=cj s.cR++cj^S.aU ss:=by simp[S.aU,cj]
  rw[e] at q;show#[YU s h.1 (λx hx=>q x^by simp[hx]),yU ss h.2 (λx hx=>q x^by simp[hx])]
end
def AR{ps:List Str}{ss:List S}(h:S.ux N ss):S.ux (· ∈ gX ps ss gB) ss :=
 yU ss h λx hx=>EK (by simp[hx])
def yV(ps:List Str)(ss:List S)(gB:Str):gB∈gX ps ss gB:=EK (by simp)
def Cg(H:Hp)(v:V)(z:S×Int):Prop:=∃t u,v=.ref t/\H t=some^.tup [u,.int z.2]/\c7 H z.1 u
abbrev Links(H:Hp):List V->List (S×Int)->Prop:=Paired^Cg H
theorem Cg.mono{H H':Hp}{v:V}{z:S×Int}(e:bQ H H')(h:Cg H v z):Cg H' v z:=let⟨t,u,h1,h2,h3⟩:=h;#[t,u,h1,e _ _ h2,c7.mono e _ _ h3]
theorem Links.mono{H H':Hp}{vs:List V}{L:List (S×Int)}(e:bQ H H')(h:Links H vs L):Links H' vs L:=dW (λ_ _ q=>q.mono e) h
def uC{F:α->β->Prop}{xs:List α}{ys:List β}{xs':List α}{ys':List β}(h:Paired F xs ys)(h':Paired F xs' ys'):Paired F (xs++xs') (ys++ys'):=by
 induction h with
 | nil=>show h'
 | cons a _ ih=>show .cons a ih
def jP{F:α->β->Prop}{xs:List α}{ys:List β}(h:Paired F xs ys):xs.length=ys.length:=by
 induction h with
 | nil=>rfl
 | cons _ _ ih=>simp[ih]
def MD(ss:List S):bZ ss<=S.bY ss:=g9 ss
structure jc (H:Hp) (v:V) (ss:List S) (p e:Int):Prop where
 at_:∃t b vb,v=.ref t/\H t=some^.tup [.ref b,.int p,.int e]/\H b=some^.tup vb/\bC H ss vb
inductive QZ(vs:List V)(H:Hp)(Q:VK)(_:XK):Prop|mk(v:V)(ss:List S)(p e:Int)(_:vs=[v])(_:jc H v ss p e)(_:S.bY ss<=10000)(_:∀(l:Addr)(us:List V)(H':Hp),aA H H'->H l=none->H' l=some^.lst us.reverse->Links H' us^fU ss p e->Q (.ref l) H')
section
variable (T:Txt w K mg)
theorem uD:T.ug∩(2,QZ):=by
 exists T.ug,iU,#[v,ss,p,e,rfl,#[t,b,vb,rfl,ht,hb,hrep],lB,q],"+/1c>0J*:jn *>0+/2>0+/3N+Dë>0?4+IW3*=-4*2+É1J*:jn *=*4'WC ./21.<3",5;have hvl:=hrep.length;have hsl:=ia ss;lk;show#[b,vb,ss,rfl,hb,hrep,∅,λl1 vf H1 s1 _ hl1 hf1=>?_];have hfl:=hf1.length;have ht1:=s1 _ _ ht;lk;rename_i fo H2 n2;have VG:H fo=none:=s1.free n2.1;have s2:=s1.trans n2.same;have yv:=n2.self;have ht2:=n2.keep ht1;have hb2:=s2 _ _ hb;clear n2 hl1 hf1 ht1;lk;rw[hfl];change Nc (Dc K b vb.length) _ _ _ _ [some^V.ref t,some^V.int (p+(bZ ss:Nat)),some^V.int e,some^V.ref fo,none] H2;show Ov (xs:=vb) (λi σ' H'=>∃st us,σ'=[some^.ref t,some^.int (p+bZ^ss.take (ss.length-i)),some^.int (if i=0 then e else p+bZ^ss.take (ss.length-i)),some^.ref fo,st]/\aA H H'/\H' fo=some^.lst us.reverse/\Links H' us^(fU ss p e).drop (ss.length-i)) ?_ ?_ ?_ ?_;show#[none,[],?_,s2,yv,?_];rw[Nat.sub_zero,bU,if_pos rfl];rw[Nat.sub_zero,List.drop_eq_nil_of_le (by rw[lC];show av _)];show .nil;rintro i σ' H' _ ⟨st,us,rfl,s',_⟩;show dJ.of^s' _ _ hb
 .rintro i x σ' H3 hx ⟨st,us,rfl,s3,r6,hli⟩;have hi:i<vb.length:=by have:=(e9 hx).1;simpa using this
  rw[List.getElem?_reverse hi] at hx;let#[z,hz,hrz]:=hrep.get hx;rw[hvl] at hz;have hlg:=AQ e ss p _ z hz;have e1:ss.length-1-i+1=ss.length-i:=∅;rw[e1] at hlg;have j7:ss.length-1-i<(fU ss p e).length:=by rw[lC];lia
  have We:(fU ss p e).drop (ss.length-(i+1))=(z,if i=0 then e else p+bZ^ss.take (ss.length-i))::(fU ss p e).drop (ss.length-i):=by rw[show ss.length-(i+1)=ss.length-1-i by lia,A3 j7,e1];congr 1;have:=fh j7;rw[hlg] at this;rw[<- Option.some.inj this];by_cases h0:i=0;rw[if_pos h0,if_pos ∅];rw[if_neg h0,if_neg ∅]
  have htk:bZ^ss.take (ss.length-i)=bZ^ss.take (ss.length-(i+1))+z.cnt:=by rw[show ss.length-i=(ss.length-(i+1))+1 by lia,bT,show ss.length-(i+1)=ss.length-1-i by lia,hz,oE];change _+bZ [z]=_;rw[fL];rfl
  have FN:us.reverse.length<=100000:=by have:=jP hli;rw[wZ,lC] at this;rw[kL];lia
  have rz3:=c7.mono (sT s3) _ _ hrz;have hzr:z.rows<=10000:=by have:=sH hz;lia
  clear yv ht2 hb2 s2;generalize UL:(if i=0 then e else p+(bZ^ss.take (ss.length-i):Int))=be at We ⊢;lk;rename_i t4 H4 n4 H5 p5 t6 H6 n6;have QV:=n4.keep r6;have vL:bQ H4 H5:=λb xs e=>p5.keep (iJ e QV (by intro z;cases z)) e;have Mz:bQ H3 H6:=((sT n4.same).trans vL).trans^sT n6.same;have s6:aA H H6:=(p5.same (s3.trans n4.same) VG).trans n6.same;have My:=n6.keep p5.self;have acY:=n6.keep^vL _ _ n4.self;show#[t6,[x],[z],rfl,n6.self,bC.one^c7.mono Mz _ _ rz3,by erw[S.bY];lia,λl7 vf7 H7 s7 _ Wd Rw=>?_];have acZ:=Rw.length;have hc1:(S.aU [z]).length=z.cnt:=by change bZ [z]=_;rw[fL];rfl
  have Yb:=s7 _ _ My;have ME:=(Links.mono Mz hli).mono^sT s7;have ah3:=s7 _ _ acY;have rz7:=c7.mono (Mz.trans^sT s7) _ _ rz3;clear n4 p5 n6 r6 QV My hli acY;lk;rw[acZ,hc1,htk];show#[some x,.ref t4::us,?_,s6.trans s7,?_,?_];rw[if_neg ∅];have ee:p+((bZ^ss.take (ss.length-(i+1))+z.cnt:Nat):Int)-(z.cnt:Int)=p+(bZ^ss.take (ss.length-(i+1)):Int):=∅;rw[ee];rw[qi];show Yb;rw[We];show .cons #[t4,x,rfl,ah3,rz7] ME
 .rintro σ' H3 ⟨st,us,rfl,s3,r6,hli⟩;rw[hvl,Nat.sub_self,List.drop_zero] at hli;lk;show q fo us H3 s3 VG r6 hli
theorem jc.mono{H H':Hp}{v:V}{ss:List S}{p e:Int}(sm:aA H H')(h:jc H v ss p e):jc H' v ss p e:=by let#[t,b,vb,h1,h2,h3,h4]:=h.at_;show#[t,b,vb,h1,sm _ _ h2,sm _ _ h3,bC.mono (sT sm) _ _ h4]
def jc.Wf{ss:List S}{p e:Int}(sm:bQ H H')(h:jc H v ss p e):jc H' v ss p e:=by let#[t,b,vb,h1,h2,h3,h4]:=h.at_;show#[t,b,vb,h1,sm _ _ h2,sm _ _ h3,bC.mono sm _ _ h4]
inductive Um(vs:List V)(H:Hp)(Q:VK)(_:XK):Prop|mk(v:V)(ss:List S)(p e:Int)(_:vs=[v])(_:jc H v ss p e)(_:Q (.int (if ss.isEmpty then e else p)) H)
def EL:T.entry∩(1,Um):=by
 exists T.entry,PV,#[v,ss,p,e,rfl,#[t,b,vb,rfl,ht,hb,hrep],q],".<[¢>0>0>0",1,(λ_=>rfl);cases ss with
 | nil =>
  erw[bC] at hrep;subst hrep;lk;show q
 | cons x ss =>
  let#[v,vr,rfl,_,_]:=hrep.cons_inv;lk;show q
noncomputable def nA:S->List S
 | .ifs _ y _=>y
 | .qF _ b=>b
 | _=>[]
noncomputable def CM:S->List S
 | .ifs _ _ n=>n
 | _=>[]
noncomputable def vo:S->Bool
 | .ifs ..=>true
 | .qF ..=>true
 | _=>false
noncomputable def EM(s:S)(p:Int):Int:=match s with
 | .ifs _ y _=>p+1+bZ y
 | _=>p+1
noncomputable def EN(s:S)(p e:Int):Int:=match s with
 | .ifs ..=>e
 | _=>p
inductive Q0(vs:List V)(H:Hp)(Q:VK)(_:XK):Prop|mk(v:V)(s:S)(p e:Int)(_:vs=[v,.int p,.int e])(_:c7 H s v)(_:vo s=true)(_:s.rows<=10000)(_:∀(l:Addr)(v1 v2:V)(H':Hp),aA H H'->H l=none->H' l=some^.lst [v1,v2]->jc H' v1 (nA s) (p+1)^EN s p e->jc H' v2 (CM s) (EM s p) e->Q (.ref l) H')
theorem Ci:T.pC∩(2,Q0):=by
 exists T.pC,mD,#[v,x,p,e,rfl,hx,hf,lB,q],"+/3R1+@o>0+/4c3J*:jn *>0.<Z-=->0-3*2*=->0-4*2.<Z-=->0-3*1*=-=ì-3*2",5;cases x with
 | num=>cases hf
 | copy=>cases hf
 | op=>cases hf
 | out=>cases hf
 | ifs a y n =>
  erw[c7] at hx;let#[pv,py,pn,vy,vn,rfl,fW,hpy,hpn,hy,hn]:=hx;erw[S.rows] at lB;k_in;lk;show#[py,vy,y,rfl,hpy,hy,∅,λl1 vf H1 s1 _ hl1 hf1=>?_];have amO:=s1 _ _ fW;have hfl:=hf1.length;lk;rename_i t2 H2 n2 t3 H3 n3 l4 H4 n4;have VS:=(n2.same.trans n3.same).trans n4.same;have yC:=s1.trans VS;show q l4 _ _ H4 yC ((s1.trans^n2.same.trans n3.same).free n4.1) n4.self #[t2,py,vy,rfl,n4.keep^n3.keep n2.self,yC _ _ hpy,bC.mono (sT yC) _ _ hy] #[t3,pn,vn,rfl,?_,yC _ _ hpn,bC.mono (sT yC) _ _ hn];rw[n4.keep n3.self,hfl];rfl
 | qF a b =>
  erw[c7] at hx;let#[pv,pb,vb,rfl,fW,QY,hb]:=hx;k_in;lk;rename_i t1 H1 n1 t2 H2 n2 t3 H3 n3 l4 H4 n4;have yC:=((n1.same.trans n2.same).trans n3.same).trans n4.same;show q l4 _ _ H4 yC (((n1.same.trans n2.same).trans n3.same).free n4.1) n4.self #[t1,pb,vb,rfl,n4.keep^n3.keep^n2.keep n1.self,yC _ _ QY,bC.mono (sT yC) _ _ hb] #[t3,t2,[],rfl,n4.keep n3.self,n4.keep^n3.keep n2.self,rfl]
def ac0(kvs:List (Key×V))(nms:List Str):Prop:=∀x∈nms,eG kvs^.inr x=some^.int^jH nms x
inductive Uo(vs:List V)(H:Hp)(Q:VK)(_:XK):Prop|mk(v:V)(s:S)(e:Int)(d:Addr)(kvs:List (Key×V))(nms:List Str)(_:vs=[v,.int e,.ref d])(_:c7 H s v)(_:vo s=false)(_:S.ok (· ∈ nms) s)(_:H d=some^.dK kvs)(_:ac0 kvs nms)(_:∀(t:Addr)(r:Row)(H':Hp),aA H H'->H' t=some^.tup r.vals->(∀p,cV (jH nms) p e s=[r])->Q (.ref t) H')
def MF:T.BR∩(1,Uo):=by
 exists T.BR,LJ,#[v,x,e,d,kvs,nms,rfl,hx,hf,hok,hd,Ni,q],"+@o>0.<=A-°-^K2>0->0*1+@o>0.<=A-°-^K2>0-^K2>0*1+@o>0.<=A-°->0-^K2>0-^K2>0-^K2>0*1.<=A-^K2>0*1",3,(λ_ _=>rfl),(λ_ _=>rfl),(λ_ _=>rfl),(λ_ _=>rfl),(λ_ _=>rfl),(λ_ _=>rfl),(λ_ _=>rfl);cases x with
 | ifs=>cases hf
 | qF=>cases hf
 | num x n =>
  erw[c7] at hx;let#[pv,rfl,fW]:=hx;have b1:=Ni x hok.1;k_in;lk;show qY hd b1 ?_;lk;rename_i t H1 n1;show q t (.num 2 (jH nms x) n e) H1 n1.same n1.self (λp=>by erw[cV])
 | copy x a =>
  erw[c7] at hx;let#[pv,rfl,fW]:=hx;have b1:=Ni x hok.1;have b2:=Ni a hok.2;k_in;lk;show qY hd b1 ?_;lk;show qY hd b2 ?_;lk;rename_i t H1 n1;show q t (.copy 2 (jH nms x) (jH nms a) e) H1 n1.same n1.self (λp=>by erw[cV])
 | op x o a b =>
  erw[c7] at hx;let#[pv,rfl,fW]:=hx;have b1:=Ni x hok.1;have b2:=Ni a hok.2.2.1;have b3:=Ni b hok.2.2.2;k_in;lk;show qY hd b1 ?_;lk;show qY hd b2 ?_;lk;show qY hd b3 ?_;lk;rename_i t H1 n1;show q t (.op 2 o (jH nms x) (jH nms a) (jH nms b) e) H1 n1.same n1.self (λp=>by erw[cV])
 | out a =>
  erw[c7] at hx;let#[pv,rfl,fW]:=hx;have b1:=Ni a hok;k_in;lk;show qY hd b1 ?_;lk;rename_i t H1 n1;show q t (.out (jH nms a) e) H1 n1.same n1.self (λp=>by erw[cV])
def YV{nms:List Str}(hn:nms.Nodup){z:Str}(h:nms[i]?=some z):nms.idxOf z=i:=by
 have hm:z∈nms:=gq h;have hl:=wY.mpr hm;have e:nms[nms.idxOf z]?=some z:=by rw[fh hl,List.getElem_idxOf]
 show lu hn e h
noncomputable def AS:S->Str
 | .ifs a _ _=>a
 | .qF a _=>a
 | .num x _=>x
 | .copy x _=>x
 | .op x _ _ _=>x
 | .out a=>a
def ie(ss:List S)(p e:Int):cntK^fU ss p e=bZ ss:=by unfold cntK;rw[gz]
def oF(A B:List (S×Int)):cntK (A++B)=cntK A+cntK B:=by unfold cntK;rw[bA,oE]
def Ig(bx:Str->Int){s:S}(h:vo s=true)(p e:Int):cV bx p e s=.fork (bx^AS s) (if(nA s).isEmpty then EN s p e else p+1) (if(CM s).isEmpty then e else EM s p)::j3 bx (p+1) (fU (nA s) (p+1)^EN s p e++fU (CM s) (EM s p) e):=by
 cases s with
 | num=>cases h
 | copy=>cases h
 | op=>cases h
 | out=>cases h
 | ifs a y n =>
  erw[cV,nA,CM,EM,EN,AS];rw[mO,j4,ie,j4];rfl
 | qF a b =>
  erw[cV,nA,CM,EM,EN,AS,fU,fH,List.isEmpty_nil,if_true];rw[j4];rfl
theorem Q2{s:S}(h:vo s=true):s.cnt=1+(bZ^nA s+bZ^CM s)/\3+S.bY^nA s+S.bY^CM s<=s.rows:=by
 cases s with
 | num=>cases h
 | copy=>cases h
 | op=>cases h
 | out=>cases h
 | ifs a y n=>show#[wD a y n,by erw[S.rows,nA,CM];lia]
 | qF a b=>show#[by rw[wF];rfl,by erw[S.rows,nA,CM,S.bY];lia]
def Uq{s:S}(h:vo s=true)(hok:S.ok N s):N^AS s/\S.ux N^nA s/\S.ux N^CM s:=by
 cases s with
 | num=>cases h
 | copy=>cases h
 | op=>cases h
 | out=>cases h
 | ifs a y n=>show hok
 | qF a b=>show#[hok.1,hok.2,trivial]
def Q3{s:S}(h:vo s=true)(hr:c7 H s v):∃pv ky rest,v=.ref pv/\H pv=some^.tup (.str ky::.str^AS s::rest)/\(ky = "if" \/ ky = "while"):=by
 cases s with
 | num=>cases h
 | copy=>cases h
 | op=>cases h
 | out=>cases h
 | ifs a y n =>
  erw[c7] at hr;let#[pv,py,pn,vy,vn,rfl,fW,_]:=hr;show#[pv,_,_,rfl,fW,.inl rfl]
 | qF a b =>
  erw[c7] at hr;let#[pv,pb,vb,rfl,fW,_]:=hr;show#[pv,_,_,rfl,fW,.inr rfl]
def MG{s:S}(h:vo s=false)(hr:c7 H s v):∃pv ky rest,v=.ref pv/\H pv=some^.tup (.str ky::rest)/\uI (.str ky) [.str "if", .str "while"]=false/\s.cnt=1:=by
 cases s with
 | ifs=>cases h
 | qF=>cases h
 | num =>
  erw[c7] at hr;let#[pv,rfl,fW]:=hr;show#[pv,_,_,rfl,fW,by decide +kernel,rfl]
 | copy =>
  erw[c7] at hr;let#[pv,rfl,fW]:=hr;show#[pv,_,_,rfl,fW,by decide +kernel,rfl]
 | op =>
  erw[c7] at hr;let#[pv,rfl,fW]:=hr;show#[pv,_,_,rfl,fW,by decide +kernel,rfl]
 | out =>
  erw[c7] at hr;let#[pv,rfl,fW]:=hr;show#[pv,_,_,rfl,fW,by decide +kernel,rfl]
def qH{us:List V}{qs:List Row}(h1:Rows H us rs)(h2:Rows H vs qs):Rows H (us++vs) (rs++qs):=uC h1 h2
inductive MH(vs:List V)(H:Hp)(Q:VK)(_:XK):Prop|mk(v:V)(ps:List Str)(ss:List S)(gB:Str)(_:vs=[v])(_:EI H ps ss gB v)(_:ps.length<=10000)(_:S.bY ss<=10000)(_:∀(d:Addr)(kvs:List (Key×V))(H':Hp),aA H H'->H d=none->H' d=some^.dK kvs->ac0 kvs^gX ps ss gB->Q (.ref d) H')
theorem EO:T.rW∩(3,MH):=by
 exists T.rW,nT,#[v,ps,ss,gB,rfl,hp,hps,lB,q],"+/1Â+DC:EJ *0?2.øK12j'KS *1.<1",3;have hnd:=yT (ps++cj^S.aU ss++[gB]);have hnl:(gX ps ss gB).length<=60000:=by have h1:=pK (ps++cj^S.aU ss++[gB]);have h2:=yR^S.aU ss;have h3:=g9 ss;rw[aF,aF,gF] at h1;unfold gX;lia
 k_in;lk;rename_i d H1 n1;have fd:=n1.1;have hd1:=n1.self;have s1:=n1.same;clear n1;show#[v,ps,ss,gB,rfl,hp.mono s1,∅,∅,λl H2 s2 fl hl=>?_];have hd2:=s2 _ _ hd1;have ndl:l≠d:=aQ^aP hd1 fl;have Zy:=s1.trans s2;change H2 l=some^.lst^(gX ps ss gB).map V.str at hl;change (gX ps ss gB).Nodup at hnd;generalize gX ps ss gB=nms at hl hnd hnl q;clear hd1 s1 s2;lk;show f_list (xs:=nms.map V.str) (λi σ' H'=>∃nm kvs,σ'=[some v,some^.ref d,nm]/\aA H H'/\H' l=some^.lst^nms.map V.str/\H' d=some^.dK kvs/\kvs.length=i/\∀x,eG kvs^.inr x=if x∈nms.take i then some^.int^jH nms x else none) ?_ ?_ ?_ ?_;show#[none,[],rfl,Zy,hl,hd2,rfl,λx=>by simp[eG]];rintro i σ' H' _ ⟨nm,kvs,rfl,s',hl',_⟩;show bG.of hl'
 .rintro i x σ' H3 hx ⟨nm,kvs,rfl,s3,hl3,vI,j7,hkv⟩;rw[aV] at hx;let#[z,hz,rfl]:=cG.mp hx;have hi:=(e9 hz).1;have hzi:jH nms z=(i:Int):=by unfold jH;rw[YV hnd hz]
  have hnew:eG kvs^.inr z=none:=by
   rw[hkv z,if_neg];intro hm;let#[j,hj]:=gG.mp hm;have hj2:j<i:=by have:=(e9 hj).1;rw[cu] at this;lia
   rw[sV hj2] at hj;have:=lu hnd hj hz;lia
  clear hd2 hl;lk;show#[d,kvs,rfl,vI,?_];lk;rename_i H4 p4;show#[_,putK kvs (.inr z)^.int kvs.length,rfl,p4.same s3 fd,p4.keep ndl hl3,p4.self,?_,λx=>?_];rw[NK _ hnew,aF,gF,j7]
  .rw[xA,hkv x,bT,hz];change _=if x∈nms.take i++[z] then _ else _
   by_cases e:x=z;rw[if_pos^by rw[e],if_pos^by simp[e],e,hzi,j7]
   .rw[if_neg (λh=>e^Sum.inr.inj h)];by_cases hm:x∈nms.take i;rw[if_pos hm,if_pos^iw _ hm]
    .rw[if_neg hm,if_neg (λh=>by
      rcases aJ.mp h with h|h;show hm h
      .show e^ay.mp h)]
 .rintro σ' H3 ⟨nm,kvs,rfl,s3,hl3,vI,j7,hkv⟩;rw[ao,bU] at hkv;lk;show q d kvs H3 s3 fd vI λx hx=>by rw[hkv x,if_pos hx]
inductive YW(vs:List V)(H:Hp)(Q:VK)(_:XK):Prop|mk(v:V)(ps:List Str)(ss:List S)(gB:Str)(N:Str->Prop)(_:vs=[v])(_:EI H ps ss gB v)(_:ps.length<=10000)(_:S.bY ss<=10000)(_:S.ux N ss)(_:∀(l:Addr)(us:List V)(H':Hp),aA H H'->H l=none->H' l=some^.lst us->Rows H' us^lD ps ss gB->Q (.ref l) H')
theorem Ur:T.flat∩(4,YW):=by
 exists T.flat,mz,#[v,ps,ss,gB,N,rfl,hp,hps,lB,hok,q],"+/1:EO *0+/2N+/3:uD *=->0Q*:zP *0+¡¢3+/4²3+/5>4.ðq>5=An+/6:Ci -5-J*2*>4+IW2*=A-^K1>5-:EL *¹6*:EL *¹6.Ii3*¯:uD *¹6:uD *¹6.IW2*:MF -5->4*1+IW2*=A*^K1>0.<2",7,(λ_=>rfl),(by with_unfolding_all rfl),(λ_ _=>rfl),(λ_ _=>rfl);have ac1:=AR (ps:=ps) (gB:=gB) hok;have ac2:=yV ps ss gB;have hcr:=MD ss;let#[pa,pp,pb,vb,rfl,hpa,hpp,QY,hrep]:=hp;have rp:∀{H':Hp},aA H H'->EI H' ps ss gB^.ref pa:=λs=>#[pa,pp,pb,vb,rfl,s _ _ hpa,s _ _ hpp,s _ _ QY,bC.mono (sT s) _ _ hrep];unfold lD at q;obtain⟨nms,ac3⟩:∃n,n=gX ps ss gB:=#[_,rfl];rw[<- ac3] at ac1 ac2 q;lk;show#[.ref pa,ps,ss,gB,rfl,rp^aA.refl _,hps,lB,λd kvs H1 s1 fd hd1 Ni=>?_];rw[<- ac3] at Ni;have ah4:=s1 _ _ hpa;lk;rename_i co H2 n2;have s2:=s1.trans n2.same;have Ui:H co=none:=s1.free n2.1;have hd2:=n2.keep hd1;have QU:=n2.self;have ndc:d≠co:=n2.ne hd1;clear n2 hd1 ah4;show#[.ref pa,ps,ss,gB,rfl,rp s2,∅,λH3 s3=>?_];have J3:=s2.trans s3;have vI:=s3 _ _ hd2;have Cd:=s3 _ _ QU;clear hd2 QU s2 s3;lk;rename_i t4 H4 n4;have yC:=J3.trans n4.same;show#[.ref t4,ss,0,bZ ss,rfl,#[t4,pb,vb,rfl,n4.self,yC _ _ QY,bC.mono (sT yC) _ _ hrep],lB,λcm us5 H5 s5 f5 ac4 ac5=>?_];have vH:=s5 _ _^n4.keep vI;have EH:=s5 _ _^n4.keep Cd;have fcm:H cm=none:=yC.free f5;have ncc:co≠cm:=aP (n4.keep Cd) f5;have ndm:d≠cm:=aP (n4.keep vI) f5;have s05:=yC.trans s5;clear n4 vI Cd J3 yC s5 f5;lk;show o7 (λk σ' H'=>∃(done:List Row)(uc:List V)(L:List (S×Int))(cs:List V)(lk st bl:Option V),σ'=[some^.ref pa,some^.ref d,some^.ref co,some^.ref cm,lk,st,bl]/\aA H H'/\H' d=some^.dK kvs/\H' co=some^.lst uc/\Rows H' uc done/\H' cm=some^.lst cs.reverse/\Links H' cs L/\S.ux (· ∈ nms)^L.map (·.1)/\S.bY^L.map (·.1)<=10000/\done++j3 (jH nms) done.length L=gC (jH nms) 0 (bZ ss) ss/\done.length+cntK L=bZ ss/\k=cntK L) ?_ ?_;show#[_,[],[],fU ss 0^bZ ss,us5,none,none,none,rfl,s05,vH,EH,.nil,ac4,ac5,by rw[gz];show ac1,by rw[gz];show lB,?_,?_,rfl];show j4 _ _ _ _;rw[ie];simp
 .rintro k σ' H6 ⟨done,uc,L,cs,lk,st,bl,rfl,s6,HH,HY,Us,Q4,YX,Ut,ac6,Ko,ah5,rfl⟩;clear vH EH ac4 ac5 s05;have ac7:=jP Us;have amR:=jP YX;have hLl:L.length<=10000:=by have:=ia^L.map (·.1);rw[ao] at this;lia
  cases L with
  | nil =>
   cases YX;rw[List.reverse_nil] at Q4;have amS:=s6 _ _ hpa;have hb:=Ni gB ac2;erw[j3,fH] at Ko;lk;show qY HH hb ?_;lk;rename_i t7 H7 n7 H8 p8;have zO:=n7.keep HY;have ZE:bQ H7 H8:=λb xs e=>p8.keep (iJ e zO (by intro z;cases z)) e;show q co _ H8 (p8.same (s6.trans n7.same) Ui) Ui p8.self^qH ?_^.cons #[t7,rfl,ZE _ _ n7.self] .nil;rw[<- Ko];show(Us.gp^sT n7.same).gp ZE
  | cons z L =>
   let#[x,e]:=z;cases YX with
   | @cons c z cs' L' hc hli =>
    let#[tl,u,rfl,htl,hu]:=hc;rw[qi] at Q4;erw[bR] at Ut ac6;have okx:=Ut.1;have ac8:=Ut.2;erw[S.bY] at ac6;have hcx:cntK ((x,e)::L)=x.cnt+cntK L:=by unfold cntK;rw[bR,fL]
    have akk:=Ul x;have akl:cs'.reverse.length<=10000:=by rw[kL,jP hli];erw[ck] at hLl;lia
    lk;show xJ (by simp) ?_;lk;show s_pop Q4 (y:=.ref tl) (by simp) ?_;intro H7 p7;rw[List.dropLast_concat] at p7;have Wc:bQ H6 H7:=λb xs e=>p7.keep (iJ e Q4 (by intro z;cases z)) e;have s7:=p7.same s6 fcm;have Ng:=p7.keep ndm HH;have zO:=p7.keep ncc HY;have Uu:=p7.self;have Uv:=Us.gp Wc;have ME:=Links.mono Wc hli;have Uw:=Wc _ _ htl;have ZF:=c7.mono Wc _ _ hu;have akm:done.length+(x.cnt+cntK L)=bZ ss:=by rw[<- hcx];show ah5
    clear p7 Wc Q4 HH HY Us hli htl hu s6 Ut;cases FT:vo x
    .let#[pv,ky,rest,rfl,Ie,hin,hc1]:=MG FT ZF;have hdl:uc.length<=10000:=∅;lk;rename_i t8 H8 n8;show Gp hin ?_;have RE:=n8.keep Ng;have MI:=n8.keep zO;have MJ:=n8.keep Uu;have Q5:=Uv.same n8.same;have Q6:=Links.mono (sT n8.same) ME;have YY:=n8.keep Uw;have hu8:=c7.mono (sT n8.same) _ _ ZF;have s8:=s7.trans n8.same;clear n8 Ng zO Uu Uv ME Uw ZF Ie s7;lk;show#[.ref pv,x,e,d,kvs,nms,rfl,hu8,FT,okx,RE,Ni,λt9 r H9 s9 ht9 hr9=>?_];have MA:=s9 _ _ MI;have hd9:=s9 _ _ RE;have Ux:=s9 _ _ MJ;have Uy:=Q5.same s9;have Uz:=Links.mono (sT s9) Q6;clear RE MI MJ Q5 Q6 YY hu8;lk;rename_i BY QL;have QX:bQ H9 BY:=λb xs e=>QL.keep (iJ e MA (by intro z;cases z)) e;show#[cntK L,∅,done++[r],uc++[.ref t9],L,cs',_,_,_,rfl,QL.same (s8.trans s9) Ui,QL.keep ndc hd9,QL.self,qH (Uy.gp QX)^.cons #[t9,rfl,QX _ _ ht9] .nil,QL.keep (aQ ncc) Ux,Links.mono QX Uz,ac8,∅,?_,?_,rfl];rw[<- Ko];erw[j3];rw[hr9,hc1,aF,gF,jq];rfl;rw[aF,gF];lia
    .let#[pv,ky,rest,rfl,Ie,VL]:=Q3 FT ZF;have hin:uI (.str ky) [.str "if", .str "while"]=true:=by rcases VL with rfl|rfl<;>decide +kernel
     have hdl:uc.length<=10000:=∅;let#[hcf,hrf]:=Q2 FT;let#[okn,oky,ah6]:=Uq FT okx;lk;rename_i t8 H8 n8;show xJ hin ?_;have RE:=n8.keep Ng;have MI:=n8.keep zO;have MJ:=n8.keep Uu;have Q5:=Uv.same n8.same;have Q6:=Links.mono (sT n8.same) ME;have YY:=n8.keep Uw;have adb:=n8.keep Ie;have hu8:=c7.mono (sT n8.same) _ _ ZF;have s8:=s7.trans n8.same;clear n8 Ng zO Uu Uv ME Uw ZF Ie s7;lk;show#[.ref pv,x,(uc.length:Int),e,rfl,hu8,FT,∅,λlb v1 v2 H9 s9 flb hlb b1 b2=>?_];have MA:=s9 _ _ MI;have hd9:=s9 _ _ RE;have Ux:=s9 _ _ MJ;have Uy:=Q5.same s9;have Uz:=Links.mono (sT s9) Q6;have ade:=s9 _ _ adb;have s09:=s8.trans s9;have nbc:lb≠co:=aQ^aP MI flb;have nbm:lb≠cm:=aQ^aP MJ flb;clear RE MI MJ Q5 Q6 YY hu8 adb s8 s9;lk;show Af (dJ.of ade) (fR (j:=1) rfl) ?_;lk;show qY hd9 (Ni _ okn) ?_;lk;show#[v1,nA x,_,_,rfl,b1,?_];lk;show#[v2,CM x,_,_,rfl,b2,?_];lk;rename_i ZG BY HJ JX vg;have Wg:=HJ.keep MA;have adf:bQ BY JX:=λb xs e=>vg.keep (iJ e Wg (by intro z;cases z)) e;have YS:bQ H9 JX:=(sT HJ.same).trans adf;have RA:aA H JX:=vg.same (s09.trans HJ.same) Ui;have Wh:=vg.self;have Wi:=vg.keep (aQ ncc)^HJ.keep Ux;have adg:=vg.keep ndc^HJ.keep hd9;have Wj:=vg.keep nbc^HJ.keep hlb;have ah7:=adf _ _ HJ.self;have adh:=Uy.gp YS;have adi:=Links.mono YS Uz;have b1':=b1.Wf YS;have b2':=b2.Wf YS;clear HJ vg MA Wg Ux hd9 hlb Uy Uz b1 b2 ade;show#[v2,CM x,_,_,rfl,b2',∅,λl12 Uc Yo s12 f12 adj YZ=>?_];have adk:=s12 _ _ Wj;have Wk:=s12 _ _ Wh;have Wl:=s12 _ _ Wi;have adl:=s12 _ _ adg;have adm:=b1'.mono s12;clear Wj Wh Wi adg;lk;show#[v1,nA x,_,_,rfl,adm,∅,λl13 us1 Zq zy f13 amX adn=>?_];have ado:=zy _ _ Wk;have adp:=zy _ _ Wl;have ah9:=zy _ _ adl;have aia:=zy _ _ adj;have adq:=Links.mono (sT zy) YZ;have lu2:Uc.reverse.length<=10000:=by have h1:=ia^CM x;rw[kL,jP YZ,lC];lia
     have lu1:us1.reverse.length<=10000:=by have h1:=ia^nA x;rw[kL,jP adn,lC];lia
     have amY:(Uc.reverse++us1.reverse).length<=200000:=by rw[aF];lia
     clear adk Wk Wl adl adj YZ b1' adm b2';lk;rename_i l14 H14 ZH VM HC;have ads:=ZH.keep adp;have adt:bQ H14 VM:=λb xs e=>HC.keep (iJ e ads (by intro z;cases z)) e;have Q7:bQ JX VM:=(((sT s12).trans^sT zy).trans^sT ZH.same).trans adt;have adu:bQ Zq VM:=(sT ZH.same).trans adt;have s15:aA H VM:=HC.same (((RA.trans s12).trans zy).trans ZH.same) fcm;obtain⟨fr,hfr⟩:∃r,r=Row.fork (jH nms (AS x)) (if(nA x).isEmpty then EN x (uc.length:Int) e else(uc.length:Int)+1) (if(CM x).isEmpty then e else EM x (uc.length:Int)):=#[_,rfl];have adw:VM ZG=some^.tup fr.vals:=by rw[hfr];show Q7 _ _ ah7
     have hrs:=Ig (jH nms) FT (uc.length:Int) e;rw[<- hfr] at hrs;show#[cntK (fU (nA x) ((uc.length:Int)+1)^EN x uc.length e++fU (CM x) (EM x uc.length) e++L),?_,done++[fr],uc++[.ref ZG],fU (nA x) ((uc.length:Int)+1)^EN x uc.length e++fU (CM x) (EM x uc.length) e++L,us1++Uc++cs',_,_,_,rfl,s15,HC.keep ndm^ZH.keep ah9,HC.keep ncc^ZH.keep ado,qH (adh.gp Q7)^.cons #[ZG,rfl,adw] .nil,?_,uC (uC (Links.mono adu adn)^Links.mono adu adq)^Links.mono Q7 adi,?_,?_,?_,?_,rfl];rw[hcx,hcf,oF,oF,ie,ie];lia;rw[HC.self];simp;rw[bA,bA,gz,gz];show qG (qG oky ah6) ac8;rw[bA,bA,gz,gz,iH,iH];lia;rw[<- Ko];erw[j3];rw[<- ac7,hrs,mO _ L,aF,gF,oF,ie,ie,hcf];erw[jq,nE,List.nil_append];rw[<- ac7,show((uc.length+1:Nat):Int)=(uc.length:Int)+1 by lia,show(uc.length:Int)+((1+(bZ^nA x+bZ^CM x):Nat):Int)=(uc.length:Int)+1+((bZ^nA x+bZ^CM x:Nat):Int) by lia];rw[aF,gF,oF,oF,ie,ie];lia
inductive Y0(vs:List V)(H:Hp)(Q:VK)(_:XK):Prop|mk(c:Int)(_:vs=[.int c])(_:∀n:Nat,2<=n->n<=40->Q (.int n) H)
theorem Kp:T.many∩(1,Y0):=by
 exists T.many,S8,#[c,rfl,q],"+@YBF0.<lBF0.<lBF0",1;have b1:=bX (a:=c / 264) (b:=21) (by decide);have b2:=bX (a:=c / 3) (b:=11) (by decide);have nat:∀z:Int,2<=z->z<=40->Q (.int z) H:=λz h1 h2=>by have:=q z.toNat ∅ ∅;rwa [show((z.toNat:Nat):Int)=z by lia] at this
 k_in;lk;show nat _ ∅ ∅;show nat _ ∅ ∅
inductive Y3(vs:List V)(H:Hp)(Q:VK)(_:XK):Prop|mk(c p m:Int)(a:Addr)(ks:List Int)(_:vs=[.int c,.int p,.int m,.ref a])(_:0<=p)(_:p<m)(_:m<=1000)(_:H a=some^.lst^ks.map V.int)(_:0<ks.length)(_:ks.length<=1000)(_:(∀k∈ks,iK k))(_:∀q H' r,aA H H'->H' q=some^.tup^Row.vals r->r.ok m->r.pl->Q (.ref q) H')
theorem Ih:T.we∩(2,Y3):=by
 exists T.we,d7,#[c,p,m,a,ks,rfl,h0,h1,hm,ha,hk0,hk1,hb,q],"+/4B0+/5F0+uOH_LEV!1SBTÊ2V!=QQL0j!*1ËP?6P?7U?8+/9räåæ-R1*k2{@YBF5./9SF52+/:FF5+/;Z-=AQ-6-S&:TÍMM*9-=AQ-6-7*9*=AQ-§B&:-6-7-8*9+/;¯&;Z-=A-7*9-=A-7-9*S&:2-=A-7-S&:2*9*=A*7.<G&;4",12,"_law_x",["_law_pool_here", "_law_rest"],[3,5],["_law_rest", "_law_pool_here"],iC (K:=K) rfl,lZ (K:=K) rfl,mh (K:=K) rfl;have j7:(ks.map V.int).length=ks.length:=ao _;lk;show kq (λi ys H'=>aA H H'/\∃ls:List Int,ys=ls.map V.int/\ls.length=i/\∀k∈ls,iK k) #[aA.refl _,[],rfl,rfl,λk h=>nomatch h] ?_ ?_
 .rintro i ys H' hi ⟨sm,ls,rfl,hl,hlb⟩;have hi:i<3:=∅;show#[bV (by rw[ao];lia),?_];have ha':=sm _ _ ha;lk;rename_i t2 H2 n2;have ha2:=n2.keep ha';have b3:∃g:Int,tH [V.int 1,V.int 8,V.int 64] (0+((i:Nat):Int))=some^.int g/\0<g/\g<=64:=by rcases i with _|_|_|i;show#[1,rfl,by decide,by decide];show#[8,rfl,by decide,by decide];show#[64,rfl,by decide,by decide];lia
  let#[g,hg,g0,g1]:=b3;show Af (dJ.of n2.self) hg ?_;lk;rw[j7];have bb:=bX (a:=c / 7 / g % 8) (b:=(ks.length:Int)) ∅;let#[v,hv,mv]:=D9 (ns:=ks) (i:=c / 7 / g % 8 % (ks.length:Int)) bb.1 bb.2;show cZ (bG.of ha2) hv ?_;show#[sm.trans n2.same,ls++[v],by rw[bA];rfl,by simp[hl],λk h=>?_];rcases aJ.mp h with h|h;show hlb k h;rw[ay.mp h];show hb v mv
 rintro ys H2 ⟨s2,ls,rfl,hl,hlb⟩ l H3 n3;have hl3:ls.length=3:=∅
 match ls,hl3 with
 | [k,i,j],_ =>
 have bk:=hlb k (by simp);have bi:=hlb i (by simp);have bj:=hlb j (by simp);have s3:aA H H3:=s2.trans n3.same;replace n3:fV H2 l (.lst [.int k,.int i,.int j]) H3:=n3;have b5:=bX (a:=c / 7 / 1536) (b:=m) ∅;have b6:=bX (a:=c / 7 / 1536 / 64) (b:=m) ∅;have bw:=bX (a:=c) (b:=7) (by decide);have hq1:j6 m (if m-1<p+1 then m-1 else p+1):=by split<;>show#[∅,∅]
 have bv:isVal ((c / 7 / 1536 / 64) % 2 ^ (48:Int).toNat):=bX (by decide);have b9:=bX (a:=c / 7 / 1536 / 64) (b:=9) (by decide);let#[ch,hch,Nf]:=Hu b9.1 b9.2;lk;show C3 (λσ' H'=>H'=H3/\∃q1:Int,j6 m q1/\σ'=[some^.int c,some^.int p,some^.int m,some^.ref a,some^.int (c % 7),some^.int (c / 7),some^.int k,some^.int i,some^.int j,some^.int q1,none,none]) ?_ ?_
 .lk;show#[rfl,_,b5,rfl];show#[rfl,_,hq1,rfl]
 rintro σ' H' ⟨e,q1,hq,rfl⟩;rw[e];clear e H';lk;show C4 (by decide) hch ?_;lk;rename_i t0 G0 m0 t1 G1 m1 t2 G2 m2 l3 G3 m3 t4 G4 m4 t5 G5 m5 t6 G6 m6 t7 G7 m7 l8 G8 m8 l9 G9 m9;have e8:aA G7 G9:=m8.same.trans m9.same;have e5:aA G4 G9:=m5.same.trans^m6.same.trans^m7.same.trans e8;have e3:aA G2 G9:=m3.same.trans^m4.same.trans e5;have sm:aA H G9:=s3.trans^m0.same.trans^m1.same.trans^m2.same.trans e3;have h0:=e3 _ _^m2.keep^m1.keep m0.self;have h1:=e3 _ _^m2.keep m1.self;have h2:=e3 _ _ m2.self;have h4:=e5 _ _ m4.self;have h5:=e8 _ _^m7.keep^m6.keep m5.self;have h6:=e8 _ _^m7.keep m6.self;have h7:=e8 _ _ m7.self;have LY:=bG.of (K:=K) m9.self;clear m0 m1 m2 m3 m4 m5 m6 m7 m8 m9 e3 e5 e8;generalize c % 7=z at bw;obtain rfl|rfl|rfl|rfl|rfl|rfl|rfl:z=0\/z=1\/z=2\/z=3\/z=4\/z=5\/z=6:=∅;show cZ LY rfl^q t0 G9 (.num 2 k _ q1) sm h0 #[#[by decide,by decide],bk,bv,hq] rfl;show cZ LY rfl^q t1 G9 (.copy 2 k i q1) sm h1 #[#[by decide,by decide],bk,bi,hq] rfl;show cZ LY rfl^q t2 G9 (.op 2 #[#v[ch]] k i j q1) sm h2 #[#[by decide,by decide],Nf,bk,bi,bj,hq] rfl;show cZ LY rfl (q t4 G9 (.out i q1) sm h4 #[bi,hq] trivial);show cZ LY rfl (q t5 G9 (.fork i q1 _) sm h5 #[bi,hq,b6] trivial);show cZ LY rfl (q t6 G9 (.fork i _ q1) sm h6 #[bi,b6,hq] trivial);show cZ LY rfl (q t7 G9 (.back i) sm h7 bi trivial)
noncomputable def Row.pre:Row->List V
 | .num d k v _=>[.str "num", .int d,.int k,.int v]|.copy d k i _=>[.str "copy", .int d,.int k,.int i]|.op d s k i j _=>[.str "op", .int d,.str s,.int k,.int i,.int j]
 | .out i _=>[.str "out", .int i]|.fork i _ _=>[.str "fork", .int i]|.look i _=>[.str "look", .int i]|.mark _=>[.str "mark"]|.back i=>[.str "back", .int i]
def ER(r:Row):r.vals=r.pre++r.ways.map V.int:=by cases r<;>rfl
def UA(f:Int->Int)(r:Row):(r.d8 f).vals=r.pre++(r.ways.map f).map V.int:=by cases r<;>rfl
def Q8(r:Row):1<=r.pre.length/\r.pre.length<=6:=by cases r<;>show#[by simp[Row.pre],by simp[Row.pre]]
def ML(r:Row)(h:¬r.key = "back"):(-1-if decide (r.key = "fork")=true then 1 else 0:Int) = - (r.ways.length:Int)/\0<r.ways.length:=by
 cases r
 case back=>show absurd rfl h
 all_goals show#[rfl,by simp[Row.ways]]
theorem Kq(h0:0<k)(h:k<=n)(d:Nat):HT.fz n d^some (-(k:Int))=n-k:=by erw[HT.fz];split;lia;lia
theorem UB(xs ys:List V)(h:0<ys.length):gc (xs++ys) (some (-(ys.length:Int))) none=ys:=by unfold gc;rw[Kq h (by rw[aF];lia),HT.xr,aF];rw[show xs.length+ys.length-ys.length=xs.length by lia,List.drop_left,show xs.length+ys.length-xs.length=ys.length by lia,bU]
theorem Y4(xs ys:List V):gc (xs++ys) none^some (xs.length:Int)=xs:=by
 unfold gc;have e:HT.fz (xs++ys).length (xs++ys).length^some (xs.length:Int)=xs.length:=by simp[HT.fz];lia
 have e0:HT.fz (xs++ys).length 0 none=0:=rfl;rw[e,e0];simp
inductive adx(vs:List V)(H:Hp)(Q:VK)(_:XK):Prop|mk(a:Addr)(r:Row)(_:vs=[.ref a])(_:H a=some^.tup r.vals)(_:∀l H',fV H l (.lst^r.ways.map V.int) H'\/(∃t H1,fV H t (.tup^r.ways.map V.int) H1/\fV H1 l (.lst^r.ways.map V.int) H')->Q (.ref l) H')
theorem ES:T.D8∩(1,adx):=by
 exists T.D8,PX,#[a,r,rfl,ha,q],"+@o>0.<N.<b'Gq îï*­0¦Tñ·b'K0 'T.VE 'BT.U9 *Î>0Ï",1;by_cases hk:r.key = "back"
 .lk;rename_i l H1 n1;have:r.ways=[]:=by cases r<;>first|rfl|show absurd hk (by erw[Row.key];decide)
  show q l H1^.inl (by rw[this];show n1)
 let#[e1,hw0]:=ML r hk;have hw2:=Row.ji r;have hpr:=Q8 r;have hv:=ER r;have hwl:(r.ways.map V.int).length=r.ways.length:=ao _;have c1:=UB r.pre (r.ways.map V.int) ∅;rw[hwl] at c1;lk;rw[e1];have ha':=ha;rw[hv] at ha';show Ag (dJ.of ha') ?_ ?_;rw[Kq hw0 (by rw[aF];lia),aF];lia;intro t1 H1 n1;rw[c1] at n1;lk;rename_i l2 H2 n2;show q l2 H2^.inr #[t1,H1,n1,n2]
structure Line (rs:List Row) (ls:List Nat) (k:Nat):Prop where
 nd:ls.Nodup
 lt:∀p∈ls,p<rs.length
 rc:∀p∈ls,uw rs p
 z:0∈ls
 cl:∀j p r,j<k->ls[j]?=some p->rs[p]?=some r->∀q:Nat,(q:Int)∈r.ways->q∈ls
def Line.len(h:Line rs ls k):ls.length<=rs.length:=by have:=kC h.nd (ys:=List.range rs.length) λx hx=>f6.mpr^h.lt x hx;rwa [lK] at this
theorem Line.step{rs:List Row}{ls ms:List Nat}{k p:Nat}{r:Row}(h:Line rs ls k)(hok:∀r∈rs,r.ok rs.length)(hp:ls[k]?=some p)(hr:rs[p]?=some r)(hn:ms.Nodup)(hm:∀q,q∈ms↔(q:Int)∈r.ways/\q∉ls):Line rs (ls++ms) (k+1):=by
 have hpl:=gq hp;have wl:∀q:Nat,(q:Int)∈r.ways->q<rs.length:=λq hq=>by have:=Row.ja (hok r^gq hr) _ hq;lia
 show#[?_,λq hq=>?_,λq hq=>?_,iw _ h.z,λj p' r' hj IM hr' q hq=>?_];rw[f7];show#[h.nd,hn,λa ha b hb e=>((hm b).mp hb).2 (e▸ha)];rcases aJ.mp hq with hq|hq;show h.lt q hq;show wl q ((hm q).mp hq).1;rcases aJ.mp hq with hq|hq;show h.rc q hq;show .step (h.rc p hpl) hr ((hm q).mp hq).1
 .have j7:=(e9 hp).1;rw[jR ∅] at IM;rcases bE j k with hlt|hge;show iw _^h.cl j p' r' hlt IM hr' q hq
  .obtain rfl:j=k:=∅;rw[hp] at IM;cases IM;rw[hr] at hr';cases hr';by_cases hin:q∈ls;show iw _ hin;show dZ _^(hm q).mpr #[hq,hin]
def nk(rs:List Row)(ks:List Nat):List Row:=ks.map λp=>((rs[p]?).getD^.back 0).d8 λq=>((ks.idxOf q.toNat:Nat):Int)
def ET{ks:List Nat}(hi:ks[i]?=some p)(hr:rs[p]?=some r):(nk rs ks)[i]?=some (r.d8 λq=>((ks.idxOf q.toNat:Nat):Int)):=by unfold nk;rw[aV,hi];change some^(rs[p]?.getD^.back 0).d8 _=_;rw[hr];rfl
def Kr{ks:List Nat}(h:r∈nk rs ks)(hl:∀p∈ks,p<rs.length):∃p r0,p∈ks/\rs[p]?=some r0/\r=r0.d8 λq=>((ks.idxOf q.toNat:Nat):Int):=by let#[p,hp,rfl]:=aE.mp h;have hr:=fh^hl p hp;show#[p,_,hp,hr,by rw[hr];rfl]
theorem UC{ks:List Nat}(h:Line rs ls k)(hk:ls.length<=k)(hok:∀r∈rs,r.ok rs.length)(hpl:∀r∈rs,r.pl)(pm:ks.Perm ls)(up:ks.Pairwise (· < ·)):(∀r∈nk rs ks,r.ok (nk rs ks).length)/\(∀r∈nk rs ks,r.pl)/\(∀p,p<(nk rs ks).length->uw (nk rs ks) p):=by
 have len:(nk rs ks).length=ks.length:=ao _;have lt:∀p∈ks,p<rs.length:=λp hp=>h.lt p^pm.mem_iff.mp hp;have cl:∀p r,p∈ks->rs[p]?=some r->∀q∈r.ways,∃q':Nat,q=(q':Int)/\q'∈ks:=λp r hp hr q hq=>by have:=Row.ja (hok r^gq hr) q hq;obtain⟨q',rfl⟩:∃q':Nat,q=(q':Int):=#[q.toNat,∅];let#[j,hj,e]:=jS.mp^pm.mem_iff.mp hp;show#[q',rfl,pm.mem_iff.mpr (h.cl j p r ∅ (by rw[fh hj,e]) hr q' hq)]
 have z0:ks.idxOf 0=0:=by
  have hz:=pm.mem_iff.mpr h.z;cases ks with
  | nil=>show nomatch hz
  | cons a ks =>
   rcases aG.mp hz with e|hz;rw[<- e];simp;show absurd ((qh.mp up).1 0 hz)^dU _
 have rch:∀{p:Nat},uw rs p->p∈ks/\uw (nk rs ks)^ks.idxOf p:=λ{p} hp=>by
  induction hp with
  | zero=>rw[z0];show#[pm.mem_iff.mpr h.z,.zero]
  | @step p q r _ hr w ih =>
   let#[q',e,hq]:=cl p r ih.1 hr _ w;obtain rfl:q=q':=∅;show#[hq,.step ih.2 (ET (p:=p) (by rw[fh^wY.mpr ih.1];simp) hr) ?_];rw[(kE _ r).2.2.2];show aE.mpr #[_,w,by rw[jo]]
 show#[λr hr=>?_,λr hr=>?_,λi hi=>?_]
 .let#[p,r0,hp,hr0,rfl]:=Kr hr lt;rw[len];have hw:=cl p r0 hp hr0;have key:∀q∈r0.ways,j6 ks.length ((ks.idxOf q.toNat:Nat):Int):=λq hq=>by let#[q',rfl,hq']:=hw q hq;have:=wY.mpr hq';rw[jo];show#[∅,∅]
  have ro:=hok r0^gq hr0;cases r0 with
  | num d k v q=>show#[ro.1,ro.2.1,ro.2.2.1,key _^ay.mpr rfl]
  | copy d k i q=>show#[ro.1,ro.2.1,ro.2.2.1,key _^ay.mpr rfl]
  | op d s k i j q=>show#[ro.1,ro.2.1,ro.2.2.1,ro.2.2.2.1,ro.2.2.2.2.1,key _^ay.mpr rfl]
  | out i q=>show#[ro.1,key _^ay.mpr rfl]
  | fork i q p=>show#[ro.1,key _^aG.mpr^.inl rfl,key _^cM _^ay.mpr rfl]
  | look i q=>show#[ro.1,key _^ay.mpr rfl]
  | mark q=>show key _^ay.mpr rfl
  | back i=>show ro
 .let#[p,r0,hp,hr0,rfl]:=Kr hr lt;show QS^hpl r0^gq hr0
 .rw[len] at hi;have hm:ks[i]∈ks:=kK hi;have:=(rch^h.rc _^pm.mem_iff.mp hm).2;have nd:ks.Nodup:=up.imp λh e=>∅;rwa [nd.idxOf_getElem i hi] at this
theorem EU(x:Int):∀ns:List Int,uI (.int x)^ns.map V.int=decide (x∈ns)
 | []=>rfl
 | n::ns=>by rw[bR];change((n==x)||uI (.int x)^ns.map V.int)=_;rw[EU x ns];by_cases e:n=x;simp[e];have e':¬x=n:=λz=>e z.symm;simp[e,e']
def MM(ns:List Int):(ns.map V.int).all kU=true:=by rw[List.all_map];show List.all_eq_true.mpr λ_ _=>rfl
noncomputable def gD(ls:List Nat):List Int:=ls.map λ(p:Nat)=>(p:Int)
def pL(ls:List Nat):((gD ls).map V.int).length=ls.length:=by rw[ao];show ao _
theorem lE:(p:Int)∈gD ls↔p∈ls:=by unfold gD;rw[aE];show#[λ⟨a,h,e⟩=>by rwa [show p=a by lia],λh=>#[p,h,rfl]]
def AU(h:ls[j]?=some p):((gD ls).map V.int)[j]?=some^.int (p:Int):=by unfold gD;rw[aV,aV,h];rfl
theorem Cj:∀{ns:List Int},(∀n∈ns,0<=n)->∃ms:List Nat,ns=gD ms
 | [],_=>#[[],rfl]
 | n::ns,h=>by let#[ms,rfl]:=Cj λx hx=>h x^cM _ hx;have:=h n (by simp);show#[n.toNat::ms,by change _=((n.toNat:Nat):Int)::_;rw[Int.toNat_of_nonneg this];rfl]
def EV{ms:List Nat}(h:(gD ms).Nodup):ms.Nodup:=(jT.mp h).imp λh e=>h (by rw[e])
theorem AV(p:Nat):∀ks:List Nat,(gD ks).idxOf (p:Int)=ks.idxOf p
 | []=>rfl
 | k::ks=>by change(((k:Nat):Int)::gD ks).idxOf (p:Int)=_;rw[List.idxOf_cons,List.idxOf_cons,AV p ks];by_cases e:k=p;subst e;simp;have e':¬((k:Nat):Int)=(p:Int):=∅;rw[beq_false_of_ne e,beq_false_of_ne e']
theorem MN{ms:List Int}(pm:ms.Perm^gD ls)(up:ms.Pairwise (· <= ·))(nd:ls.Nodup):∃ks:List Nat,ms=gD ks/\ks.Perm ls/\ks.Pairwise (· < ·):=by
 let#[ks,rfl]:=Cj (ns:=ms) λn hn=>by let#[p,_,rfl]:=aE.mp^pm.mem_iff.mp hn;show Int.natCast_nonneg p
 have nd1:(gD ls).Nodup:=jT.mpr (nd.imp λh e=>h ∅);have ndk:ks.Nodup:=EV^pm.nodup_iff.mpr nd1;show#[ks,rfl,(List.perm_ext_iff_of_nodup ndk nd).mpr λp=>?_,?_];have:=pm.mem_iff (a:=(p:Int));rwa [lE,lE] at this;have h1:ks.Pairwise λ(a b:Nat)=>(a:Int)<=(b:Int):=jT.mp up;show(h1.and ndk).imp λ⟨h1,h2⟩=>∅
noncomputable def idV(ks:List Nat):V->V
 | .int z=>.int ((ks.idxOf z.toNat:Nat):Int)|v=>v
theorem MO{ks:List Nat}(h:Line rs ls k)(hk:ls.length<=k)(hok:∀r∈rs,r.ok rs.length)(pm:ks.Perm ls)(hp:p∈ks)(hr:rs[p]?=some r):∀q∈r.ways,∃q':Nat,q=(q':Int)/\q'∈ks:=λq hq=>by have:=Row.ja (hok r^gq hr) q hq;obtain⟨q',rfl⟩:∃q':Nat,q=(q':Int):=#[q.toNat,∅];let#[j,hj,e]:=jS.mp^pm.mem_iff.mp hp;show#[q',rfl,pm.mem_iff.mpr (h.cl j p r ∅ (by rw[fh hj,e]) hr q' hq)]
structure UD (rs:List Row):Prop where
 ok:∀r∈rs,r.ok rs.length
 pl:∀r∈rs,r.pl
 rc:∀p,p<rs.length->uw rs p
 ne:rs≠[]
inductive MP(vs:List V)(H:Hp)(Q:VK)(_:XK):Prop|mk(c:Addr)(us:List V)(rs:List Row)(_:vs=[.ref c])(_:H c=some^.lst us)(_:Rows H us rs)(_:(∀r∈rs,r.ok rs.length))(_:(∀r∈rs,r.pl))(_:0<rs.length)(_:rs.length<=40)(_:∀(l:Addr)(vs:List V)(rs':List Row)(H':Hp),aA H H'->H' l=some^.lst vs->Rows H' vs rs'->UD rs'->rs'.length<=40->Q (.ref l) H')
theorem Ii:T.wg∩(2,MP):=by
 exists T.wg,gm,#[c,us,rs,rfl,hc,rows,hok,hpl,h0,h40,q],"+/1ZL+/2M+¡XÓ2J*1+Ii1*OHCwÚ*±Û*:ES *G0G12gh!010./2R2+/3w'Hf *1+/4N+DC3?5+Ç6HC:ES *G05E!.IW4*T'Oq `'Sk G05d¦TñJ*G05J*6b¾¿À*6.<4",7,"_law_q",["_law_line"],[1],["_law_line"],zF (K:=K) rfl,(by with_unfolding_all rfl),"_law_q",["_law_kept"],[3],["_law_kept"],X4 (K:=K) rfl b7 PySem.F.slot_list_index PySem.F.type_list_index (LI (K:=K) rfl) (pv 1) (aa (pv 0) af);have FN:=rows.length;lk;rename_i l0 H1 n1;have fl:=n1.1;show o7 (λk σ' H'=>∃(ls:List Nat)(j:Nat),σ'=[some^.ref c,some^.ref l0,some^.int (j:Int),none,none,none,none]/\aA H H'/\H' l0=some^.lst^(gD ls).map V.int/\Line rs ls j/\j<=ls.length/\k=rs.length-j) ?_ ?_;show#[_,[0],0,rfl,n1.same,n1.self,#[by simp,λp hp=>by rw[ay.mp hp];show h0,λp hp=>by rw[ay.mp hp];show .zero,by simp,λj p r hj=>absurd hj^dU _],aM _,rfl];clear n1 H1;rintro k σ' H2 ⟨ls,j,rfl,s2,hl2,hL,hj,rfl⟩;have VH:=hL.len;have hln:=pL ls;lk
 .rename_i hlt;have hlt:j<ls.length:=∅;obtain⟨p,hp⟩:∃p,ls[j]?=some p:=#[_,fh hlt];have aib:=hL.lt p^gq hp;obtain⟨r,hr'⟩:∃r,rs[p]?=some r:=#[_,fh aib];have L7:=hok r^gq hr';let#[ra,zL,Cf]:=kD rows hr';show cZ (bG.of hl2) (fR^AU hp) ?_;show cZ (bG.of^s2 _ _ hc) zL ?_;lk;show#[ra,r,rfl,s2 _ _ Cf,λwl H3 hw=>?_];obtain⟨s3,hwl⟩:aA H2 H3/\H3 wl=some (.lst (r.ways.map V.int)):=by rcases hw with n|⟨t,Hx,n,n'⟩;show#[n.same,n.self];show#[n.same.trans n'.same,n'.self]
  clear hw;lk;show OH (bG.of hwl) (by have:=Row.ji r;lia) ?_;intro st H4 n4;lk;show Sw n4.self (λms nd hm=>?_) ?_;have:=SN.BA nd (ys:=r.ways) λn hn=>(hm n).mp hn;have:=Row.ji r;lia;intro qs so H5 up5 m5 n5;have s5:=(s3.trans n4.same).trans n5.same;have hso:=n5.self;have zx:=s5 _ _ hl2;clear n4 n5 s3 hwl;lk;have hql:qs.length<=2:=by have nd:qs.Nodup:=up5.imp λh e=>∅;have:=SN.BA nd (ys:=r.ways) λn hn=>(m5 n).mp hn;have:=Row.ji r;lia
  show fM (xs:=qs.map V.int) (λi ys H'=>H'=H5/\ys=((qs.take i).filter λz=>!decide (z∈gD ls)).map V.int) #[rfl,rfl] ?_ ?_ ?_;rintro i ys H' _ ⟨rfl,_⟩;show bG.of hso
  .rintro i x ys H' hx ⟨rfl,rfl⟩;rw[aV] at hx;let#[z,hz,rfl]:=cG.mp hx;show#[bV (by rw[ao];have:=ju (λz=>!decide (z∈gD ls))^qs.take i;rw[cu] at this;lia),?_];have tk:qs.take (i+1)=qs.take i++[z]:=by rw[bT,hz];rfl
   lk;show aaC (.inl^bG.of zx) rfl (MM _) ?_;rw[EU];by_cases hm:z∈gD ls
   .rw[decide_eq_true hm];lk;show#[rfl,by rw[tk,jr];simp[hm]]
   .rw[decide_eq_false hm];lk;show#[rfl,by rw[tk,jr,bA];simp[hm]]
  rintro ys H6 ⟨rfl,rfl⟩ ex H7 n7;rw[ao,bU] at n7;let#[ms,hms]:=Cj (ns:=qs.filter λz=>!decide (z∈gD ls)) λn hn=>(Row.ja L7 n^(m5 n).mp (dS.mp hn).1).1;rw[hms] at n7;have hmm:∀z:Nat,z∈ms↔(z:Int)∈r.ways/\z∉ls:=λz=>by rw[<- lE,<- hms,dS,m5];simp[lE]
  have hmn:ms.Nodup:=EV (by rw[<- hms];show List.Pairwise.filter _ (up5.imp λh e=>∅));have hL':=hL.step hok hp hr' hmn hmm;have hml:=pL ms;have hl':=hL'.len;rw[aF] at hl';have Wd:=n7.keep zx;have hex:=n7.self;have s7:=(s2.trans s5).trans n7.same;clear n7 hso zx s5 m5 up5;lk;rename_i H8 p8;show#[_,(by lia:rs.length-(j+1)<rs.length-j),ls++ms,j+1,rfl,p8.same s7 fl,by rw[p8.self];unfold gD;rw[<- bA,<- bA],hL',by rw[aF];lia,rfl]
 rename_i hlt;have hjl:ls.length<=j:=∅;have fso:∀{x:Addr}{o:HO},H2 x=none->H2 l0=some o->x≠l0:=λa b e=>by rw[e,b] at a;cases a
 lk;show S6 (bG.of hl2) (by have:=ao (as:=ls) (λ(p:Nat)=>(p:Int));unfold gD;lia) ?_;intro ms so H3 pm up n3;let#[ks,rfl,pk,uk]:=MN pm up hL.nd;let#[kok,kpl,krc]:=UC hL hjl hok hpl pk uk;have s3:=s2.trans n3.same;have hso:=n3.self;have fso:=s2.free n3.1;clear n3 hl2 pm up;lk;rename_i rl H4 n4;have j7:ks.length=ls.length:=pk.length_eq;have s4:=s3.trans n4.same;have aid:=n4.keep hso;have hrl:=n4.self;have frl:=s3.free n4.1;have hne:so≠rl:=λe=>by rw[e,n4.1] at hso;cases hso
 clear n4 s3 hso;show f_list (xs:=(gD ks).map V.int) (λi σ' H'=>(∃y z,σ'=[some^.ref c,some^.ref l0,some^.int (j:Int),some^.ref so,some^.ref rl,y,z])/\aA H H'/\H' so=some^.lst^(gD ks).map V.int/\∃vs:List V,H' rl=some^.lst vs/\Rows H' vs^(nk rs ks).take i) ?_ ?_ ?_ ?_;show#[#[_,_,rfl],s4,aid,[],hrl,.nil];rintro i σ' H' _ ⟨_,_,hs,_⟩;show bG.of hs
 .rintro i x σ' H5 hx ⟨⟨y,z,rfl⟩,s5,ady,vs,UE,qa⟩;have hi:i<ks.length:=by have:=(e9 hx).1;rwa [pL] at this
  have hp:ks[i]?=some ks[i]:=fh hi;generalize ks[i]=p at hp;rw[AU hp] at hx;cases hx;have hpm:=gq hp;have aie:=hL.lt p^pk.mem_iff.mp hpm;obtain⟨r,hr'⟩:∃r,rs[p]?=some r:=#[_,fh aie];have hcl:=MO hL hjl hok pk hpm hr';let#[ra,zL,Cf]:=kD rows hr';have hw2:=Row.ji r;lk;show cZ (bG.of^s5 _ _ hc) zL ?_;lk;show#[ra,r,rfl,s5 _ _ Cf,λwl H6 hw=>?_];obtain⟨s6,hwl⟩:aA H5 H6/\H6 wl=some (.lst (r.ways.map V.int)):=by rcases hw with n|⟨t,Hx,n,n'⟩;show#[n.same,n.self];show#[n.same.trans n'.same,n'.self]
  clear hw;have Y5:=s6 _ _ ady;lk;show aa4 (idV ks) (bG.of hwl) (by rw[ao];lia) ?_ ?_
  .intro x hx Q h;let#[z,hz,rfl]:=aE.mp hx;let#[z',rfl,hz']:=hcl z hz;lk;show S7 (bG.of Y5) (by have:=ao (as:=ks) (λ(p:Nat)=>(p:Int));unfold gD;lia) (lE.mpr hz') ?_;rw[AV];show h
  intro pl H7 n7;rw[show(r.ways.map V.int).map^idV ks=(r.ways.map λq=>((ks.idxOf q.toNat:Nat):Int)).map V.int by rw[fJ,fJ];rfl] at n7;have Wd:((r.ways.map λq=>((ks.idxOf q.toNat:Nat):Int)).map V.int).length=r.ways.length:=by rw[ao,ao]
  have aif:(r.ways.map V.int).length=r.ways.length:=ao _;have s7:=(s5.trans s6).trans n7.same;have aih:=n7.keep^s6 _ _ UE;have Ub:H7 ra=some^.tup (r.pre++r.ways.map V.int):=by rw[<- ER];show s7 _ _ Cf
  have AW:=qa.same^s6.trans n7.same;have aii:=n7.keep Y5;have aij:=n7.self;have hc7:=s7 _ _ hc;have hpr:=Q8 r;have c2:=Y4 r.pre^r.ways.map V.int;clear n7 s6 s5 UE qa Y5 ady hwl;lk;show cZ (bG.of hc7) zL ?_;lk;show cZ (bG.of hc7) zL ?_;lk;rw[Wd,aF,aif,show((r.pre.length+r.ways.length:Nat):Int)-(r.ways.length:Int)=(r.pre.length:Int) by lia];show Xr Ub ?_;intro t8 H8 s8 ht8;rw[c2] at ht8;have ail:=s8 _ _ aij;lk;rename_i t9 H9 n9;show Sl (n9.keep ht8) n9.self (by rw[Wd];lia) ?_;intro ZG BY nC aim;have hs:=(s8.trans n9.same).trans nC;have adz:=hs _ _ aih;have hvl:=AW.length;rw[cu] at hvl;clear n9 ht8 ail s8 nC Ub;lk;rename_i JX vg;have adA:=jN adz vg;show#[#[_,_,rfl],vg.same (s7.trans hs) frl,vg.keep hne^hs _ _ aii,vs++[.ref ZG],vg.self,?_];rw[bT,ET hp hr'];show gU (Rows.gp adA^AW.same hs)^.cons #[ZG,rfl,by rw[UA];show adA _ _ aim] .nil
 rintro σ' H5 ⟨⟨y,z,rfl⟩,s5,_,vs,UE,qa⟩;have Y6:(nk rs ks).length=ks.length:=ao _;rw[pL,<- Y6,bU] at qa;lk;show q rl vs _ H5 s5 UE qa #[kok,kpl,krc,λe=>by rw[e] at Y6;have:=List.length_pos_of_mem^pk.mem_iff.mpr hL.z;simp at Y6;lia] ∅
inductive adB(K:az)(vs:List V)(H:Hp)(Q:VK)(_:XK):Prop|mk(a:Addr)(ns:List Int)(n:Nat)(_:vs=[.ref a,.int n])(_:bG K H a^ns.map V.int)(_:ns.length<=63)(_:0<n)(_:n<=40)(_:∀q H' us rs,aA H H'->H' q=some^.lst us->Rows H' us rs->UD rs->rs.length<=40->Q (.ref q) H')
theorem Y7:T.any∩(4,adB K):=by
 exists T.any,Ho,#[a,ns,n,rfl,hS,hn,h0,h1,q],"+/2:JR -0L+/3:qz -0*1.<:Ii *OH_*1E:Ih -V!30-0-1*2",4,"_law_p",["_law_many_here", "_law_pool_here", "_law_numbers_here"],[1,2,3],["_law_pool_here", "_law_numbers_here", "_law_many_here"],iC (K:=K) rfl;lk;show#[a,ns,8,rfl,hS,by decide,by decide,λp H1 ks s1 hp hk0 hk1 hkb=>?_];lk;show#[a,ns,n,rfl,s1.seq hS,hn,h0,∅,λc H2 cs s2 hc hcl=>?_];have hp2:=s2 _ _ hp;lk;show kq (λi ys H'=>aA H2 H'/\∃rs:List Row,Rows H' ys rs/\rs.length=i/\(∀r∈rs,r.ok n)/\∀r∈rs,r.pl) #[aA.refl _,[],.nil,rfl,(λr h=>nomatch h),λr h=>nomatch h] ?_ ?_
 .rintro i ys H' hi ⟨sm,rs,hrs,hlen,hok,hpl⟩;have hi:i<n:=∅;have hyl:=hrs.length;show#[bV ∅,?_];lk;let#[v,hv]:=wj (ns:=cs) (i:=0+((i:Nat):Int)) ∅ ∅;show cZ (bG.of^sm _ _ hc) hv ?_;lk;show#[v,_,n,p,ks,rfl,∅,∅,∅,sm _ _ hp2,hk0,hk1,hkb,λt H3 r s3 ht RI T6=>?_];show#[sm.trans s3,rs++[r],gU (hrs.same s3)^.cons #[t,rfl,ht] .nil,by simp[hlen],λx hx=>?_,λx hx=>?_];rcases aJ.mp hx with hx|hx;show hok x hx;rw[ay.mp hx];show RI;rcases aJ.mp hx with hx|hx;show hpl x hx;rw[ay.mp hx];show T6
 rintro ys H3 ⟨s3,rs,hrs,hlen,hok,hpl⟩ l H4 n4;have hln:rs.length=n:=∅;lk;show#[l,ys,rs,rfl,n4.self,hrs.same n4.same,by rw[hln];show hok,hpl,∅,∅,λb vs rs' H5 s5 hb qa ain zx=>?_];show q b H5 vs rs' ((((s1.trans s2).trans s3).trans n4.same).trans s5) hb qa ain zx
theorem qb{nms:List Str}(h8:nms.length<=8){x:Str}(hx:x∈nms):iK^jH nms x:=by have:=wY.mpr hx;unfold jH;constructor<;>lia
end
mutual
theorem Q9{nms:List Str}{n:Int}(h8:nms.length<=8):∀(s:S)(p e:Int),S.ok (· ∈ nms) s->0<=p->p+s.cnt<=n->0<=e->e<=n->∀r∈cV (jH nms) p e s,r.ok (n+1)
 | .num x v,p,e,h,hp,hc,he,hn,r,hr=>by
  erw[cV,ay] at hr;rw[hr];show#[by constructor<;>decide,qb h8 h.1,h.2,he,∅]
 | .copy x a,p,e,h,hp,hc,he,hn,r,hr=>by
  erw[cV,ay] at hr;rw[hr];show#[by constructor<;>decide,qb h8 h.1,qb h8 h.2,he,∅]
 | .op x o a b,p,e,h,hp,hc,he,hn,r,hr=>by
  erw[cV,ay] at hr;rw[hr];show#[by constructor<;>decide,h.2.1,qb h8 h.1,qb h8 h.2.2.1,qb h8 h.2.2.2,he,∅]
 | .out a,p,e,h,hp,hc,he,hn,r,hr=>by
  erw[cV,ay] at hr;rw[hr];show#[qb h8 h,he,∅]
 | .ifs a y m,p,e,h,hp,hc,he,hn,r,hr=>by
  rw[wD] at hc;erw[cV,aG,aJ] at hr;rcases hr with hr|hr|hr
  .rw[hr];show#[qb h8 h.1,?_,?_];split;show#[he,∅];show#[∅,∅];split;show#[he,∅];show#[∅,∅]
  .show oG h8 y (p+1) e h.2.1 ∅ ∅ he hn r hr
  .show oG h8 m (p+1+bZ y) e h.2.2 ∅ ∅ he hn r hr
 | .qF a b,p,e,h,hp,hc,he,hn,r,hr=>by
  rw[wF] at hc;erw[cV,aG] at hr;rcases hr with hr|hr
  .rw[hr];show#[qb h8 h.1,?_,he,∅];split;show#[hp,∅];show#[∅,∅]
  .show oG h8 b (p+1) p h.2 ∅ ∅ hp ∅ r hr
theorem oG{nms:List Str}{n:Int}(h8:nms.length<=8):∀(ss:List S)(p e:Int),S.ux (· ∈ nms) ss->0<=p->p+bZ ss<=n->0<=e->e<=n->∀r∈gC (jH nms) p e ss,r.ok (n+1)
 | [],_,_,_,_,_,_,_,r,hr=>by erw[gC] at hr;cases hr
 | s::ss,p,e,h,hp,hc,he,hn,r,hr=>by
  rw[fL] at hc;erw[gC,aJ] at hr;rcases hr with hr|hr
  .show Q9 h8 s p _ h.1 hp ∅ ?_ ?_ r hr;split;show he;lia;split;show hn;lia
  .show oG h8 ss (p+s.cnt) e h.2 ∅ ∅ he hn r hr
end
def Ra{x:Str}(h:x∈dR xs):x∈xs:=by
 have:∀(xs acc:List Str),x∈xs.foldl jm acc->x∈acc\/x∈xs:=by
  intro xs;induction xs with
  | nil=>intro acc h;show .inl h
  | cons z xs ih =>
   intro acc h;rcases ih _ h with h|h
   .unfold jm at h;split at h;show .inl h;rcases aJ.mp h with h|h;show .inl h;rw[ay.mp h];show .inr (by simp)
   .show .inr^cM _ h
 rcases this xs [] h with h|h;cases h;show h
theorem AX:∀{xs ys:List Str},xs.Nodup->(∀x∈xs,x∈ys)->xs.length<=ys.length
 | [],_,_,_=>aM _
 | x::xs,ys,h,q=>by rw[jv] at h;have hx:=q x (by simp);have:=AX (ys:=ys.erase x) h.2 λy hy=>(List.mem_erase_of_ne (λ(e:y=x)=>h.1 (by rw[<- e];show hy))).mpr (q y^by simp[hy]);rw[List.length_erase_of_mem hx] at this;have hp:=List.length_pos_of_mem hx;rw[ck];lia
mutual
theorem Y8{N:Str->Prop}:∀s:S,S.ok N s->∀x∈cj s.cR,N x
 | .num y n,h,x,hx=>by simp[S.cR,cj,S.own] at hx;rw[hx];show h.1
 | .copy y a,h,x,hx=>by
  simp[S.cR,cj,S.own] at hx;rcases hx with e|e<;>rw[e];show h.1;show h.2
 | .op y o a b,h,x,hx=>by
  simp[S.cR,cj,S.own] at hx;rcases hx with e|e|e<;>rw[e];show h.1;show h.2.2.1;show h.2.2.2
 | .out a,h,x,hx=>by simp[S.cR,cj,S.own] at hx;rw[hx];show h
 | .ifs a y n,h,x,hx=>by
  have e:cj (S.ifs a y n).cR=a::(cj^S.aU y++cj^S.aU n):=by simp[S.cR,cj,S.own]
  rw[e] at hx;rcases aG.mp hx with e|hx;rw[e];show h.1
  .rcases aJ.mp hx with hx|hx;show sI y h.2.1 x hx;show sI n h.2.2 x hx
 | .qF a b,h,x,hx=>by
  have e:cj (S.qF a b).cR=a::cj^S.aU b:=by simp[S.cR,cj,S.own]
  rw[e] at hx;rcases aG.mp hx with e|hx;rw[e];show h.1;show sI b h.2 x hx
theorem sI{N:Str->Prop}:∀ss:List S,S.ux N ss->∀x∈cj^S.aU ss,N x
 | [],_,x,hx=>by simp[S.aU,cj] at hx
 | s::ss,h,x,hx=>by
  have e:cj^S.aU (s::ss)=cj s.cR++cj^S.aU ss:=by simp[S.aU,cj]
  rw[e] at hx;rcases aJ.mp hx with hx|hx;show Y8 s h.1 x hx;show sI ss h.2 x hx
end
def Ij{pool ps:List Str}{ss:List S}(h8:pool.length<=8)(hp:∀x∈ps,x∈pool)(hs:S.ux (· ∈ pool) ss)(ha:gB∈pool):(gX ps ss gB).length<=8:=by
 show bg (AX (yT _) λx hx=>?_) h8;have:=Ra hx;rcases aJ.mp this with h|h
 .rcases aJ.mp h with h|h;show hp x h;show sI ss hs x h
 .rw[ay.mp h];show ha
def uE(ps:List Str)(ss:List S)(gB:Str):(lD ps ss gB).length=bZ ss+1:=by unfold lD;rw[aF,jO];rfl
theorem Rb{ps:List Str}{ss:List S}(h8:(gX ps ss gB).length<=8)(hs:S.ux N ss):∀r∈lD ps ss gB,r.ok (lD ps ss gB).length:=by
 intro r hr;rw[uE,show((bZ ss+1:Nat):Int)=(bZ ss:Int)+1 by lia];unfold lD at hr;rcases aJ.mp hr with hr|hr;show oG h8 ss 0 (bZ ss) (AR hs) ∅ ∅ ∅ ∅ r hr
 .rw[ay.mp hr];show qb h8^yV ps ss gB
mutual
theorem Rc(bx:Str->Int):∀(s:S)(p e:Int),∀r∈cV bx p e s,r.pl
 | .num ..,_,_,r,hr=>by erw[cV,ay] at hr;rw[hr];rfl
 | .copy ..,_,_,r,hr=>by erw[cV,ay] at hr;rw[hr];rfl
 | .op ..,_,_,r,hr=>by erw[cV,ay] at hr;rw[hr];rfl
 | .out ..,_,_,r,hr=>by erw[cV,ay] at hr;rw[hr];trivial
 | .ifs a y n,p,e,r,hr=>by
  erw[cV,aG,aJ] at hr;rcases hr with hr|hr|hr;rw[hr];trivial;show oH bx y _ _ r hr;show oH bx n _ _ r hr
 | .qF a b,p,e,r,hr=>by erw[cV,aG] at hr;rcases hr with hr|hr;rw[hr];trivial;show oH bx b _ _ r hr
theorem oH(bx:Str->Int):∀(ss:List S)(p e:Int),∀r∈gC bx p e ss,r.pl
 | [],_,_,r,hr=>by erw[gC] at hr;cases hr
 | s::ss,p,e,r,hr=>by erw[gC,aJ] at hr;rcases hr with hr|hr;show Rc bx s _ _ r hr;show oH bx ss _ _ r hr
end
def Rf(C:List Row)(p:Nat)(rows:List Row):Prop:=∀i r,rows[i]?=some r->C[p+i]?=some r
theorem Rf.app{C A B:List Row}(h:Rf C p (A++B)):Rf C p A/\Rf C (p+A.length) B :=
 #[λi r hr=>h i r (by rw[jR (e9 hr).1];show hr),λi r hr=>by rw[Nat.add_assoc];show h _ r (by rw[kJ ∅,Nat.add_sub_cancel_left];show hr)]
def Rf.tail{C B:List Row}{a:Row}(h:Rf C p (a::B)):Rf C (p+1) B:=(Rf.app (A:=[a]) h).2
mutual
theorem AY{bx:Str->Int}{C:List Row}:∀(s:S)(p e:Nat),Rf C p^cV bx p e s->uw C p->(∀i,i<s.cnt->uw C (p+i))/\uw C e
 | .num x n,p,e,h,hp=>by
  erw[cV] at h;show#[λi hi=>by rw[show i=0 from Nat.lt_one_iff.mp hi];show hp,.step hp (h 0 _ rfl)^ay.mpr rfl]
 | .copy x a,p,e,h,hp=>by
  erw[cV] at h;show#[λi hi=>by rw[show i=0 from Nat.lt_one_iff.mp hi];show hp,.step hp (h 0 _ rfl)^ay.mpr rfl]
 | .op x o a b,p,e,h,hp=>by
  erw[cV] at h;show#[λi hi=>by rw[show i=0 from Nat.lt_one_iff.mp hi];show hp,.step hp (h 0 _ rfl)^ay.mpr rfl]
 | .out a,p,e,h,hp=>by
  erw[cV] at h;show#[λi hi=>by rw[show i=0 from Nat.lt_one_iff.mp hi];show hp,.step hp (h 0 _ rfl)^ay.mpr rfl]
 | .ifs a y n,p,e,h,hp=>by
  rw[wD];erw[cV] at h;have hr:=h 0 _ rfl;let#[hy,hn]:=h.tail.app;rw[jO] at hn;have ky:(∀i,i<bZ y->uw C (p+1+i))/\uw C e:=by
   cases y with
   | nil=>show#[λi hi=>absurd hi^dU _,.step hp hr^aG.mpr^.inl rfl]
   | cons s ss=>show lF (s::ss) (p+1) e (by simp) hy^.step hp hr^aG.mpr^.inl rfl
  have kn:∀i,i<bZ n->uw C (p+1+bZ y+i):=by
   cases n with
   | nil=>show λi hi=>absurd hi^dU _
   | cons s ss=>show(lF (s::ss) (p+1+bZ y) e (by simp) hn^.step hp hr^cM _^ay.mpr rfl).1
  show#[λi hi=>?_,ky.2];rcases lN i with e0|h0;rw[e0];show hp;rcases bE i (1+bZ y) with h1|h1;rw[show p+i=p+1+(i-1) by lia];show ky.1 _ ∅;rw[show p+i=p+1+bZ y+(i-1-bZ y) by lia];show kn _ ∅
 | .qF a b,p,e,h,hp=>by
  rw[wF];erw[cV] at h;have hr:=h 0 _ rfl;have kb:∀i,i<bZ b->uw C (p+1+i):=by
   cases b with
   | nil=>show λi hi=>absurd hi^dU _
   | cons s ss=>show(lF (s::ss) (p+1) p (by simp) h.tail^.step hp hr^aG.mpr^.inl rfl).1
  show#[λi hi=>?_,.step hp hr^cM _^ay.mpr rfl];rcases lN i with e0|h0;rw[e0];show hp;rw[show p+i=p+1+(i-1) by lia];show kb _ ∅
theorem lF{bx:Str->Int}{C:List Row}:∀(ss:List S)(p e:Nat),ss≠[]->Rf C p^gC bx p e ss->uw C p->(∀i,i<bZ ss->uw C (p+i))/\uw C e
 | [],_,_,h,_,_=>absurd rfl h
 | s::ss,p,e,_,h,hp=>by
  rw[fL];erw[gC] at h;let#[h1,h2]:=h.app;rw[AO] at h2;cases ss with
  | nil =>
   let#[k1,k2]:=AY s p e h1 hp;show#[λi hi=>k1 i (by have:bZ ([]:List S)=0:=rfl;lia),k2]
  | cons t ts =>
   let#[k1,k2]:=AY s p (p+s.cnt) h1 hp;let#[k3,k4]:=lF (t::ts) (p+s.cnt) e (by simp) h2 k2;show#[λi hi=>?_,k4];rcases bE i s.cnt with hl|hg;show k1 i hl;rw[show p+i=p+s.cnt+(i-s.cnt) by lia];show k3 _ ∅
end
theorem MQ{ps:List Str}{ss:List S}(hne:ss≠[]):(∀r∈lD ps ss gB,r.pl)/\∀p,p<(lD ps ss gB).length->uw (lD ps ss gB) p:=by
 show#[λr hr=>?_,λp hp=>?_]
 .unfold lD at hr;rcases aJ.mp hr with hr|hr;show oH _ _ _ _ r hr;rw[ay.mp hr];trivial
 .have hE:Rf (lD ps ss gB) 0^gC (jH^gX ps ss gB) ((0:Nat):Int) (bZ ss:Nat) ss:=λi r hr=>by have hr:(gC (jH^gX ps ss gB) 0 (bZ ss) ss)[i]?=some r:=hr;unfold lD;rw[Nat.zero_add,jR (e9 hr).1];show hr
  let#[k1,k2]:=lF ss 0 (bZ ss) hne hE .zero;rw[uE] at hp;rcases bE p^bZ ss with hl|hg;rw[<- Nat.zero_add p];show k1 p hl;rw[show p=bZ ss by lia];show k2
noncomputable def ZI:List Str:=["a", "b", "c"]
theorem Wm{i:Int}(h0:0<=i)(h1:i<3):∃ch,tH (Str.ofString "abc").cps.toList i=some ch/\(#[#v[ch]]:Str)∈ZI:=by obtain rfl|rfl|rfl:i=0\/i=1\/i=2:=∅;show#[97,rfl,by decide];show#[98,rfl,by decide];show#[99,rfl,by decide]
inductive UG(vs:List V)(H:Hp)(Q:VK)(_:XK):Prop|mk(n:Int)(_:vs=[.int n])(_:∀v s H',aA H H'->c7 H' s v->S.ok (· ∈ ZI) s->s.rows=6/\s.cnt=4->Q v H')
section
variable (T:Txt w K mg)
theorem Rg:T.group∩(1,UG):=by
 exists T.group,lg,#[n,rfl,q],"+uOH_LE§BTÊ1V!=QQL0ËP?1P?2U?3+/4F0+/5=A-2-§BF4-3*1+@YB4.<=A-1*=-5-=A*3*=A-1*S4TÍMM.<=A-1-=*=A-3*2*=-5*=A*2",6,"_law_k",["_law_number"],[0],["_law_number"],lZ (K:=K) rfl;lk;show kq (λi ys H'=>aA H H'/\∃ls:List Str,ys=ls.map V.str/\ls.length=i/\∀k∈ls,k∈ZI) #[aA.refl _,[],rfl,rfl,λk h=>nomatch h] ?_ ?_
 .rintro i ys H' hi ⟨sm,ls,rfl,hl,hlb⟩;have hi:i<3:=∅;show#[bV (by rw[ao];lia),?_];lk;rename_i t2 H2 n2;have b3:∃g:Int,tH [V.int 1,V.int 3,V.int 9] (0+((i:Nat):Int))=some^.int g/\0<g/\g<=64:=by rcases i with _|_|_|i;show#[1,rfl,by decide,by decide];show#[3,rfl,by decide,by decide];show#[9,rfl,by decide,by decide];lia
  let#[g,hg,g0,g1]:=b3;show Af (dJ.of n2.self) hg ?_;lk;have bb:=bX (a:=n / g) (b:=3) (by decide);let#[ch,hch,Nf]:=Wm bb.1 bb.2;show C4 (by decide) hch ?_;show#[sm.trans n2.same,ls++[#[#v[ch]]],by rw[bA];rfl,by simp[hl],λk h=>?_];rcases aJ.mp h with h|h;show hlb k h;rw[ay.mp h];show Nf
 rintro ys H2 ⟨s2,ls,rfl,hl,hlb⟩ l H3 n3;have hl3:ls.length=3:=∅
 match ls,hl3 with
 | [x,y,z],_ =>
 have bx:=hlb x (by simp);have by_:=hlb y (by simp);have bz:=hlb z (by simp);have s3:aA H H3:=s2.trans n3.same;replace n3:fV H2 l (.lst [.str x,.str y,.str z]) H3:=n3;have bv:isVal ((n / 27) % 2 ^ (48:Int).toNat):=bX (by decide);have b9:=bX (a:=n / 27 / 2) (b:=9) (by decide);let#[ch,hch,Nf]:=Hu b9.1 b9.2;lk;show C4 (by decide) hch ?_;lk;rename_i t4 G4 m4 hev t5 G5 m5 t6 G6 m6 t7 G7 m7 t8 G8 m8;have e7:=m7.same.trans m8.same;have h4:=e7 _ _^m6.keep^m5.keep m4.self;have h5:=e7 _ _^m6.keep m5.self;have h6:=e7 _ _ m6.self;show q _ (.qF x [.op y #[#v[ch]] z x,.out z,.num x (n / 27 % 2 ^ (48:Int).toNat)]) G8 (s3.trans^m4.same.trans^m5.same.trans^m6.same.trans e7) ?_ ?_ #[rfl,rfl];erw[c7,bC];show#[t8,t7,_,rfl,m8.self,m8.keep m7.self,_,_,rfl,#[t4,rfl,h4],_,_,rfl,#[t5,rfl,h5],_,_,rfl,#[t6,rfl,h6],rfl];erw[S.ok,S.ux];show#[bx,#[by_,Nf,bz,bx],bz,#[bx,bv],trivial];rename_i t4 G4 m4 hev t5 G5 m5 t6 G6 m6 t7 G7 m7 t8 G8 m8 t9 G9 m9;have e8:=m8.same.trans m9.same;have h4:=e8 _ _^m7.keep^m6.keep^m5.keep m4.self;have h5:=e8 _ _^m7.keep^m6.keep m5.self;have h6:=e8 _ _^m7.keep m6.self;have h7:=e8 _ _ m7.self;show q _ (.ifs x [.copy z y] [.op y #[#v[ch]] z x,.out y]) G9 (s3.trans^m4.same.trans^m5.same.trans^m6.same.trans^m7.same.trans e8) ?_ ?_ #[rfl,rfl];erw[c7,bC];show#[t9,t6,t8,_,_,rfl,m9.self,h6,m9.keep m8.self,#[_,_,rfl,#[t5,rfl,h5],rfl],_,_,rfl,#[t4,rfl,h4],_,_,rfl,#[t7,rfl,h7],rfl];erw[S.ok,S.ux];show#[bx,#[#[bz,by_],trivial],#[by_,Nf,bz,bx],by_,trivial]
inductive Y9(K:az)(vs:List V)(H:Hp)(Q:VK)(_:XK):Prop|mk(a:Addr)(ns:List Int)(n:Nat)(_:vs=[.ref a,.int n])(_:bG K H a^ns.map V.int)(_:ns.length<=63)(_:0<n)(_:n<=30)(_:∀q H' us rs,aA H H'->H' q=some^.lst us->Rows H' us rs->UD rs->rs.length<=121->Q (.ref q) H')
theorem UH:T.long∩(5,Y9 K):=by
 exists T.long,JN,#[a,ns,n,rfl,hS,hn,h0,h1,q],"+s2C:qz -0*1E:Rg *0.<:Ur *=-=n-b¾¿À*2*§B:gT -0L",3;lk;show#[a,ns,n,rfl,hS,hn,h0,∅,λc H1 cs s1 hc hcl=>?_];lk;show fM (xs:=cs.map V.int) (λi ys H'=>aA H1 H'/\∃ss:List S,bC H' ss ys/\ss.length=i/\S.ux (· ∈ ZI) ss/\S.bY ss=6*i/\bZ ss=4*i) #[aA.refl _,[],by erw[bC],rfl,by erw[S.ux],by erw[S.bY],rfl] ?_ ?_ ?_;rintro i ys H' _ ⟨sm,_⟩;show bG.of^sm _ _ hc
 .rintro i x ys H' hx ⟨sm,ss,ZJ,hl,hok,hrw,hct⟩;rw[aV] at hx;let#[z,hz,rfl]:=cG.mp hx;have hi:=(e9 hz).1;have hyl:=bC.length ZJ;show#[bV ∅,?_];lk;show#[z,rfl,λv s H3 s3 rv sok srw=>?_];have e1:bZ [s]=s.cnt:=by rw[fL];rfl
  have e2:S.bY [s]=s.rows:=by erw[S.bY];rfl
  show#[sm.trans s3,ss++[s],bC.append (bC.one rv)^bC.mono (sT s3) _ _ ZJ,by rw[aF,hl];rfl,qG hok^Ug sok,by rw[iH,hrw,e2,srw.1];lia,by rw[oE,hct,e1,srw.2];lia]
 rintro ys H3 ⟨s3,ss,ZJ,hl,hok,hrw,hct⟩ l H4 n4;rw[ao,hcl] at hl hrw hct;have hyl:=bC.length ZJ;have HF:=n4.self;have aio:=bC.mono (sT n4.same) _ _ ZJ;have s4:=(s1.trans s3).trans n4.same;clear n4 ZJ s3 hc;lk;rename_i pa H5 n5 pb H6 n6;have s6:=n5.same.trans n6.same;show#[a,ns,1,rfl,(s4.trans s6).seq hS,by decide,λcc=>?_];lk;have bb:=bX (a:=cc) (b:=3) (by decide);let#[ch,hch,Nf]:=Wm bb.1 bb.2;show C4 (by decide) hch ?_;lk;rename_i pt H7 n7;have hne:ss≠[]:=λe=>by rw[e] at hl;simp at hl;lia
 let#[fpl,frc]:=MQ (ps:=["a"]) (gB:=#[#v[ch]]) hne;have fok:=Rb (Ij (pool:=ZI) (ps:=["a"]) (gB:=#[#v[ch]]) (by decide) (by decide) hok Nf) hok;have fln:=uE ["a"] ss #[#v[ch]];show#[.ref pt,["a"],ss,#[#v[ch]],(· ∈ ZI),rfl,#[pt,pa,pb,ys,rfl,n7.self,n7.keep^n6.keep n5.self,n7.keep n6.self,bC.mono (sT^s6.trans n7.same) _ _ aio],by decide,∅,hok,λb us H8 s8 fb hb QT=>?_];show q b H8 us _ (((s4.trans s6).trans n7.same).trans s8) hb QT #[fok,fpl,frc,λe=>by rw[e] at fln;simp at fln] ∅
theorem UI{rs:List Row}(hok:∀r∈rs,r.ok rs.length)(hpl:∀r∈rs,r.pl)(j8:∀k r t,(aD rs rs.length)[k]?=some r->t∈cF (aD rs rs.length) k->iL (aD rs rs.length) r t^cU (aD rs rs.length) ((k:Int),t)){zs:List HM.bB}(hin:∀z∈zs,z∈bq (aD rs rs.length) (aD rs rs.length).length)
  (hch:∀(i:Nat)(a b:HM.bB),zs[i]?=some a->zs[i+1]?=some b->b∈cU (aD rs rs.length) a){k x:Nat}{z:HM.bB}{R:Row}(hz:zs[k]?=some z)(ex:z.1=(x:Int))(hR:(aD rs rs.length)[x]?=some R)(hp:R.iM=true)(h0:x=0\/∃R',(aD rs rs.length)[x-1]?=some R'/\R'.iM=false):
  ∀(i:Nat)(a:HM.bB),zs[k+i]?=some a->a.1=((x+i:Nat):Int)/\∃R,(aD rs rs.length)[x+i]?=some R/\R.iM=true:=by
 let#[p,IM,hm,e]:=Mq hok hpl hR hp h0;let#[p2,k2,x2,r2,R2,_,_,hk2,ex2,ez2,_,_,_,he]:=wC hok hpl^hin z^gq hz;let#[rfl,rfl]:=jM hk2 (by have:=(jl IM).2;lia:0<cX rs p) ∅;have E:=he hm rfl;intro i a ha;have:=Kn hok hpl j8 (p:=p2) (t:=z.2) (zs.drop k) 0 (λy hy=>hin y^List.mem_of_mem_drop hy) (λj a b ha hb=>hch (k+j) a b (by rwa [nG] at ha) (by rw[nG] at hb;rwa [Nat.add_assoc])) (λb hb=>by
  rw[nG,Nat.add_zero,hz] at hb;cases hb;show#[Prod.ext (by rw[ex,e];rfl) rfl,E]) i a (by rwa [nG])
 rw[Nat.add_zero,<- e] at this;show this
theorem EW{ks zs:List HM.bB}{L:HM.bB->List HM.bB}(hL:∀k∈ks,∀o∈L k,o∈ks)(h0:∀x,zs[0]?=some x->x∈ks)(hc:∀(i:Nat)(x y:HM.bB),zs[i]?=some x->zs[i+1]?=some y->y∈L x):∀(i:Nat)(x:HM.bB),zs[i]?=some x->x∈ks
 | 0,x,h=>h0 x h
 | i+1,x,h=>by have hi:=(e9 h).1;have hy:zs[i]?=some zs[i]:=fh ∅;show hL _ (EW hL h0 hc i _ hy) x^hc i _ x hy h
inductive UJ(vs:List V)(H:Hp)(Q:VK)(_:XK):Prop|mk(a:Addr)(r:Row)(_:vs=[.ref a])(_:H a=some^.tup r.vals)(_:Q (.bl r.iM) H)
def uF:T.uo∩(1,UJ):=by exists T.uo,LL,#[a,r,rfl,ha,q],".<ùÎ>0ÏúÎ>0Ï",1;cases r<;>(erw[Row.vals,Row.key,Row.rest] at ha;lk;show q)
set_option maxHeartbeats 8000000 in
theorem Za(hB:base.BuiltinsAt mg cK):T.law∩(12,B5 K):=by
 exists T.law,jx,#[#[a,ns,rfl,hS,hn,q],htb],"+/1F:gT -0L+/2:zN -0-:Kp *1L{ðYBF1./2:UH -0*lBF1.@XéBF1M./2:Y7 -0*:Kp *1+/3:Ms *2+/4:QB *3Ì@]p¨yrÐÑÒ-4*!pyrÐÑÒ-4*!v¨û4RJ*3.º+/5á'T.longest !*3Ì@]p¨yrÐÑÒ-5*!vXèJ*54.º+s6C5E´!0+DçQ*J*6?7+/8G67.@]£y:uF *G38³]pY8v¨y:uF *G3k8+/9`ª6¦7d.@]pX!9ü-8*c8J*9v¨yr!'T.aby 'BT.aau *OHC9E:uF *V!10.º.º",10,Ba (v:=.ty "int") rfl T.VE BT.U9 rfl,Ba (v:=.ty "bool") rfl T.X5 BT.W2 rfl,HQ T hB,Ba (v:=.ty "list") rfl T.qy BT.tM rfl,lZ (K:=K) rfl,Xo hr.units,K6 rfl,"_law_q",["_law_hard"],[3],["_law_hard"],iC (K:=K) rfl;lk;show#[a,ns,0,rfl,hS,by decide,λc0=>?_];lk;show#[_,rfl,λn h2 h40=>?_];lk;show#[a,ns,n,8,rfl,hS,hn,∅,∅,by decide,by decide,λc1 H1 us rs s1 hc1 nj hlen hok hpl YR=>?_];lk;have bl:=bX (a:=c0 / 2 / 270336) (b:=16) (by decide);show C3 (λσ' H'=>∃(c:Addr)(us:List V)(rs:List Row),σ'=[some^.ref a,some^.int (c0 / 2),some^.ref c,none,none,none,none,none,none,none]/\aA H H'/\H' c=some^.lst us/\Rows H' us rs/\UD rs/\rs.length<=121) ?_ ?_
 .lk
  .show#[a,ns,(15+c0 / 2 / 270336 % 16).toNat,by rw[Int.toNat_of_nonneg ∅],s1.seq hS,hn,∅,∅,λq2 H2 Uc rs2 s2 hq2 vp all2 hl2=>?_];lk;show#[q2,Uc,rs2,rfl,s1.trans s2,hq2,vp,all2,hl2]
  .show#[_,rfl,λn' h2' aiq=>?_];lk;show#[a,ns,n',rfl,s1.seq hS,hn,∅,aiq,λq2 H2 Uc rs2 s2 hq2 vp all2 hl2=>?_];lk;show#[q2,Uc,rs2,rfl,s1.trans s2,hq2,vp,all2,∅]
  .show#[c1,us,rs,rfl,s1,hc1,nj,#[by rw[hlen];show hok,hpl,by rw[hlen];show YR,λe=>by rw[e] at hlen;have:n=0:=hlen.symm;lia],∅]
 clear hc1 nj hlen hok hpl YR s1 H1 us rs c1;rintro σ' H1 ⟨c,us,rs,rfl,s1,hc,rows,all,hlen⟩;have adC:Mi H1:=.inl^s1 _ _ htb;lk;show#[c,us,rs,rfl,hc,rows,all.ok,∅,λg vs H2 s2 fg hg vp=>?_];have hlh:=eT (rs:=rs) (p:=rs.length)^av _;have hfl:=uv rs rs.length;have QE:=Kh all.ok;have adD:=adC.same s2;have hvl:=vp.length;have YH:aD rs rs.length≠[]:=λe=>by have:=(jl (rs:=rs) (p:=0)^List.length_pos_iff.mpr all.ne).1;rw[e] at hlh;have:0=firstM rs rs.length:=hlh;lia
 clear s1 adC hc rows s2 fg htb hS;lk;show#[g,vs,_,rfl,hg,vp,QE,∅,YH,λCL j8=>?_];let#[#[F0,hF0],hdl]:=HU all.ok all.pl all.rc all.ne CL j8;show#[λH3 _ no=>absurd hF0^no F0,λm H3 s3 dl=>?_];let#[m1,m2]:=hdl m dl;have ZA:=s3 _ _ hg;have Rh:=vp.same s3;have uu:=adD.same s3;clear s3 hg vp adD;lk;show#[g,vs,_,rfl,ZA,Rh,QE,∅,uu,λ_ _=>#[λH4 _ no=>absurd hF0^no F0,λb ws F H4 s4 acC fb hb adE hws=>?_]];have hLo:∀k∈bq (aD rs rs.length) (aD rs rs.length).length,∀o∈cU (aD rs rs.length) k,o∈bq (aD rs rs.length) (aD rs rs.length).length:=λk hk o ho=>(CL.2.2 k hk).2 o ho;have hwl:=T3 (n0:=(bq (aD rs rs.length) (aD rs rs.length).length).length) CL.1 hLo adE dl;let#[w0,hch]:=AK (L:=cU^aD rs rs.length) (g:=iG F (bq (aD rs rs.length) (aD rs rs.length).length).length) (bq (aD rs rs.length) (aD rs rs.length).length).length^bq (aD rs rs.length) (aD rs rs.length).length;generalize kQ (cU^aD rs rs.length) (iG F (bq (aD rs rs.length) (aD rs rs.length).length).length) (bq (aD rs rs.length) (aD rs rs.length).length).length^bq (aD rs rs.length) (aD rs rs.length).length=zs at hwl w0 hch hws;have hin:=EW hLo w0 hch;have hwp:=@UI rs all.ok all.pl j8 zs (λz hz=>by let#[i,hi,e]:=jS.mp hz;show hin i z^by rw[fh hi,e]) hch;have ais:=hws.length;have T9:=s4 _ _ (uu.ne ZA λ_ z=>nomatch z) ZA;have yQ:=Rows.gp (kr.tups uu s4) Rh;clear s4 ZA Rh uu fb adE hF0 hdl w0 CL j8 F F0 dl;have hwm:(ws.length:Int)=m:=∅;lk
 first|focus (show aaG (pO.lst hb) rfl ?_;lk;done)|skip
 show fM (xs:=ws) (λi ys H'=>H'=H4/\ys=((zs.take i).map (·.1)).map V.int) #[rfl,rfl] ?_ ?_ ?_;rintro i ys H' _ ⟨rfl,_⟩;show bG.of hb
 .rintro i x ys H' hx ⟨rfl,rfl⟩;let#[z,hz,ha,u,rfl,hh,_]:=bu hws hx;have hi:=(e9 hz).1;show#[bV (by rw[ao,ao,cu];lia),?_];lk;show#[rfl,by rw[bT,hz];simp]
 rintro ys H5 ⟨rfl,rfl⟩ l H6 n6;rw[ais,bU] at n6;have hlp:((zs.map (·.1)).map V.int).length=zs.length:=by rw[ao,ao]
 have VR:=n6.self;have hg6:=n6.keep T9;have adF:=yQ.same n6.same;clear n6 hb hws T9 yQ;lk;show Br (λi σ' H'=>(∃y z w,σ'=[some^.ref a,some^.int (c0 / 2),some^.ref c,some^.ref g,some^.int m,some^.ref b,some^.ref l,y,z,w])/\aA H6 H') #[#[_,_,_,rfl],aA.refl _] ?_ ?_
 .rintro i σ' H7 hi ⟨⟨y,z,w',rfl⟩,s7⟩;rw[hlp] at hi;have hi:i+1<zs.length:=∅;have hzk:zs[i+1]?=some zs[i+1]:=fh hi;generalize zs[i+1]=zk at hzk;let#[x,hx,exz,_]:=jj.mp^hin _ _ hzk;have hR:(aD rs rs.length)[x]?=some (aD rs rs.length)[x]:=fh hx;generalize (aD rs rs.length)[x]=R at hR;have Wd:=s7 _ _ VR;have Ua:=s7 _ _ hg6;have AW:=adF.same s7;let#[ra,zL,Cf]:=kD AW hR;lk;show cZ (bG.of Wd) (v:=.int (x:Int)) (by rw[show(1:Int)+(i:Int)=((i+1:Nat):Int) by lia];show fR ?_;rw[aV,aV,hzk,<- exz];rfl) ?_;lk;have P1:gc ((zs.map (·.1)).map V.int) (some (1+(i:Int))) none=((zs.drop (i+1)).map (·.1)).map V.int:=by unfold gc;rw[show(1:Int)+(i:Int)=((i+1:Nat):Int) by lia,HT.xr,HT.IB,hlp,<- List.map_drop,<- List.map_drop,Nat.min_eq_left ∅];show List.take_of_length_le (by rw[ao,ao,wZ];lia)
  have fin:(R.iM=true)->(x=0\/∃R',(aD rs rs.length)[x-1]?=some R'/\R'.iM=false)->kt0 H7:=λhp h0=>by
   have hw:=hwp hzk exz hR hp h0;have hrest:(zs.drop (i+1)).map (·.1)=(List.range (zs.length-(i+1))).map λ(j:Nat)=>((x:Nat):Int)+(j:Int):=by
    apply sQ;intro j;rw[aV,aV,nG];rcases bE j (zs.length-(i+1)) with hj|hj
    .have hz:zs[i+1+j]?=some zs[i+1+j]:=fh ∅;rw[hz,wV hj];change some zs[i+1+j].1=some (((x:Nat):Int)+(j:Int));rw[(hw j _ hz).1,Int.natCast_add]
    .rw[iO ∅,iO (by rw[lK];lia)];rfl
   show LR H7 ?_;clear LR LS;lk;rename_i rl H8 n8;rw[P1,hrest] at n8;have hrl:=n8.self;have hnl:((List.map V.int ((List.range (zs.length-(i+1))).map λ(j:Nat)=>((x:Nat):Int)+(j:Int))).length)=zs.length-(i+1):=by rw[ao,ao,lK]
   show K9 ?_;lk;show#[(x:Int),(x:Int)+((zs.length-(i+1):Nat):Int),by rw[hnl],#[∅,∅,∅,∅],∅,λp IM=>?_];rw[show((x:Int)+((zs.length-(i+1):Nat):Int)-(x:Int)).toNat=zs.length-(i+1) by lia,show Bt (x:Int) (zs.length-(i+1))=((List.range (zs.length-(i+1))).map λ(j:Nat)=>((x:Nat):Int)+(j:Int)).map V.int by unfold Bt;rw[fJ];rfl];have np:fV H8 p (.lst^((List.range (zs.length-(i+1))).map λ(j:Nat)=>((x:Nat):Int)+(j:Int)).map V.int)^upd H8 p^.lst^((List.range (zs.length-(i+1))).map λ(j:Nat)=>((x:Nat):Int)+(j:Int)).map V.int:=#[IM,rfl];generalize upd H8 p _=H9 at np ⊢;have adG:=np.keep hrl;have hg9:=np.keep^n8.keep Ua;have s9:=n8.same.trans np.same;show Xp (.list^((List.range (zs.length-(i+1))).map λ(j:Nat)=>((x:Nat):Int)+(j:Int)).map PyData.int) 1 (by decide) (.lst (bG.of adG)^Gu.ints _) (.lst (bG.of np.self)^Gu.ints _) Sh.ints ?_;clear np n8 hrl;lk;show fM (xs:=((List.range (zs.length-(i+1))).map λ(j:Nat)=>((x:Nat):Int)+(j:Int)).map V.int) (λj ys H'=>H'=H9/\ys=(List.replicate j true).map V.bl) #[rfl,rfl] ?_ ?_ ?_;rintro j ys H' _ ⟨rfl,_⟩;show bG.of adG
   .rintro j v ys H' hv ⟨rfl,rfl⟩;have hj:=(e9 hv).1;rw[hnl] at hj;rw[aV,aV,wV hj] at hv;cases hv;have hz:zs[i+1+j]?=some zs[i+1+j]:=fh ∅;let#[Rj,hRj,hpj]:=(hw j _ hz).2;let#[rc,YR,ait]:=kD (AW.same s9) hRj;rw[Int.natCast_add] at YR;show#[bV (by rw[ao,List.length_replicate];lia),?_];lk;show cZ (bG.of hg9) YR ?_;lk;show#[rc,Rj,rfl,ait,?_];rw[hpj];show#[rfl,by rw[List.replicate_succ',bA];rfl]
   rintro ys BY ⟨rfl,rfl⟩ bl' JX qB;lk;show aaW (bs:=List.replicate _ true) (bG.of qB.self) ?_;rw[show ∀n,(List.replicate n true).all id=true by simp];lk;show#[#[_,_,_,rfl],(s7.trans s9).trans qB.same]
  clear LR;show cZ (bG.of Ua) zL ?_;lk;show#[ra,R,rfl,Cf,?_];by_cases hp:R.iM=true
  .rw[hp];lk;rename_i hx0;show fin hp (.inl ∅)
   .rename_i hx0;have hR1:(aD rs rs.length)[x-1]?=some (aD rs rs.length)[x-1]:=fh ∅;generalize (aD rs rs.length)[x-1]=R1 at hR1;let#[rb,hrb,aiv]:=kD AW hR1;rw[show(x:Int)-1=((x-1:Nat):Int) by lia];show cZ (bG.of Ua) hrb ?_;lk;show#[rb,R1,rfl,aiv,?_];by_cases hp1:R1.iM=true
    .rw[hp1];lk;show#[#[_,_,_,rfl],s7]
    .rw[Bool.not_eq_true] at hp1;rw[hp1];lk;show fin hp^.inr #[R1,hR1,hp1]
  .rw[Bool.not_eq_true] at hp;rw[hp];lk;show#[#[_,_,_,rfl],s7]
 rintro σ' H7 ⟨⟨y,z,w',rfl⟩,s7⟩;lk;show q _
def Wn(h:us.length=1):∃v0,us=[v0]:=match us,h with | [v0],_=>#[v0,rfl]
def adH(h:us.length=2):∃v0 v1,us=[v0,v1]:=match us,h with | [v0,v1],_=>#[v0,v1,rfl]
def adI(h:us.length=3):∃v0 v1 v2,us=[v0,v1,v2]:=match us,h with | [v0,v1,v2],_=>#[v0,v1,v2,rfl]
def adJ(h:us.length=4):∃v0 v1 v2 v3,us=[v0,v1,v2,v3]:=match us,h with | [v0,v1,v2,v3],_=>#[v0,v1,v2,v3,rfl]
def adK(h:us.length=5):∃v0 v1 v2 v3 v4,us=[v0,v1,v2,v3,v4]:=match us,h with | [v0,v1,v2,v3,v4],_=>#[v0,v1,v2,v3,v4,rfl]
noncomputable def EX(X:K.In h)(G:h.Ns mainGlobals mg){mP:Addr}{Ik:Nat}{kF:Addr}{sJ:Tok}{kG:Addr}{sL:Tok}{Ck:Nat}{zQ:Option Addr}{zR:Array^Option Value}{vM:Tok}{vN:Tok}{Cm:Nat}{zS:Option Addr}{zT:Array^Option Value}{vO:Tok}(oJ:PySem.W.nsIn K mainGlobals "BLOCKS_AT" = some^some^.ref mP)(oK:K.lookup mP=some #[.type "dict", none,.dict #v[{ hash:=PyData.keyHash w.params "if", key:=.str "if" sJ,val:=.ref kF },{ hash:=PyData.keyHash w.params "while", key:=.str "while" sL,val:=.ref kG }] Ik,#[]])(oM:(mP==sysModules)=false)(mQ:K.lookup kF=some #[.type "tuple", zQ,.seq #v[.int 2 vM,.int 3 vN] Ck,zR])(mR:K.lookup kG=some #[.type "tuple", zS,.seq #v[.int 2 vO] Cm,zT]):uU w K mg:={ nU:=mP,uV:=oY X G oJ,jD:=kF,rJ:=eU.mk' mQ (.cons #[_,rfl]^.cons #[_,rfl] (.nil)) (by change(2:Nat)<=1000;decide),jE:=kG,rK:=eU.mk' mR (.cons #[_,rfl] (.nil)) (by change(1:Nat)<=1000;decide),uW:=pR.mk' (es:=[("if", sJ,.ref kF),("while", sL,.ref kG)]) oK oM (show(["if", "while"]:List Str).Nodup from by decide +kernel) (.cons #[rfl,rfl]^.cons #[rfl,rfl] (.nil)) }
noncomputable def Il(X:K.In h)(G:h.Ns mainGlobals mg){pM:Addr}{MR:Nat}{mS:Addr}{vq:Tok}{mT:Addr}{vt:Tok}{mU:Addr}{vz:Tok}{mV:Addr}{vA:Tok}{mW:Addr}{vB:Tok}{mX:Addr}{vC:Tok}{EY:Nat}{Cn:Option Addr}{Co:Array^Option Value}{yW:Tok}{EZ:Nat}{Cp:Option Addr}{Cq:Array^Option Value}{yX:Tok}{yY:Tok}{E1:Nat}{Cr:Option Addr}{Cs:Array^Option Value}{yZ:Tok}{y9:Tok}{za:Tok}{E2:Nat}{Ct:Option Addr}{Cu:Array^Option Value}{zc:Tok}{E3:Nat}{Cv:Option Addr}{Cw:Array^Option Value}{zd:Tok}{E4:Nat}{Cy:Option Addr}{Cz:Array^Option Value}{ze:Tok}(qI:PySem.W.nsIn K mainGlobals "NAMES_AT" = some^some^.ref pM)(qJ:K.lookup pM=some #[.type "dict", none,.dict #v[{ hash:=PyData.keyHash w.params "num", key:=.str "num" vq,val:=.ref mS },{ hash:=PyData.keyHash w.params "copy", key:=.str "copy" vt,val:=.ref mT },{ hash:=PyData.keyHash w.params "op", key:=.str "op" vz,val:=.ref mU },{ hash:=PyData.keyHash w.params "out", key:=.str "out" vA,val:=.ref mV },{ hash:=PyData.keyHash w.params "if", key:=.str "if" vB,val:=.ref mW },{ hash:=PyData.keyHash w.params "while", key:=.str "while" vC,val:=.ref mX }] MR,#[]])(qK:(pM==sysModules)=false)(oN:K.lookup mS=some #[.type "tuple", Cn,.seq #v[.int 1 yW] EY,Co])(oO:K.lookup mT=some #[.type "tuple", Cp,.seq #v[.int 1 yX,.int 2 yY] EZ,Cq])(oQ:K.lookup mU=some #[.type "tuple", Cr,.seq #v[.int 1 yZ,.int 3 y9,.int 4 za] E1,Cs])(oR:K.lookup mV=some #[.type "tuple", Ct,.seq #v[.int 1 zc] E2,Cu])(oU:K.lookup mW=some #[.type "tuple", Cv,.seq #v[.int 1 zd] E3,Cw])(oV:K.lookup mX=some #[.type "tuple", Cy,.seq #v[.int 1 ze] E4,Cz]):yo w K mg:={ qx:=pM,yp:=oY X G qI,nV:=mS,uX:=eU.mk' oN (.cons #[_,rfl] (.nil)) (by change(1:Nat)<=1000;decide),nW:=mT,uY:=eU.mk' oO (.cons #[_,rfl]^.cons #[_,rfl] (.nil)) (by change(2:Nat)<=1000;decide),nX:=mU,uZ:=eU.mk' oQ (.cons #[_,rfl]^.cons #[_,rfl]^.cons #[_,rfl] (.nil)) (by change(3:Nat)<=1000;decide),nY:=mV,u0:=eU.mk' oR (.cons #[_,rfl] (.nil)) (by change(1:Nat)<=1000;decide),nZ:=mW,u7:=eU.mk' oU (.cons #[_,rfl] (.nil)) (by change(1:Nat)<=1000;decide),oh:=mX,vc:=eU.mk' oV (.cons #[_,rfl] (.nil)) (by change(1:Nat)<=1000;decide),yq:=pR.mk' (es:=[("num", vq,.ref mS),("copy", vt,.ref mT),("op", vz,.ref mU),("out", vA,.ref mV),("if", vB,.ref mW),("while", vC,.ref mX)]) qJ qK (show(["num", "copy", "op", "out", "if", "while"]:List Str).Nodup from by decide +kernel) (.cons #[rfl,rfl]^.cons #[rfl,rfl]^.cons #[rfl,rfl]^.cons #[rfl,rfl]^.cons #[rfl,rfl]^.cons #[rfl,rfl] (.nil)) }
noncomputable def UK(X:K.In h)(G:h.Ns mainGlobals mg){CA:Addr}{Zb:Nat}{wG:Addr}{E5:Tok}{wH:Addr}{E6:Tok}{wI:Addr}{E7:Tok}{wJ:Addr}{E8:Tok}{wK:Addr}{E9:Tok}{wL:Addr}{Fb:Tok}{wM:Addr}{Fc:Tok}{wN:Addr}{Fd:Tok}{Ri:Nat}{MS:Option Addr}{MT:Array^Option Value}{Fe:Tok}{Ff:Tok}{Fg:Tok}{Fi:Tok}{Rk:Nat}{MU:Option Addr}{MV:Array^Option Value}{Fj:Tok}{Fl:Tok}{Fo:Tok}{Fp:Tok}{Rl:Nat}{MW:Option Addr}{MY:Array^Option Value}{Fq:Tok}{Ft:Tok}{Fv:Tok}{Fw:Tok}{Fx:Tok}{Fy:Tok}{Rm:Nat}{MZ:Option Addr}{M0:Array^Option Value}{Fz:Tok}{FA:Tok}{Rn:Nat}{M1:Option Addr}{M3:Array^Option Value}{FD:Tok}{FE:Tok}{FF:Tok}{Ro:Nat}{M4:Option Addr}{M5:Array^Option Value}{FG:Tok}{FH:Tok}{Rp:Nat}{M6:Option Addr}{M7:Array^Option Value}{FI:Tok}{Rq:Nat}{M8:Option Addr}{M9:Array^Option Value}{FJ:Tok}(CB:PySem.W.nsIn K mainGlobals "PARTS" = some^some^.ref CA)(CC:K.lookup CA=some #[.type "dict", none,.dict #v[{ hash:=PyData.keyHash w.params "num", key:=.str "num" E5,val:=.ref wG },{ hash:=PyData.keyHash w.params "copy", key:=.str "copy" E6,val:=.ref wH },{ hash:=PyData.keyHash w.params "op", key:=.str "op" E7,val:=.ref wI },{ hash:=PyData.keyHash w.params "out", key:=.str "out" E8,val:=.ref wJ },{ hash:=PyData.keyHash w.params "fork", key:=.str "fork" E9,val:=.ref wK },{ hash:=PyData.keyHash w.params "look", key:=.str "look" Fb,val:=.ref wL },{ hash:=PyData.keyHash w.params "mark", key:=.str "mark" Fc,val:=.ref wM },{ hash:=PyData.keyHash w.params "back", key:=.str "back" Fd,val:=.ref wN }] Zb,#[]])(CD:(CA==sysModules)=false)(zf:K.lookup wG=some #[.type "tuple", MS,.seq #v[.str "side" Fe,.str "box" Ff,.str "value" Fg,.str "place" Fi] Ri,MT])(zg:K.lookup wH=some #[.type "tuple", MU,.seq #v[.str "side" Fj,.str "box" Fl,.str "box" Fo,.str "place" Fp] Rk,MV])(zh:K.lookup wI=some #[.type "tuple", MW,.seq #v[.str "side" Fq,.str "sign" Ft,.str "box" Fv,.str "box" Fw,.str "box" Fx,.str "place" Fy] Rl,MY])(zj:K.lookup wJ=some #[.type "tuple", MZ,.seq #v[.str "box" Fz,.str "place" FA] Rm,M0])(zl:K.lookup wK=some #[.type "tuple", M1,.seq #v[.str "box" FD,.str "place" FE,.str "place" FF] Rn,M3])(zm:K.lookup wL=some #[.type "tuple", M4,.seq #v[.str "box" FG,.str "place" FH] Ro,M5])(zo:K.lookup wM=some #[.type "tuple", M6,.seq #v[.str "place" FI] Rp,M7])(zu:K.lookup wN=some #[.type "tuple", M8,.seq #v[.str "box" FJ] Rq,M9]):JO w K mg:={ BN:=CA,BO:=oY X G CB,rL:=wG,DW:=eU.mk' zf (.cons #[_,rfl]^.cons #[_,rfl]^.cons #[_,rfl]^.cons #[_,rfl] (.nil)) (by change(4:Nat)<=1000;decide),rM:=wH,DX:=eU.mk' zg (.cons #[_,rfl]^.cons #[_,rfl]^.cons #[_,rfl]^.cons #[_,rfl] (.nil)) (by change(4:Nat)<=1000;decide),rN:=wI,DY:=eU.mk' zh (.cons #[_,rfl]^.cons #[_,rfl]^.cons #[_,rfl]^.cons #[_,rfl]^.cons #[_,rfl]^.cons #[_,rfl] (.nil)) (by change(6:Nat)<=1000;decide),rO:=wJ,DZ:=eU.mk' zj (.cons #[_,rfl]^.cons #[_,rfl] (.nil)) (by change(2:Nat)<=1000;decide),rP:=wK,D3:=eU.mk' zl (.cons #[_,rfl]^.cons #[_,rfl]^.cons #[_,rfl] (.nil)) (by change(3:Nat)<=1000;decide),rQ:=wL,D4:=eU.mk' zm (.cons #[_,rfl]^.cons #[_,rfl] (.nil)) (by change(2:Nat)<=1000;decide),rR:=wM,D5:=eU.mk' zo (.cons #[_,rfl] (.nil)) (by change(1:Nat)<=1000;decide),rS:=wN,D6:=eU.mk' zu (.cons #[_,rfl] (.nil)) (by change(1:Nat)<=1000;decide),BP:=pR.mk' (es:=[("num", E5,.ref wG),("copy", E6,.ref wH),("op", E7,.ref wI),("out", E8,.ref wJ),("fork", E9,.ref wK),("look", Fb,.ref wL),("mark", Fc,.ref wM),("back", Fd,.ref wN)]) CC CD (show(["num", "copy", "op", "out", "fork", "look", "mark", "back"]:List Str).Nodup from by decide +kernel) (.cons #[rfl,rfl]^.cons #[rfl,rfl]^.cons #[rfl,rfl]^.cons #[rfl,rfl]^.cons #[rfl,rfl]^.cons #[rfl,rfl]^.cons #[rfl,rfl]^.cons #[rfl,rfl] (.nil)) }
def Zc{l:PySem.W.OpenLaw}{fa:Addr}(T:Txt w K mg)(hfa:mg "law" = some^.ref fa):∃fd:FuncData,(∀(s:Shared)(v:Value),BindsTo s fd #[[v],[]] [("_law_script", v)])/\∀base:Heap,K.In base->base.Ns mainGlobals mg->(∀b∈[cK],base.BuiltinsAt mg b)->cA l.prog w K mg base ir 12 fa fd ["_law_script"]^B5 K:=by have e:=hfa.symm.trans T.law.m;cases e;show#[T.law.d,T.law.bind1 (λ_ _ _ _ _ _ us hl=>by let#[v0,rfl]:=Wn hl;rfl),λbase kb nb hb=>Za T^hb _^ay.mpr rfl]
def walk{l:PySem.W.OpenLaw}{q:Program}{loose:List Str}{XP:(Str->Option Value)->Heap->Prop}{YP:World->Heap->Prop}{d:DefRec}{K:Params->az}(hn:l.most=some 63)(hdf:d.params.defaults=[])
  (hY:∀(w:World)(h:Heap),YP w h->(K w.params).In h)(hT:∀(w:World)(h:Heap),YP w h->∀b∈[cK],h.get? b=some^PySem.W.tabObj #[])
  (hC:∀w:World,PySem.W.codeHdIn (K w.params) 250 cK=true)(hTK:∀w:World,(K w.params).lookup cK=none)
  (F:∀(w:World)(mg:Str->Option Value)(fa:Addr)(h:Heap),(K w.params).In h->h.Ns mainGlobals mg->mg d.name=some (.ref fa) ->
   ∃fd:FuncData,(∀(s:Shared)(u:Value),BindsTo s fd #[[u],[]] [("_law_script", u)])/\∀base:Heap,(K w.params).In base->base.Ns mainGlobals mg->(∀b∈[cK],base.BuiltinsAt mg b)->cA l.prog w (K w.params) mg base ir 12 fa fd ["_law_script"]^B5^K w.params):
  PySem.W.WalkO q loose XP YP l.row.toRowW d [] (λf vs=>PySem.call f vs) :=
 L2.LF (n:=63) (k:=12) (x := "_law_script") (ts:=[cK]) (sp:=B5) hn (by decide) hdf #[rfl,by decide,by decide] hY
  (λw h Y b hb=>#[hT w h Y b hb,by obtain rfl:=ay.mp hb;show((PySem.W.codeHd_of_K (hY w h Y)^hC w).tab^hT w h Y _ hb).isCodeTable]) (λw b hb=>by obtain rfl:=ay.mp hb;show hTK w)
  F (λ_ _ a ns hl hS hT=>#[#[a,ns,rfl,hS,hl,λ_=>rfl],hT _^ay.mpr rfl])
end
end TG
end Internal
open Internal
open PySem PySem.W PyProof.Rows
set_option hygiene false in
local macro_rules | `(tactic| walk_at "bd") => `(tactic| (intro _ _ _ _ _ _ us hl; first | (obtain ⟨v0, rfl⟩ := TG.Wn hl; rfl) | (obtain ⟨v0, v1, rfl⟩ := TG.adH hl; rfl) | (obtain ⟨v0, v1, v2, rfl⟩ := TG.adI hl; rfl) | (obtain ⟨v0, v1, v2, v3, rfl⟩ := TG.adJ hl; rfl) | (obtain ⟨v0, v1, v2, v3, v4, rfl⟩ := TG.adK hl; rfl)))
set_option hygiene false in
local macro_rules | `(tactic| walk_at "dl") => `(tactic| (refine' L2.abv KX G ?b ?a ?l ?c ?k ?h; (case b => walk_at "bd"); (case a => k_is); (case l => k_is); (case c => k_is); (case k => k_is); (case h => kernel_rfl)))
set_option genInjectivity false in
structure PySem.W.Fast where(tw17379931349805315851 tw5525596728386050909 tw6721442182419621216 tw3279461207255740122 tw10048123649419971745 tw14917550511829584760 tw7855883723895645321 tw12650900380255518591 tw3941574713954021820 tw13670031733435736882 tw5044916269401388310 tw7718577502278873390 tw1336587917997611463 tw9043240390567765109 tw2269963716635880765 tw3055985181635436506 tw2146435625203651188 tw16566492800383480540 tw2648372382828280477 tw203680505365630784 tw3197289372892468763 tw311772811949654620 tw17167426727633943761 tw5808785204675990979 tw13587228461928827721 tw5031959707555141916 tw4824307619447752461 tw9366418228335258395 tw9582168310382709286 tw826158552183569785 tw17373876312352973200 tw2283499704537403707 tw8764330855507983159 tw10042853172134942258 tw5575873299926275645 tw16291633141081972715 tw14510475717340104556 tw5963423455279349273 tw9115944506468639746 tw12479236004187558921 tw11424790899158270425 tw13579661608604845391 tw18286561429603885532 tw1019865379084098477 tw16415805879106740922 tw6299768517031284461 tw8196917215613576546 tw8253474673169084990 tw1569931127949707778 tw6004850224922961990 tw262061939453618563 tw2766711758584571368 tw3270360120484494307 tw2506868098959530649 tw14366017826920050385 tw9045847819475457906 tw11036248296322565519 tw15510005649890822290 tw605441451518402684 tw4908149280450011850 tw11867341870759869316 tw2679753138095552909 tw14948905048832590664 tw2768794889947627151 tw9830393554429083020 tw4196584960342833969 tw6161792599401447620 tw5736500068108297142 tw11979280589636980698 tw16470405337693768065 tw965332160237295537 tw11529750000639215708 tw5707521900229609915 tw7229638249966680800 tw3796574846092184187 tw11398501546663757380 tw4484531307281876856 tw17801267091552849514 tw6716223493236895256 tw238810039439549376 tw12704884774588881360 tw7721039628561382928 tw10960595701289047018 tw3305620305384603304 tw3609139944894112427 tw8004252989760227162 tw17252367681187656493 tw15974060912485155792 tw16920060143378775051 tw11517306354774979036 tw14042027179104429489 tw10728707236431610825 tw8431817346240028205 tw13354000287854022510 tw3248215397845503814 tw6310442826868439904 tw5040819078121562869 tw9617868088621815897 tw14322765156321088210 tw14526642743870477294 tw10735948783468001360 tw132291282334610326 tw15530503404801270741 tw14974625647786934245 tw8493190352417934817 tw4120514025762236437 tw4159563790868954790 tw1742322891903851123:True)
set_option maxRecDepth 100000 in
set_option maxHeartbeats 0 in
theorem PySem.Challenge.cw_turnguard_k62_whole_hardened_has_a_delay_holds : PySem.Challenge.rw_turnguard_k62_whole_hardened_has_a_delay.Holds := by
 w_on; o_law; k_head; (case hw=>w_witness2)
 k_fill
 refine TG.walk (l:=PySem.Challenge.rw_turnguard_k62_whole_hardened_has_a_delay) rfl rfl (λ w h Y=>PySem.W.km_in_of Y) (λ w h Y=>PySem.W.km_tabs_of Y) (λ w=>by kernel_rfl) (λ w=>by kernel_rfl) ?F
 case F =>
  intro w mg fa h KX G hmg
  refine' TG.Zc (w:=w) ⟨?q0,?q1,?q2,?q3,?q4,?q5,?q6,?q7,?q8,?q9,?q10,?q11,?q12,?q13,?q14,?q15,?q16,?q17,?q18,?q19,?q20,?q21,?q22,?q23,?q24,?q25,?q26,?q27,?q28,?q29,?q30,?q31,?q32,?q33,?q34,?q35,?q36,?q37,?q38,?q39,?q40,?q41,?q42,?q43,?q44,?q45,?q46,?q47,?q48,?q49,?q50,?q51,?q52,?q53,?q54,?q55,?q56,?q57,?q58,?q59,?q60,?q61,?q62,?q63,?q64,?q65,?q66,?q67,?q68,?q69,?q70,?q71,?q72,?q73,?q74,?q75⟩ hmg
  case q0|q1|q2|q3|q4|q5|q6|q7|q8|q9|q10|q11|q12|q13|q14|q15|q16|q17|q18|q19|q20|q21|q22|q23|q24|q25|q26|q27|q28|q29|q30|q31|q32|q34|q35|q36|q37|q38|q39|q40|q41|q42|q43|q44|q45|q46|q47|q48|q49|q50=>(refine' L2.VA KX G ?b ?a ?l ?c ?k; (case b => (intro _ _ _ _ _ _ us hl; first | (obtain ⟨v0, rfl⟩ := TG.Wn hl; rfl) | (obtain ⟨v0, v1, rfl⟩ := TG.adH hl; rfl) | (obtain ⟨v0, v1, v2, rfl⟩ := TG.adI hl; rfl) | (obtain ⟨v0, v1, v2, v3, rfl⟩ := TG.adJ hl; rfl) | (obtain ⟨v0, v1, v2, v3, v4, rfl⟩ := TG.adK hl; rfl))); (case a => k_is); (case l => k_is); (case c => k_is); (case k => k_is))
  case q33=>walk_at "dl"
  case q51|q52|q53|q54|q55|q56|q57|q58|q59|q60|q61|q62|q63|q64|q65|q66|q67=>(refine PySem.W.mg_none_of KX G ?_; k_is)
  case q69=>(refine' L2.abw KX G ?a; (case a => k_is))
  case q70|q71|q72|q75=>(refine' L2.abx KX G ?a ?l ?r ?z; (case a => k_is); (case l => k_is); (case r => (repeat (first | exact .nil | refine .cons ⟨_, rfl⟩ ?_))); (case z => exact Nat.le_of_ble_eq_true rfl))
  case q68 =>
   refine' TG.EX KX G ?oJ ?oK ?oM ?mQ ?mR
   case oJ|oK|mQ|mR=>k_is
   case oM=>rfl
  case q73 =>
   refine' TG.Il KX G ?qI ?qJ ?qK ?oN ?oO ?oQ ?oR ?oU ?oV
   case qI|qJ|oN|oO|oQ|oR|oU|oV=>k_is
   case qK=>rfl
  case q74 =>
   refine' TG.UK KX G ?CB ?CC ?CD ?zf ?zg ?zh ?zj ?zl ?zm ?zo ?zu
   case CB|CC|zf|zg|zh|zj|zl|zm|zo|zu=>k_is
   case CD=>rfl
end
