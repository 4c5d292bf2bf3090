import PyProof.Rows.All
import Wide.All
import OpenK.AllK
import Wide.FinOn
import Lean
import PyProof.EqAt
import PyProof.EqKinds
import PyProof.TupleCall
import KE.KRevIter
import KE.KRevSl
import PyProof.AttrMiss
import KE.KDictOf
import PyProof.FactsAll.enumerate
import PyProof.FactsAll.zip
import PyProof.ListRange
import PyProof.FactsAll.list_1
import KE.KDictList
import PyProof.StrOps2
import PyProof.Rows.SetFrom
import PyProof.CollectStr
import PyProof.Rows.SortWalk
import KE.KSortTup
import KE.KDictList
import PyProof.FactsAll.range_2
import PyProof.P3Eq
import KE.KEqDict
import KE.KLam
import KE.KNestM
import KE.KMinKey
import PyProof.Rows.Range3
import PySem.Challenge.RW_turnguard_k65_whole_needed
set_option Elab.async false
set_option linter.all false
set_option maxRecDepth 100000
def au:=@PySem.wpAny_bind
def aN:=@PySem.wpAny_pure
def dH:=@PySem.Heap.get?_push_of_some
def iX:=@PySem.Heap.get?_push_size
def eX{α:Type}{l:List α}{i:Nat}{a:α}(h:l[i]?=some a):∃h:i<l.length,l[i]=a:=List.getElem?_eq_some_iff.mp h
def dJ{α:Type}{l:List α}{i:Nat}(h:i<l.length):l[i]?=some l[i]:=List.getElem?_eq_getElem h
def eY{α:Type}{l:List α}{i:Nat}{a:α}(h:l[i]?=some a):a∈l:=List.mem_of_getElem? h
def nR{α:Type}{l:List α}{i:Nat}{a:α}:l.getD i a=l[i]?.getD a:=List.getD_eq_getElem?_getD
def kq:¬(false=true):=Bool.false_ne_true
noncomputable section
section
set_option tactic.hygienic false
local macro_rules (kind:=Lean.Parser.Command.declaration) | x=>match x[1][0] with|.atom (.original ..) v=>(λy:Lean.Syntax=>if (y.find? λz=>[`Lean.Elab.Tactic.Ext.ext,`Lean.Parser.Tactic.renameI,`Lean.Parser.Tactic.case].contains z.getKind).isSome then `(set_option tactic.hygienic true in $(⟨y⟩):command) else return ⟨y⟩) (x.modifyArg 1 (·.modifyArg 0 λ_=>.atom .none v))|_=>Lean.Macro.throwUnsupported
def WL.o(s:Lean.Syntax):Bool:=match s.getHeadInfo with|.original ..=>true|_=>false
local macro_rules | `(#[])=>Lean.Macro.throwUnsupported | `(#[%$t $a,*])=>if WL.o t then `(⟨$a,*⟩) else Lean.Macro.throwUnsupported
local macro_rules | `(#v[$a,*])=>`(List.toArray [$a,*])
namespace WL
open Lean in
def rp:Nat->Term->MacroM (TSyntax `rcasesPat)
 | 0,_=>Macro.throwUnsupported
 | n+1,s=>do
  match s with
  | `(#[$a,*])=>do
   let b ← a.getElems.mapM (rp n)
   `(rcasesPat| ⟨$[$b:rcasesPat],*⟩)
  | `($i:ident)=>`(rcasesPat| $i:ident)
  | `(_)=>`(rcasesPat| _)
  | _=>Macro.throwUnsupported
end WL
local macro_rules | `(tactic| let $p:term:=$e)=>do `(tactic| obtain $(← WL.rp 9 p):rcasesPat:=$e)
local macro_rules | `(tactic| erw%$t [$[$r:term],*] $[$l:location]?)=>if WL.o t then `(tactic| simp only [$[$r:term],*] $[$l]?) else Lean.Macro.throwUnsupported
local macro_rules | `(tactic| show%$t $e:term)=>if WL.o t then `(tactic| refine $e) else Lean.Macro.throwUnsupported
local macro_rules | `($f ^%$t $x)=>do if !WL.o t||f.raw.isOfKind `num||f.raw.isOfKind `Lean.Parser.Term.typeAscription then Lean.Macro.throwUnsupported else match f with | `($f $a*)=>`($f $a* $x) | _=>`($f $x)
local macro_rules | `(∅%$t)=>if WL.o t then `(by lia) else Lean.Macro.throwUnsupported
local macro_rules | `(tactic| walk_at "sc")=>`(tactic| exact⟨rfl, rfl, rfl, by decide +kernel, rfl, by decide +kernel, by decide +kernel⟩)
abbrev aF:=PySem.W.Frag
section
open PySem PySem.Spec PyProof.Rows
def gY:=@Around.under_plainId
def oZ:=@Array.forIn_toList
def gf:=@Array.getElem?_eq_getElem
def rN:=@Array.getElem?_eq_none
def nU:=@Array.getElem?_eq_some_iff
def gh:=@Array.getElem?_toList
def c8:=@Array.length_toList
def rO:=@Bool.and_eq_true
def tU:=@Bool.false_and
def bW:=@Bool.false_eq_true
def gH:=@Bool.not_true
def tV:=@Calls.callWith_builtin
def tW:=@Calls.call_function_entry
def qF:=@Calls.spliced_cons
def oj:=@Classical.byContradiction
def om:=@F.entry_max_loop
def gp:=@F.plain_max_loop
def yc:=@F.slot_dict_keyiterator_next
def yd:=@F.slot_dict_valueiterator_next
def ye:=@F.slot_tuple_iterator_next
def kQ:=@Heap.SameBut.update
def fK:=@Heap.get?_update_ne
def jf:=@Heap.get?_update_other
def gI:=@Heap.get?_update_self
def aK:=@Heap.lt_size
def iJ:=@Heap.size_push
def j3:=@Int.le_refl
def jg:=@Int.toNat_natCast
def oq:=@List.Perm.refl
def jB:=@List.any_cons
def kR:=@List.append_assoc
def fL:=@List.append_nil
def jh:=@List.filter_append
def qG:=@List.filter_cons_of_neg
def qH:=@List.filter_cons_of_pos
def iK:=@List.find?_cons
def qI:=@List.flatMap_cons
def lY:=@List.forIn_cons
def qJ:=@List.forIn_nil
def kT:=@List.getElem?_append_left
def j4:=@List.getElem?_append_right
def ou:=@List.getElem?_cons_succ
def j5:=@List.getElem?_eq_none
def aW:=@List.getElem?_map
def qK:=@List.getElem?_set_ne
def tX:=@List.getElem?_take_of_lt
def lZ:=@List.getElem?_toArray
def oz:=@List.getElem?_zip_eq_some
def tY:=@List.getElem_inj
def tZ:=@List.getElem_map
def jC:=@List.getElem_mem
def aO:=@List.length_append
def cW:=@List.length_cons
def qL:=@List.length_drop
def iL:=@List.length_filter_le
def aq:=@List.length_map
def oA:=@List.length_nil
def uc:=@List.length_pos_iff
def l0:=@List.length_range
def l8:=@List.length_set
def ji:=@List.length_singleton
def cB:=@List.length_take
def bG:=@List.map_append
def cG:=@List.map_cons
def gq:=@List.map_map
def aP:=@List.mem_append
def kU:=@List.mem_append_left
def dZ:=@List.mem_append_right
def aH:=@List.mem_cons
def cX:=@List.mem_cons_of_mem
def jD:=@List.mem_cons_self
def c9:=@List.mem_filter
def l9:=@List.mem_flatMap
def oB:=@List.mem_iff_getElem
def fM:=@List.mem_iff_getElem?
def aD:=@List.mem_map
def mh:=@List.mem_map_of_mem
def yf:=@List.mem_or_eq_of_mem_set
def fN:=@List.mem_range
def aA:=@List.mem_singleton
def gJ:=@List.nodup_append
def gZ:=@List.nodup_cons
def kW:=@List.nodup_nil
def g7:=@List.not_mem_nil
def qM:=@List.pairwise_cons
def kX:=@List.pairwise_iff_getElem
def yg:=@List.pairwise_lt_range
def jj:=@List.pairwise_map
def qN:=@List.range_succ
def ud:=@List.replicate_succ
def aY:=@List.size_toArray
def bS:=@List.take_add_one
def cg:=@List.take_length
def ue:=@List.take_subset
def oE:=@Nat.le_add_right
def eZ:=@Nat.le_of_ble_eq_true
def jE:=@Nat.le_of_lt
def ay:=@Nat.le_refl
def bO:=@Nat.le_trans
def gK:=@Nat.lt_irrefl
def bX:=@Nat.lt_of_lt_of_le
def bg:=@Nat.lt_or_ge
def jS:=@Nat.lt_succ_of_lt
def jT:=@Nat.lt_succ_self
def nk:=@Nat.lt_trichotomy
def jU:=@Nat.ne_of_gt
def aT:=@Nat.ne_of_lt
def fZ:=@Nat.not_lt_zero
def aI:=@Nat.zero_le
def bz:=@Ne.symm
def nu:=@Obj.cls_mapFields
def fB:=@Obj.data_mapFields
def kY:=@Obj.isFreed_of_fields
def cE:=@Option.map_eq_some_iff
def nv:=@Option.toList_some
def jV:=@Paired.length
def cQ:=@Paired.mono
def cF:=@Paired.snoc
def bD:=@PassesOwn.never
def kZ:=@PyProof.Rows.callWith_type1
def dj:=@PySem.F.plainAttrs_list
def o4:=@PySem.F.slot_dict_get
def gA:=@PySem.F.slot_list_append
def o5:=@PySem.F.slot_list_extend
def gB:=@PySem.F.type_list_append
def o6:=@PySem.F.type_list_extend
def gC:=@PySem.W.kia_one
def g8:=@PySem.mem_of_lookup
def g9:=@True.intro
end
open PySem PySem.Spec PyProof.Rows
variable {A:Around}{C I a b d dx f it l l1 l2 q z:Addr}{E:Value->Shared->Prop}{K:aF}{P prog:Program}{R:Result->Shared->Prop}{T tn:String}{apos cpos kp p pos pos' tpos:Pos}{base h h':Heap}{c e tg value:Expr}{cl:List (Str×Addr)}{cs ns ss:List Int}{ep i j k n t':Nat}{es:List Expr}{fd:FuncData}{fp wr:List Addr}{fr:List Str}{ix ms:List Nat}{kw:List (Str×Value)}{led t1 t2:Bool}{m name qual x:Str}{mg:Str->Option Value}{u5:List (Addr×Obj)}{pm r u:Value}{ps:List (Int×Int)}{s:Shared}{scope:Scope}{st:Stmt}{us vs:List Value}{w:World}{ys:Array Value}
namespace L2
variable {H:Hp}{o:HO}{ch:List Addr}{N ps:List Str}{M:Model}{v:V}{Q:Unit->Shared->Prop}{X:Cx}{op:CmpOp}{t te:TE}{D:Ends}{g:TG}{body:List Stmt}{tb:TS}{xs:List V}{f:Value->Value->Sem Value}{r:R2}{CX:GZ}
abbrev Key:=Sum Int Str
noncomputable def wG:Key->Value->Bool
 | .inl k,v=>Value.isInt k v
 | .inr x,v=>Value.isStrOf x v
def aau(w:World):Key->Int
 | .inl k=>hashInt k
 | .inr x=>hashStr w x
theorem ef:∀{k:Key}{v:Value},wG k v=true->(∃i t,k=Sum.inl i/\v=Value.int i t)\/(∃x t,k=Sum.inr x/\v=Value.str x t)
 | .inl i,v,h=>by
  let#[t,e]:=Value.isInt_shape (k:=i) (v:=v) h;show .inl #[i,t,rfl,e]
 | .inr x,v,h=>by let#[t,e]:=Value.isStrOf_shape (x:=x) (v:=v) h;show .inr #[x,t,rfl,e]
def GL(i:Int)(t:Tok):wG (.inl i)^.int i t=true:=by simp[wG,Value.isInt]
def GN(x:Str)(t:Tok):wG (.inr x)^.str x t=true:=by simp[wG,Value.isStrOf]
def Sd(a b:Int):decide ((Sum.inl a:Key)=Sum.inl b)=(a==b):=by by_cases e:a=b;subst e;simp;have h:¬(Sum.inl a:Key)=Sum.inl b:=λq=>e^Sum.inl.inj q;rw[decide_eq_false h];show(beq_eq_false_iff_ne.mpr e).symm
def Se(a b:Str):decide ((Sum.inr a:Key)=Sum.inr b)=decide (a=b):=by by_cases e:a=b;subst e;simp;have h:¬(Sum.inr a:Key)=Sum.inr b:=λq=>e^Sum.inr.inj q;rw[decide_eq_false h,decide_eq_false e]
def Sf(a:Int)(b:Str):decide ((Sum.inl a:Key)=Sum.inr b)=false:=decide_eq_false (λq=>nomatch q)
def Sg(a:Str)(b:Int):decide ((Sum.inr a:Key)=Sum.inl b)=false:=decide_eq_false (λq=>nomatch q)
noncomputable def ck(prog:Program)(w:World):PySem.KeyKind prog w Key where
 is:=wG
 hash:=aau w
 inj:=λv a b ha hb=>by rcases ef ha with⟨i,t,rfl,rfl⟩|⟨x,t,rfl,rfl⟩;rcases ef hb with⟨j,u,rfl,e⟩|⟨y,u,rfl,e⟩;injection e with e1 _;rw[e1];show nomatch e;rcases ef hb with⟨j,u,rfl,e⟩|⟨y,u,rfl,e⟩;show nomatch e;injection e with e1 _;rw[e1]
 byValue:=λk v h=>by rcases ef h with⟨i,t,rfl,rfl⟩|⟨x,t,rfl,rfl⟩<;>rfl
 pyHash:=λhv h=>by rcases ef hv with⟨i,t,rfl,rfl⟩|⟨x,t,rfl,rfl⟩;show wpAny_pyHash_int h;show wpAny_pyHash_str h
 eqBool:=λhu hv h=>by rcases ef hu with⟨i,t,rfl,rfl⟩|⟨x,t,rfl,rfl⟩;rcases ef hv with⟨j,u,rfl,rfl⟩|⟨y,u,rfl,rfl⟩;rw[Sd] at h;show wpAny_eqBool_int h;rw[Sf] at h;show SeqAt.EqAt.int_str i t y u _ _ _ _ h;rcases ef hv with⟨j,u,rfl,rfl⟩|⟨y,u,rfl,rfl⟩;rw[Sg] at h;show SeqAt.EqAt.str_int x t j u _ _ _ _ h;rw[Se] at h;show wpAny_eqBool_str h
 «strs»:=λk x t v h=>by rcases ef h with⟨i,u,rfl,e⟩|⟨y,u,rfl,e⟩;show nomatch e;injection e with e1 _;subst e1;cases v<;>rfl
def zP(prog:Program)(w:World)(i:Int)(t:Tok):(ck prog w).is (.inl i)^.int i t=true:=GL i t
def mq(prog:Program)(w:World)(x:Str)(t:Tok):(ck prog w).is (.inr x)^.str x t=true:=GN x t
inductive V where
 | dD|bl (b:Bool)|int (i:Int)|str (x:Str) | GO (b:Array UInt8) | Vw (b:UInt64)|ref (a:Addr)|ty (n:String)
 deriving DecidableEq
def RelV:V->Value->Prop
 | .dD,u=>u=Value.none
 | .bl b,u=>u=Value.bool b
 | .int i,u=>∃t,u=Value.int i t
 | .str x,u=>∃t,u=Value.str x t
 | .GO b,u=>∃t,u=Value.bytes b t
 | .Vw b,u=>∃t,u=Value.float b t
 | .ref a,u=>u=Value.ref a
 | .ty n,u=>u=Value.type n
abbrev Vals:List V->List Value->Prop:=Paired RelV
theorem Vals.length{xs:List V}{us:List Value}(r:Vals xs us):xs.length=us.length:=jV r
theorem Vals.get:∀{xs:List V}{us:List Value}{i:Nat}{x:V},Vals xs us->xs[i]?=some x->∃u,us[i]?=some u/\RelV x u
 | _,_,_,_,.nil,e=>by simp at e
 | _,_,0,_,.cons r _,e=>by simp at e;subst e;show#[_,rfl,r]
 | _,_,i+1,x,.cons _ t,e=>by let#[u,h1,h2]:=Vals.get (i:=i) (x:=x) t (by simpa using e);show#[u,by simpa using h1,h2]
theorem Vals.set{x:V}(r:RelV x u):∀{xs:List V}{us:List Value}(i:Nat),Vals xs us->Vals (xs.set i x) (us.set i u)
 | _,_,_,.nil=>.nil
 | _,_,0,.cons _ t=>.cons r t
 | _,_,i+1,.cons q t=>.cons q^Vals.set r i t
theorem Vals.append:∀{xs ys:List V}{us ws:List Value},Vals xs us->Vals ys ws->Vals (xs++ys) (us++ws)
 | _,_,_,_,.nil,s=>s
 | _,_,_,_,.cons r t,s=>.cons r^Vals.append t s
theorem Vals.take:∀{xs:List V}{us:List Value}(n:Nat),Vals xs us->Vals (xs.take n) (us.take n)
 | _,_,0,_=>.nil
 | _,_,_+1,.nil=>.nil
 | _,_,n+1,.cons r t=>.cons r^Vals.take n t
theorem Vals.drop:∀{xs:List V}{us:List Value}(n:Nat),Vals xs us->Vals (xs.drop n) (us.drop n)
 | _,_,0,r=>r
 | _,_,_+1,.nil=>.nil
 | _,_,n+1,.cons _ t=>Vals.drop n t
def nS:Option V->Option Value->Prop
 | some v,some u=>RelV v u
 | none,none=>True
 | _,_=>False
def KV{κ:Type}:List (κ×V)->List (κ×Value)->Prop:=Paired λ(p:κ×V)(q:κ×Value)=>p.1=q.1/\RelV p.2 q.2
noncomputable def kV:Key->V
 | .inl i=>.int i
 | .inr x=>.str x
inductive HO where
 | lst (xs:List V)
 | tup (xs:List V)
 | dK (kvs:List (Key×V))|dT (kvs:List (List Key×V))
 | set (S:Int->Bool) (n:Nat)
 | ins (C dx:Addr) (fs:List (Str×V))
 | own (x:Addr)
 | xd (fs:List (Str×V))
 | met (f x:Addr)
 | rng (lo hi:Int)
 | zI (o:Obj) (u:HO)
 | qC (ps:Array Value)
 | ext (φ:Heap->Prop)
abbrev Hp:=Addr->Option HO
noncomputable def upd(H:Hp)(a:Addr)(o:HO):Hp:=λb=>if b=a then some o else H b
def eT:upd H a o a=some o:=by unfold upd;rw[if_pos rfl]
def bH(h:b≠a):upd H a o b=H b:=by unfold upd;rw[if_neg h]
def uf{u:HO}(h:H a=some o)(h':H b=some u)(d:o≠u):a≠b:=by intro e;subst e;rw[h] at h';show d^Option.some.inj h'
def aV(h:H a=some o)(h':H b=none):a≠b:=by intro e;subst e;rw[h] at h';cases h'
section
variable (P:Program)(w:World)
def dg(H:Hp)(h:Heap)(a:Addr):HO->Prop
 | .lst xs=>xs.length<=sizeLine/\∃(its:List Value)(n:Nat),Vals xs its/\h.get? a=some { cls:=.type "list", data:=.seq its.toArray n }
 | .tup xs=>xs.length<=sizeLine/\∃its:List Value,Vals xs its/\IsTup h a its.toArray
 | .dK kvs=>kvs.length<=sizeLine/\(a==sysModules)=false/\∃vs,KV kvs vs/\h.DictOf (ck P w) a vs
 | .dT kvs=>kvs.length<=sizeLine/\(a==sysModules)=false/\∃xs:List (List Key×Addr×Value),
   Paired (λ(p:List Key×V)(q:List Key×Addr×Value)=>p.1=q.1/\H q.2.1=some^.tup^p.1.map kV/\RelV p.2 q.2.2) kvs xs /\
   ∃o es ep,h.get? a=some o/\o.ExactDict/\o.data=.dict es ep/\es.toList=xs.map^entryOfKey^tupleKind^ck P w/\(xs.map (·.1)).Nodup
 | .set S n=>h.SetOf (intKind P w) a S n
 | .ins C dx fs=>H dx=some^.own a/\fs.length<=1000/\dx≠a/\h.get? a=some (PySem.W.instObj C dx) /\
   ∃mA,h.Ns1 dx mA/\(∀f,nS (fs.lookup f)^mA f)/\PySem.Within mA^fs.map (·.1)
 | .own _=>∃o,h.get? a=some o
 | .xd fs=>∃mA,h.Ns1 a mA/\∀f,nS (fs.lookup f)^mA f
 | .rng lo hi=>∃t u v,h.get? a=some { cls:=.type "range", data:=.fields #v[.int lo t,.int hi u,.int 1 v] }
 | .zI o u=>h.get? a=some o/\dg H h a u
 | .qC ps=>h.get? a=some { cls:=.none,data:=.fields ps }
 | .met f x=>h.get? a=some^PySem.W.methodObj (.ref f)^.ref x
 | .ext φ=>φ h/\(∃o,h.get? a=some o)/\∀h1 h2:Heap,φ h1->(∀o,h1.get? a=some o->h2.get? a=some o)->φ h2
def lX(H:Hp)(h:Heap):Prop:=∀a o,H a=some o->dg P w H h a o
end
section
variable {H H':Hp}{o:HO}
theorem dg.lt(x:dg P w H h a o):a<h.objs.size:=by
 cases o with
 | lst xs=>let#[_,_,_,_,e]:=x;show aK e
 | tup xs=>let#[_,_,_,p]:=x;show p.lt
 | dK kvs=>let#[_,_,_,_,o,_,_,e,_]:=x;show aK e
 | dT kvs=>let#[_,_,_,_,o,_,_,e,_]:=x;show aK e
 | set S n=>let#[o,_,_,_,e,_]:=x;show aK e
 | ins C dx fs=>let#[_,_,_,e,_]:=x;show aK e
 | own y=>let#[_,e]:=x;show aK e
 | xd fs=>let#[_,#[_,_,_,e,_],_]:=x;show aK e
 | rng lo hi=>let#[_,_,_,e]:=x;show aK e
 | zI ob u=>let#[e,_]:=x;show aK e
 | qC ps=>show aK (show h.get? a=some _ from x)
 | met f y=>show aK (show h.get? a=some _ from x)
 | ext φ=>let#[_,#[_,e],_]:=x;show aK e
theorem Paired.GP{α β:Type}{F G:α->β->Prop}:∀{l₁:List α}{l₂:List β},Paired F l₁ l₂->(∀a b,F a b->G a b)->Paired G l₁ l₂
 | _,_,.nil,_=>.nil
 | _,_,.cons r t,f=>.cons (f _ _ r)^Paired.GP t f
def dg.stay(x:dg P w H h a o)(k:∀b u,(b=a\/H b=some^.own a)->h.get? b=some u->h'.get? b=some u)
  (ho:∀b,H b=some^.own a->H' b=some^.own a)(ht:∀b xs,H b=some^.tup xs->H' b=some^.tup xs):dg P w H' h' a o:=by
 induction o with
 | lst xs=>let#[z,its,n,r,e]:=x;show#[z,its,n,r,k _ _ (.inl rfl) e]
 | tup xs=>let#[z,its,r,ob,e,c]:=x;show#[z,its,r,ob,k _ _ (.inl rfl) e,c]
 | dK kvs=>let#[z,y,vs,r,ob,es,ep,e,c]:=x;show#[z,y,vs,r,ob,es,ep,k _ _ (.inl rfl) e,c]
 | dT kvs =>
  let#[z,y,xs,r,ob,es,ep,e,c]:=x;show#[z,y,xs,Paired.GP r λp q z=>#[z.1,ht _ _ z.2.1,z.2.2],ob,es,ep,k _ _ (.inl rfl) e,c]
 | set S n=>let#[ob,es,ep,t,e,c]:=x;show#[ob,es,ep,t,k _ _ (.inl rfl) e,c]
 | ins C dx fs =>
  let#[d,z,ne,e,mA,#[od,es,ep,e2,c],r]:=x;show#[ho _ d,z,ne,k _ _ (.inl rfl) e,mA,#[od,es,ep,k _ _ (.inr d) e2,c],r]
 | own y=>let#[ob,e]:=x;show#[ob,k _ _ (.inl rfl) e]
 | xd fs=>let#[mA,#[od,es,ep,e,c],r]:=x;show#[mA,#[od,es,ep,k _ _ (.inl rfl) e,c],r]
 | rng lo hi=>let#[t,u,v,e]:=x;show#[t,u,v,k _ _ (.inl rfl) e]
 | zI ob u ih=>let#[e,q]:=x;show#[k _ _ (.inl rfl) e,ih q]
 | qC ps =>
  have e:h.get? a=some { cls:=.none,data:=.fields ps }:=x;change h'.get? a=some { cls:=.none,data:=.fields ps };show k a _ (.inl rfl) e
 | met f y =>
  have e:h.get? a=some^PySem.W.methodObj (.ref f)^.ref y:=x;change h'.get? a=some^PySem.W.methodObj (.ref f)^.ref y;show k a _ (.inl rfl) e
 | ext φ=>let#[p,#[o,e],st]:=x;show#[st _ _ p λo q=>k _ _ (.inl rfl) q,#[o,k _ _ (.inl rfl) e],st]
theorem lX.lt(x:lX P w H h)(e:H a=some o):a<h.objs.size:=(x a o e).lt
def lX.fresh(x:lX P w H h)(e:h.objs.size<=a):H a=none:=by
 cases q:H a with
 | none=>rfl
 | some u=>show absurd (bX (x.lt q) e)^gK _
def lX.kept(x:lX P w H h)(k:∀b u,h.get? b=some u->h'.get? b=some u):lX P w H h':=λa o e =>
 (x a o e).stay (λb u _ q=>k b u q) (λ_ q=>q) λ_ _ q=>q
def lX.laid(x:lX P w H h)(k:∀b u,h.get? b=some u->h'.get? b=some u)(hp:h.objs.size<=a)(new:dg P w (upd H a o) h' a o):lX P w (upd H a o) h':=λb u e=>by
 have hn:=x.fresh hp;by_cases hb:b=a;subst hb;rw[eT] at e;cases e;show new
 .rw[bH hb] at e;show(x b u e).stay (λc v _ q=>k c v q) (λc q=>by rw[bH^aV q hn];show q) λc xs q=>by rw[bH^aV q hn];show q
end
def Rd(H:Hp)(a:Addr)(u:HO):Prop:=H a=some u\/∃o,H a=some^.zI o u
def Rd.ok{u:HO}(r:Rd H a u)(x:lX P w H h):dg P w H h a u:=by rcases r with r|⟨o,r⟩;show x a u r;let#[_,q]:=x a _ r;show q
def VN:Option HO->Prop
 | some (.lst _)=>True
 | some (.dK _)=>True
 | some (.dT _)=>True
 | some (.set _ _)=>True
 | some (.ins _ _ _)=>True
 | some (.ext _)=>True
 | _=>False
section
variable {H:Hp}{x e:Addr}{o':HO}
def lX.write(ok:lX P w H h)(mu:VN^H x)(he:e=x\/H e=some^.own x)(k:∀b u,b≠e->h.get? b=some u->h'.get? b=some u)(Vx:∃u,h'.get? e=some u)
  (new:dg P w (upd H x o') h' x o'):lX P w (upd H x o') h':=λb u q=>by
 have VO:∀c y,H c=some^.own y->c≠x:=λc y r z=>by subst z;rw[r] at mu;show mu
 have aaw:∀c xs,H c=some^.tup xs->c≠x:=λc xs r z=>by subst z;rw[r] at mu;show mu
 by_cases hb:b=x;subst hb;rw[eT] at q;cases q;show new
 .rw[bH hb] at q;by_cases Si:b=e
  .have q':H b=some^.own x:=by rcases he with z|z;show absurd (Si.trans z) hb;rw[Si];show z
   rw[q] at q';cases q';let#[v,hv]:=Vx;show#[v,by rw[Si];show hv]
  .show(ok b u q).stay (λc v hc r=>k c v ?_ r) (λc r=>by rw[bH^VO c b r];show r) λc xs r=>by rw[bH^aaw c xs r];show r
   rcases hc with rfl|hc;show Si;rintro rfl;rcases he with z|z;show VO c b hc z;rw[hc] at z;cases z;show hb rfl
end
structure Un (fs ex:List Addr) (H H':Hp) (h h':Heap):Prop where
 keep:∀b o,h.get? b=some o->H b=none->b∉fs->b∉ex->h'.get? b=some o
 slot:∀b o,h.get? b=some o->H b=none->b∈fs->b∉ex->∃sl,h'.get? b=some { o with slots:=sl }
 free:∀b o,h.get? b=some o->H b=none->b∉ex->H' b=none
 there:∀b o,h.get? b=some o->b∉ex->∃o',h'.get? b=some o'
 tups:∀b xs,H b=some^.tup xs->H' b=some (.tup xs)
 v9:∀b o u,H b=some^.zI o u->H' b=some^.zI o u
 yh:∀b ps,H b=some^.qC ps->∃more,H' b=some^.qC (ps++more)
section
variable {fs fs' ex ex':List Addr}{H H1 H2:Hp}{h1 h2:Heap}{x e:Addr}{o:HO}
def Un.any(u:Un fs ex H H1 h h1){ob:Obj}(q:h.get? b=some ob)(n:H b=none)(hx:b∉ex):∃sl,h1.get? b=some { ob with slots:=sl }:=by by_cases hb:b∈fs;show u.slot b ob q n hb hx;show#[ob.slots,u.keep b ob q n hb hx]
def Un.kept(k:∀b u,h.get? b=some u->h'.get? b=some u):Un fs ex H H h h' :=
 #[λb ob q _ _ _=>k b ob q,λb ob q _ _ _=>#[ob.slots,k b ob q],λ_ _ _ n _=>n,λb ob q _=>#[ob,k b ob q],λ_ _ q=>q,λ_ _ _ q=>q,λ_ ps q=>#[#[],by rw[q];simp]]
def Un.refl:Un fs ex H H h h:=Un.kept λ_ _ q=>q
def Un.laid(k:∀b u,h.get? b=some u->h'.get? b=some u)(hp:h.objs.size<=a)(hn:H a=none):Un fs ex H (upd H a o) h h' where
 keep:=λb u q _ _ _=>k b u q
 slot:=λb u q _ _ _=>#[u.slots,k b u q]
 free:=λb u q n _=>by rw[bH^aT^bX (aK q) hp];show n
 there:=λb u q _=>#[u,k b u q]
 tups:=λb xs q=>by rw[bH^aV q hn];show q
 v9:=λb u xs q=>by rw[bH^aV q hn];show q
 yh:=λb ps q=>#[#[],by rw[bH^aV q hn,q];simp]
def Un.write(mu:VN^H x)(he:e=x\/H e=some^.own x)(k:∀b u,b≠e->h.get? b=some u->h'.get? b=some u)(Vx:∃u,h'.get? e=some u):Un fs ex H (upd H x o) h h':=by
 have hx:∀b,H b=none->b≠x:=λb n z=>by subst z;rw[n] at mu;show mu
 have hb:∀b,H b=none->b≠e:=λb n z=>by subst z;rcases he with r|r;show hx b n r;rw[n] at r;cases r
 have hm:∀b u,H b=some u->¬VN^some u->b≠x:=λb u q nm z=>by subst z;rw[q] at mu;show nm mu
 show#[λb u q n _ _=>k b u (hb b n) q,λb u q n _ _=>#[u.slots,k b u (hb b n) q],λb u q n _=>by rw[bH^hx b n];show n,λb u q _=>?_,
  λb xs q=>by rw[bH (hm b _ q λz=>z)];show q,λb u xs q=>by rw[bH (hm b _ q λz=>z)];show q,λb ps q=>#[#[],by rw[bH (hm b _ q λz=>z),q];simp]]
 by_cases Si:b=e;subst Si;show Vx;show#[u,k b u Si q]
end
noncomputable def Y7(h:Heap)(H:Hp):List Addr:=(List.range h.objs.size).filter λa=>(H a).isSome
def qO(h:Heap)(H:Hp):Heap:=PySem.W.hideAll h^Y7 h H
def wH(h:Heap)(H:Hp):(qO h H).objs.size=h.objs.size:=PySem.W.hideAll_size _ _
def o7{o:Obj}(e:h.get? b=some o)(n:H b=none):(qO h H).get? b=some o :=
 PySem.W.hideAll_get _ e λhm=>by have q:(H b).isSome=true:=(c9.mp hm).2;rw[n] at q;simp at q
def ED{o:Obj}(e:(qO h H).get? b=some o):h.get? b=some o/\H b=none:=by
 have e':h.get? b=some o:=PySem.W.of_hideAll (Y7 h H) e;show#[e',?_];cases q:H b with
 | none=>rfl
 | some x =>
  have hm:b∈Y7 h H:=c9.mpr #[fN.mpr^aK e',by simp[q]];have z:(qO h H).get? b=none:=PySem.W.hideAll_none (Y7 h H) hm;rw[z] at e;cases e
noncomputable def NT(g h:Heap)(L:Addr):List (Addr×Obj):=(List.range h.objs.size).filterMap λa=>if a=L\/(g.get? a).isSome=true then none else(h.get? a).map λo=>(a,o)
noncomputable def rest(g h:Heap)(L d:Addr):List (Addr×Obj):=(NT g h L).filter λp=>decide (p.1≠d)
structure Mod (K:aF) (mg:Str->Option Value) (base:Heap):Prop where
 Vy:K.In base
 glob:base.Ns mainGlobals mg
 blt:∃mb,base.Ns builtinsNs mb/\∀x:Str,x ≠ "__name__" -> mb x=bootBuiltins x
 nolimit:base.NoLimit
structure Cx where
 prog:Program
 w:World
 K:aF
 mg:Str->Option Value
 base:Heap
 A:Around
 N:List Str
 s₀:Shared
 H₀:Hp
 env:Env
 outer:List Env
 stack:List Env
 ex:List Addr
 fn:Str->Bool
 calm:Bool
 pn:List (Addr×Obj)
 xe:Value->Shared->Prop
noncomputable def frs(l:List Env):List Addr:=l.filterMap (·.frame)
abbrev Cx.fs(X:Cx):List Addr:=frs X.outer
def Y8(sc:Scope)(x:Str):Prop:=sc.names.lookup x=some .local\/sc.names.lookup x=some .cell\/sc.names.lookup x=some .free
def Loc(sc:Scope)(x:Str):Prop:=sc.names.lookup x=some .local\/sc.names.lookup x=some .cell
def Look(env:Env)(h:Heap)(m:Str->Option Value)(x:Str)(u:Value):Prop :=
 (env.kindOf x=some .local/\m x=some u)\/((env.kindOf x=some .cell\/env.kindOf x=some .free)/\∃c,env.cells.lookup x=some c/\h.IsCell c^some u)
structure Cx.Ok (X:Cx):Prop where
 mod:Mod X.K X.mg X.base
 kind:X.env.scope.kind=.function
 glob:X.env.globals=mainGlobals
 blt:X.env.builtins=builtinsNs
 above:X.s₀.heap.objs.size<=X.env.locals
 inj:∀x y c,X.env.cells.lookup x=some c->X.env.cells.lookup y=some c->x=y
 has:∀x,(X.env.kindOf x=some .cell\/X.env.kindOf x=some .free)->∃c,X.env.cells.lookup x=some c
 VP:∀x c,X.fn x=true->X.env.cells.lookup x=some c->X.s₀.heap.objs.size<=c
 hd:X.calm=true->X.A.handled=none
 frames:X.A.frames=some X.stack
 stk:X.stack=X.outer\/(X.stack=X.env::X.outer/\X.env.frame=some X.env.locals)
 exf:∀b∈X.ex,b≠X.env.locals/\∀x c,X.env.cells.lookup x=some c->c≠b
 bs:∀b o,X.base.get? b=some o->X.s₀.heap.get? b=some o/\X.H₀ b=none
 NU:X.base.objs.size<=X.s₀.heap.objs.size
 Jz:∀b o,X.base.get? b=some o->b∉X.ex
 JA:∀b∈X.ex,b∉X.fs
 sD:X.s₀.heap.FunFrames X.base X.outer
 Sj:∀b∈X.fs,X.H₀ b=none
structure Inv (X:Cx) (u5:List (Addr×Obj)) (σ:List^Option V) (H:Hp) (s:Shared):Prop where
 ok:X.Ok
 os:s.os=X.s₀.os
 bare:AllBare s.gens
 base:Un X.fs X.ex X.H₀ H X.s₀.heap s.heap
 loc:∃m,s.heap.Ns X.env.locals m/\∀(i:Nat)(x:Str)(v:V),X.N[i]?=some x->σ[i]?=some^some v->Y8 X.env.scope x->∃u,RelV v u/\Look X.env s.heap m x u
 cell:∀x c,X.env.cells.lookup x=some c->∃v,s.heap.IsCell c v
 free:H X.env.locals=none
 jW:∀x c,X.env.cells.lookup x=some c->H c=none
 pin:∀p∈X.pn++u5,s.heap.get? p.1=some p.2/\H p.1=none/\p.1≠X.env.locals/\p.1∉X.fs/\∀v,p.2.data≠.cell v
 hok:lX X.prog X.w H s.heap
 len:σ.length=X.N.length
section
variable {X:Cx}{σ:List^Option V}{H H':Hp}
def Cx.Ok.aax(ok:X.Ok){o:Obj}(e:X.base.get? b=some o):b∉X.fs:=λhb=>by have:=(ok.sD.mem hb).1;rw[e] at this;cases this
theorem Inv.bs(I:Inv X u5 σ H s):∀b o,X.base.get? b=some o->s.heap.get? b=some o/\H b=none:=λb o e =>
 #[I.base.keep b o (I.ok.bs b o e).1 (I.ok.bs b o e).2 (I.ok.aax e)^I.ok.Jz b o e,I.base.free b o (I.ok.bs b o e).1 (I.ok.bs b o e).2^I.ok.Jz b o e]
def Inv.bk(I:Inv X u5 σ H s):∀b o,X.base.get? b=some o->s.heap.get? b=some o:=λb o e=>(I.bs b o e).1
theorem Inv.mod(I:Inv X u5 σ H s):Mod X.K X.mg X.base:=I.ok.mod
def Inv.yi(I:Inv X u5 σ H s):X.K.In s.heap:=I.ok.mod.Vy.keeps I.bk
theorem Inv.lt(I:Inv X u5 σ H s):X.env.locals<s.heap.objs.size:=let⟨_,hn,_⟩:=I.loc;hn.lt
def Inv.sz(I:Inv X u5 σ H s):X.s₀.heap.objs.size<=s.heap.objs.size:=bO I.ok.above^jE I.lt
def Inv.VQ(I:Inv X u5 σ H s)(h:s.heap.objs.size<=a):a∉X.fs:=λhb=>by let#[_,o,ho,_]:=I.ok.sD.mem hb;show absurd (bX (aK ho)^bO I.sz h)^gK _
def Inv.Sk(I:Inv X u5 σ H s):∀x c,X.env.cells.lookup x=some c->c≠X.env.locals:=λx c e z=>by let#[v,o,ho,hd]:=I.cell x c e;let#[m,#[o',es,ep,ho',hd',_],_]:=I.loc;rw[z,ho'] at ho;cases ho;rw[hd'] at hd;cases hd
theorem Inv.sD(I:Inv X u5 σ H s):s.heap.FunFrames X.base X.outer:=by
 have all:∀(l:List Env),(∀b∈frs l,b∈X.fs)->X.s₀.heap.FunFrames X.base l->s.heap.FunFrames X.base l:=by
  intro l;induction l with
  | nil=>intro _ _;trivial
  | cons env r ih =>
   intro hs hl;let#[hk,#[L,o,hf,hn,ho,hd],hr]:=hl;have hL:L∈X.fs:=hs L (by unfold frs;rw[List.filterMap_cons,hf];show jD);let#[sl,e]:=I.base.slot L o ho (I.ok.Sj L hL) hL λz=>I.ok.JA L z hL;show#[hk,#[L,_,hf,hn,e,hd],ih (λb hb=>hs b (by unfold frs;rw[List.filterMap_cons,hf];show cX _ hb)) hr]
 show all X.outer (λ_ hb=>hb) I.ok.sD
theorem Inv.stack(I:Inv X u5 σ H s):s.heap.FunFrames X.base X.stack:=by rcases I.ok.stk with e|⟨e,hf⟩;rw[e];show I.sD;rw[e];let#[m,hn,_]:=I.loc;show .cons (by rw[I.ok.kind];decide) hf hn ?_ I.sD;show Heap.get?_none_of_le^bO I.ok.NU I.ok.above
def Inv.yj(I:Inv X u5 σ H s):∀b∈frs X.stack,b∈X.env.locals::X.fs:=λb hb=>by rcases I.ok.stk with e|⟨e,hf⟩;rw[e] at hb;show cX _ hb;rw[e] at hb;unfold frs at hb;rw[List.filterMap_cons,hf] at hb;show hb
def Inv.yk(I:Inv X u5 σ H s):∀b∈frs X.stack,H b=none:=λb hb=>by rcases aH.mp^I.yj b hb with e|hb;rw[e];show I.free;let#[_,o,ho,_]:=I.ok.sD.mem hb;show I.base.free b o ho (I.ok.Sj b hb) λz=>I.ok.JA b z hb
def Inv.step{g':Array GenState}{d':Drawn}(I:Inv X u5 σ H s)
  (hch:∀b∈ch,(b∈X.ex\/X.s₀.heap.objs.size<=b)/\b≠X.env.locals/\(∀x c,X.env.cells.lookup x=some c->c≠b)/\∀p∈X.pn++u5,p.1≠b)
  (keep:∀b o,b≠X.env.locals->b∉X.fs->b∉ch->s.heap.get? b=some o->H b=none->h'.get? b=some o)
  (slot:∀b o,b≠X.env.locals->b∈X.fs->b∉ch->s.heap.get? b=some o->H b=none->∃sl,h'.get? b=some { o with slots:=sl })(free:∀b o,b∉ch->s.heap.get? b=some o->H b=none->H' b=none)
  (there:∀b o,b∉ch->s.heap.get? b=some o->∃o',h'.get? b=some o')
  (tups:∀b xs,H b=some^.tup xs->H' b=some^.tup xs)(v9:∀b o u,H b=some^.zI o u->H' b=some^.zI o u)(yh:∀b ps,H b=some^.qC ps->∃more,H' b=some^.qC (ps++more))
  (ns:∀m,s.heap.Ns X.env.locals m->h'.Ns X.env.locals m)(hok:lX X.prog X.w H' h')(hg:AllBare g'):
  Inv X u5 σ H' { s with heap:=h',gens:=g',drawn:=d',toks:=t' }:=by
 have neL:∀b o,X.s₀.heap.get? b=some o->b≠X.env.locals:=λb o e=>aT^bX (aK e) I.ok.above;have Y9:∀b o,X.s₀.heap.get? b=some o->b∉X.ex->b∉ch:=λb o e hx hb=>by rcases(hch b hb).1 with z|z;show hx z;show absurd (bX (aK e) z)^gK _
 have cellK:∀x c,X.env.cells.lookup x=some c->∀v,s.heap.IsCell c v->h'.IsCell c v:=λx c e v ⟨o,ho,hd⟩=>by have VR:c∉ch:=λz=>(hch c z).2.2.1 x c e rfl;by_cases hc:c∈X.fs;let#[sl,q]:=slot c o (I.Sk x c e) hc VR ho^I.jW x c e;show#[_,q,hd];show#[o,keep c o (I.Sk x c e) hc VR ho^I.jW x c e,hd]
 show#[I.ok,I.os,hg,#[λb o e n hb hx=>?_,λb o e n hb hx=>?_,λb o e n hx=>?_,λb o e hx=>?_,λb xs e=>tups b xs^I.base.tups b xs e,λb o xs e=>v9 b o xs^I.base.v9 b o xs e,λb ps e=>?_],?_,λx c e=>?_,?_,λx c e=>?_,λp hp=>?_,hok,I.len];show keep b o (neL b o e) hb (Y9 b o e hx) (I.base.keep b o e n hb hx)^I.base.free b o e n hx;let#[sl,e1]:=I.base.slot b o e n hb hx;let#[Nz,e2]:=slot b _ (neL b o e) hb (Y9 b o e hx) e1^I.base.free b o e n hx;show#[Nz,e2];let#[o',e1]:=I.base.there b o e hx;show free b o' (Y9 b o e hx) e1^I.base.free b o e n hx;let#[o',e1]:=I.base.there b o e hx;show there b o' (Y9 b o e hx) e1;let#[m1,e1]:=I.base.yh b ps e;let#[m2,e2]:=yh b _ e1;show#[m1++m2,by rw[e2,Array.append_assoc]];let#[m,hn,hl]:=I.loc;show#[m,ns m hn,λi x v e1 e2 e3=>?_];let#[u,r,l]:=hl i x v e1 e2 e3;show#[u,r,?_];rcases l with l|⟨k,c,e,z⟩;show .inl l;show .inr #[k,c,e,cellK x c e _ z];let#[v,z]:=I.cell x c e;show#[v,cellK x c e v z];let#[m,#[o,_,_,ho,_],_]:=I.loc;show free _ o (λz=>(hch _ z).2.1 rfl) ho I.free;let#[v,o,ho,hd]:=I.cell x c e;show free c o (λz=>(hch c z).2.2.1 x c e rfl) ho^I.jW x c e;let#[e,n,ne,nf,d]:=I.pin p hp;have VR:p.1∉ch:=λz=>(hch p.1 z).2.2.2 p hp rfl;show#[keep p.1 p.2 ne nf VR e n,free p.1 p.2 VR e n,ne,nf,d]
def Inv.un(I:Inv X u5 σ H s)(u:Un X.fs [] H H' s.heap h')(hok:lX X.prog X.w H' h'):Inv X u5 σ H' { s with heap:=h',toks:=t' }:=by
 let#[m,#[o,es,ep,ho,r],_]:=id I.loc;let#[sl,hL]:=u.any ho I.free (by simp);show I.step (g':=s.gens) (d':=s.drawn) (ch:=[]) (λ_ z=>nomatch z) (λb o _ hb _ e n=>u.keep b o e n hb^by simp) (λb o _ hb _ e n=>u.slot b o e n hb^by simp) (λb o _ e n=>u.free b o e n^by simp) (λb o _ e=>u.there b o e^by simp) u.tups u.v9 u.yh (λm' hm=>by
  let#[o',es',rP,ho',r']:=hm;rw[ho] at ho';cases ho';show#[_,es',rP,hL,r']) hok I.bare
def Inv.call{g':Array GenState}{d':Drawn}(I:Inv X u5 σ H s)(u:Un (frs X.stack) ch H H' s.heap h')(hok:lX X.prog X.w H' h')(hg:AllBare g')
  (hch:∀b∈ch,(b∈X.ex\/X.s₀.heap.objs.size<=b)/\b≠X.env.locals/\(∀x c,X.env.cells.lookup x=some c->c≠b)/\∀p∈X.pn++u5,p.1≠b):
  Inv X u5 σ H' { s with heap:=h',gens:=g',drawn:=d',toks:=t' }:=by
 let#[m,#[o,es,ep,ho,r],_]:=id I.loc;let#[sl,hL]:=u.any ho I.free λz=>(hch _ z).2.1 rfl;show I.step (ch:=ch) hch (λb o hL hb hc e n=>u.keep b o e n (λz=>(aH.mp^I.yj b z).elim hL hb) hc) (λb o _ _ hc e n=>u.any e n hc) (λb o hc e n=>u.free b o e n hc) (λb o hc e=>u.there b o e hc) u.tups u.v9 u.yh (λm' hm=>by
  let#[o',es',rP,ho',r']:=hm;rw[ho] at ho';cases ho';show#[_,es',rP,hL,r']) hok hg
def Inv.turned(I:Inv X u5 σ H s)(k:∀b o,b≠it->s.heap.get? b=some o->h'.get? b=some o)(hn:H it=none)(hL:it≠X.env.locals)
  (h1:it∈X.ex\/X.s₀.heap.objs.size<=it)(h2:∀x c,X.env.cells.lookup x=some c->c≠it)(h3:∀p∈X.pn++u5,p.1≠it):Inv X u5 σ H { s with heap:=h',toks:=t' }:=by
 have VS:∀b u,H b=some u->b≠it:=λb u e z=>by rw[z,hn] at e;cases e
 show I.step (g':=s.gens) (d':=s.drawn) (ch:=[it]) (λb hb=>?_) (λb o _ _ hc e _=>k b o (λz=>hc^by simp[z]) e) (λb o _ _ hc e _=>#[o.slots,k b o (λz=>hc^by simp[z]) e]) (λ_ _ _ _ n=>n)
  (λb o hc e=>#[o,k b o (λz=>hc^by simp[z]) e]) (λ_ _ e=>e) (λ_ _ _ e=>e) (λb ps e=>#[#[],by rw[e];simp]) (λm hm=>?_) (λb u e=>?_) I.bare
 .have e:b=it:=by simpa using hb
  subst e;show#[h1,hL,h2,h3]
 .let#[o,es,ep,ho,r]:=hm;show#[o,es,ep,k _ o (bz hL) ho,r]
 .show(I.hok b u e).stay (λc v hc q=>k c v ?_ q) (λ_ q=>q) λ_ _ q=>q;rcases hc with z|z;rw[z];show VS b u e;show VS c _ z
def Inv.tok(I:Inv X u5 σ H s)(t:Nat):Inv X u5 σ H { s with toks:=t }:=I.un (h':=s.heap) (t':=t) Un.refl I.hok
theorem Inv.kept(I:Inv X u5 σ H s)(k:∀b u,s.heap.get? b=some u->h'.get? b=some u):Inv X u5 σ H { s with heap:=h',toks:=t' }:=I.un (Un.kept k)^I.hok.kept k
theorem Inv.laid(I:Inv X u5 σ H s)(k:∀b u,s.heap.get? b=some u->h'.get? b=some u)(hp:s.heap.objs.size<=a)(new:dg X.prog X.w (upd H a o) h' a o):
  Inv X u5 σ (upd H a o) { s with heap:=h',toks:=t' }:=I.un (Un.laid k hp^I.hok.fresh hp)^I.hok.laid k hp new
theorem Inv.write{x e:Addr}(I:Inv X u5 σ H s)(mu:VN^H x)(he:e=x\/H e=some^.own x)(k:∀b u,b≠e->s.heap.get? b=some u->h'.get? b=some u)(Vx:∃u,h'.get? e=some u)
  (new:dg X.prog X.w (upd H x o) h' x o):Inv X u5 σ (upd H x o) { s with heap:=h',toks:=t' }:=I.un (Un.write mu he k Vx)^I.hok.write mu he k Vx new
def Inv.sN{JB:List (Addr×Obj)}(I:Inv X u5 σ H s)(h:∀p∈JB,s.heap.get? p.1=some p.2/\H p.1=none/\p.1≠X.env.locals/\p.1∉X.fs/\∀v,p.2.data≠.cell v):Inv X JB σ H s :=
 #[I.ok,I.os,I.bare,I.base,I.loc,I.cell,I.free,I.jW,λp hp=>(aP.mp hp).elim (λz=>I.pin p^kU _ z)^h p,I.hok,I.len]
def zQ(hN:N.Nodup)(a:N[i]?=some x)(b:N[j]?=some x):i=j:=by let#[h1,e1]:=eX a;let#[h2,e2]:=eX b;show(tY hN).mp^e1.trans e2.symm
def qP(I:Inv X u5 σ H s)(hN:X.N.Nodup)(hi:X.N[i]?=some x)(hx:Loc X.env.scope x)(r:RelV v u)
  (h:∀s',Inv X u5 (σ.set i^some v) H s'->(∃a,Heap.SameBut a s.heap s'.heap/\(a=X.env.locals\/X.env.cells.lookup x=some a))->Q () s')(hf:X.fn x=true\/X.env.scope.names.lookup x=some .local:=by first|exact .inl rfl|exact .inr rfl|assumption):wpAny M A (storeName X.env x u) Q E s:=by
 let#[m,hn,hl]:=id I.loc;have hcls:(X.env.scope.kind==.class||(X.env.scope.kind==.module&&X.env.locals != X.env.globals))=false:=by rw[I.ok.kind];rfl
 have hiσ:i<σ.length:=by rw[I.len];show(eX hi).1
 have Sk:=I.Sk;have tracked:∀{a:Addr}{h':Heap},(∃o,s.heap.get? a=some o/\H a=none)->Heap.SameBut a s.heap h'->lX X.prog X.w H h':=λ{a h'} ha hs b ob e=>by let#[_,_,hfree]:=ha;show(I.hok b ob e).stay (λc w' hc q=>(hs.2 c ?_).trans q) (λ_ q=>q) λ_ _ q=>q;rintro rfl;rcases hc with rfl|hc;rw[hfree] at e;cases e;rw[hfree] at hc;cases hc
 rcases hx with hk|hk
 .show wpAny_storeName_local hk hn (λh' hn' hs=>?_) hcls;let#[oL,_,_,hoL,_]:=id hn;show h _ #[I.ok,I.os,I.bare,#[λb o e n hb hx=>?_,λb o e n hb hx=>?_,I.base.free,λb o e hx=>?_,I.base.tups,I.base.v9,I.base.yh],#[_,hn',λj y v' e1 e2 e3=>?_],λy c e=>?_,I.free,I.jW,λp hp=>?_,tracked #[oL,hoL,I.free] hs,by simpa using I.len] #[_,hs,.inl rfl];show(hs.2 b^aT^bX (aK e) I.ok.above).trans^I.base.keep b o e n hb hx;let#[sl,e1]:=I.base.slot b o e n hb hx;show#[sl,(hs.2 b^aT^bX (aK e) I.ok.above).trans e1];let#[o',e1]:=I.base.there b o e hx;show#[o',(hs.2 b^aT^bX (aK e) I.ok.above).trans e1]
  .by_cases hj:j=i;subst hj;rw[hi] at e1;cases e1;rw[List.getElem?_set_self hiσ] at e2;cases e2;show#[u,r,.inl #[hk,by simp]]
   .rw[qK^bz hj] at e2;let#[u',r',q]:=hl j y v' e1 e2 e3;show#[u',r',?_];rcases q with⟨k,e⟩|⟨k,c,e,z⟩
    .show .inl #[k,?_];have:y≠x:=λe=>hj^zQ hN e1 (e▸hi);simp[this,e]
    .show .inr #[k,c,e,z.sameBut hs^Sk y c e]
  .let#[w',z]:=I.cell y c e;show#[w',z.sameBut hs^Sk y c e]
  .let#[e,n,ne,nf,d]:=I.pin p hp;show#[(hs.2 p.1 ne).trans e,n,ne,nf,d]
 .have hfn:X.fn x=true:=by rcases hf with z|z;show z;rw[z] at hk;cases hk
  let#[c,hc]:=I.ok.has x^.inl hk;let#[w',z]:=I.cell x c hc;show wpAny_storeName_cell I.ok.kind hk hc z (λh' hc' hs=>?_);let#[oc,hoc,aay]:=id z;show h { s with heap:=h' } #[I.ok,I.os,I.bare,#[λb o e n hb hx=>?_,λb o e n hb hx=>?_,I.base.free,λb o e hx=>?_,I.base.tups,I.base.v9,I.base.yh],#[m,hn.sameBut hs^bz^Sk x c hc,λj y v' e1 e2 e3=>?_],λy c' e=>?_,I.free,I.jW,λp hp=>?_,tracked #[oc,hoc,I.jW x c hc] hs,by simpa using I.len] #[c,hs,.inr hc];show(hs.2 b^aT^bX (aK e)^I.ok.VP x c hfn hc).trans^I.base.keep b o e n hb hx;let#[sl,e1]:=I.base.slot b o e n hb hx;show#[sl,(hs.2 b^aT^bX (aK e)^I.ok.VP x c hfn hc).trans e1];let#[o',e1]:=I.base.there b o e hx;show#[o',(hs.2 b^aT^bX (aK e)^I.ok.VP x c hfn hc).trans e1]
  .by_cases hj:j=i;subst hj;rw[hi] at e1;cases e1;rw[List.getElem?_set_self hiσ] at e2;cases e2;show#[u,r,.inr #[.inl hk,c,hc,hc']]
   .rw[qK^bz hj] at e2;let#[u',r',q]:=hl j y v' e1 e2 e3;show#[u',r',?_];rcases q with q|⟨k,c',e,z'⟩;show .inl q
    .show .inr #[k,c',e,z'.sameBut hs ?_];rintro rfl;show hj^zQ hN e1 (I.ok.inj _ _ _ e hc▸hi)
  .by_cases hcc:c'=c;subst hcc;show#[_,hc'];let#[w2,z2]:=I.cell y c' e;show#[w2,z2.sameBut hs hcc]
  .let#[e,n,ne,nf,d]:=I.pin p hp;show#[(hs.2 p.1 ?_).trans e,n,ne,nf,d];intro q;rw[q,hoc] at e;have q':oc=p.2:=Option.some.inj e;show d w' (by rw[<- q'];show aay)
def ug(I:Inv X u5 σ H s)(hN:X.N.Nodup)(hi:X.N[i]?=some x)(hx:Loc X.env.scope x)(r:RelV v u)
  (h:∀s',Inv X u5 (σ.set i^some v) H s'->Q () s')(hf:X.fn x=true\/X.env.scope.names.lookup x=some .local:=by first|exact .inl rfl|exact .inr rfl|assumption):wpAny M A (storeName X.env x u) Q E s :=
 qP I hN hi hx r (λs' I' _=>h s' I') hf
def Inv.QB{s':Shared}(I:Inv X u5 σ H s)(ho:s'.os=s.os)(u:Un (frs X.stack) ch H H' s.heap s'.heap)(hok:lX X.prog X.w H' s'.heap)(hg:AllBare s'.gens)
  (hch:∀b∈ch,(b∈X.ex\/X.s₀.heap.objs.size<=b)/\b≠X.env.locals/\(∀x c,X.env.cells.lookup x=some c->c≠b)/\∀p∈X.pn++u5,p.1≠b):Inv X u5 σ H' s':=by let#[h',g',d',t',o']:=s';have e:o'=s.os:=ho;subst e;show I.call (g':=g') (t':=t') (d':=d') u hok hg hch
end
abbrev XK:=Value->Option Addr->Hp->Prop
abbrev St:=List^Option V
abbrev VK:=V->Hp->Prop
abbrev TE:=St->Hp->VK->Prop
abbrev TT:=St->Hp->(Bool->Hp->Prop)->Prop
abbrev TA:=St->Hp->(List V->Hp->Prop)->Prop
structure Ends where
 nx:St->Hp->Prop
 rt:VK
 bk:St->Hp->Prop:=λ_ _=>False
 ct:St->Hp->Prop:=λ_ _=>False
abbrev TS:=Ends->St->Hp->Prop
def EP(X:Cx)(u5:List (Addr×Obj))(σ:St)(Q:VK)(u:Value)(s':Shared):Prop:=∃v H',Inv X u5 σ H' s'/\RelV v u/\Q v H'
def TP(X:Cx)(u5:List (Addr×Obj))(σ:St)(Q:Bool->Hp->Prop)(b:Bool)(s':Shared):Prop:=∃H',Inv X u5 σ H' s'/\Q b H'
def AP(X:Cx)(u5:List (Addr×Obj))(σ:St)(Q:List V->Hp->Prop)(us:List Value)(s':Shared):Prop:=∃vs H',Inv X u5 σ H' s'/\Vals vs us/\Q vs H'
def SP(X:Cx)(u5:List (Addr×Obj))(D:Ends)(f:Flow)(s':Shared):Prop :=
 match f with
 | .next=>∃σ' H',Inv X u5 σ' H' s'/\D.nx σ' H'
 | .brk=>∃σ' H',Inv X u5 σ' H' s'/\D.bk σ' H'
 | .cont=>∃σ' H',Inv X u5 σ' H' s'/\D.ct σ' H'
 | .ret u=>∃v σ' H',Inv X u5 σ' H' s'/\RelV v u/\D.rt v H'
def PE(X:Cx)(e:Expr)(t:TE):Prop :=
 ∀(u5:List (Addr×Obj))(s:Shared)(σ:St)(H:Hp)(Q:VK),Inv X u5 σ H s->t σ H Q->wpAny (model X.prog X.w) X.A (eval e X.env) (EP X u5 σ Q) X.xe s
def PT(X:Cx)(e:Expr)(t:TT):Prop :=
 ∀(u5:List (Addr×Obj))(s:Shared)(σ:St)(H:Hp)(Q:Bool->Hp->Prop),Inv X u5 σ H s->t σ H Q->wpAny (model X.prog X.w) X.A (isTrue e X.env^eval e X.env) (TP X u5 σ Q) X.xe s
def PW(X:Cx)(e:Expr)(t:TT):Prop :=
 ∀(whole:Sem Value)(u5:List (Addr×Obj))(s:Shared)(σ:St)(H:Hp)(Q:Bool->Hp->Prop),Inv X u5 σ H s->t σ H Q->wpAny (model X.prog X.w) X.A (isTrue e X.env whole) (TP X u5 σ Q) X.xe s
def PW.pt{t:TT}(h:PW X e t):PT X e t:=h _
def PA(X:Cx)(es:List Expr)(t:TA):Prop :=
 ∀(pos:Pos)(u5:List (Addr×Obj))(s:Shared)(σ:St)(H:Hp)(Q:List V->Hp->Prop),Inv X u5 σ H s->t σ H Q->wpAny (model X.prog X.w) X.A (spliced^backTo pos^starEach es X.env) (AP X u5 σ Q) X.xe s
def PS(X:Cx)(st:Stmt)(t:TS):Prop :=
 ∀(u5:List (Addr×Obj))(s:Shared)(σ:St)(H:Hp)(D:Ends),Inv X u5 σ H s->t D σ H->wpAny (model X.prog X.w) X.A (exec st X.env) (SP X u5 D) X.xe s
def wI(X:Cx)(st:List Stmt)(t:TS):Prop :=
 ∀(u5:List (Addr×Obj))(s:Shared)(σ:St)(H:Hp)(D:Ends),Inv X u5 σ H s->t D σ H->wpAny (model X.prog X.w) X.A (execs st X.env) (SP X u5 D) X.xe s
def c7{α:Type}{t:Sem α}{Q Q':α->Shared->Prop}(h:wpAny M A t Q E s)(hQ:∀a s,Q a s->Q' a s):wpAny M A t Q' E s:=wpAny_mono h hQ λ_ _ x=>x
section
variable {X:Cx}
def nT(i:Nat):TE:=λσ H Q=>∃v,σ[i]?=some^some v/\Q v H
def tC(v:V):TE:=λ_ H Q=>Q v H
def Sl(hN:X.N[i]?=some x)(hv:Y8 X.env.scope x)(hd:(x==("__debug__" : Str))=false:=by decide)(hcd:(x==("__classdict__" : Str))=false:=by decide):PE X (.Name x pos)^nT i:=by
 intro u5 s σ H Q I h;let#[v,e,h]:=h;let#[m,hn,hl]:=I.loc;let#[u,r,l]:=hl i x v hN e hv;have fin:EP X u5 σ Q u s:=#[v,H,I,r,h];rcases l with⟨hk,hm⟩|⟨hk,c,hc,hcell⟩;show wpAny_Name (wpAny_loadName_local I.ok.kind hk hn hm fin) hd
 .rcases hk with hk|hk;show wpAny_Name (wpAny_loadName_cell I.ok.kind hk hc hcell fin) hd;show wpAny_Name (wpAny_loadName_free I.ok.kind hk hc hcell fin hcd) hd
def ai{i j pos}:PE X (.Constant (.int i) j pos)^tC^.int i:=λ_ _ _ H _ I h=>wpAny_Constant_int #[.int i,H,I.tok _,#[_,rfl],h]
def jm{b j pos}:PE X (.Constant (.bool b) j pos)^tC^.bl b:=λ_ _ _ H _ I h=>Constant_bool #[.bl b,H,I,rfl,h]
def j6{j pos}:PE X (.Constant .none j pos)^tC .dD:=λ_ _ _ H _ I h=>Constant_none #[.dD,H,I,rfl,h]
def aR{x j pos}:PE X (.Constant (.str x) j pos)^tC^.str x:=λ_ _ _ H _ I h=>Calls.Constant_str #[.str x,H,I.tok _,#[_,rfl],h]
def Gl(X:Cx)(x:Str):Prop:=X.env.kindOf x=some .globalImplicit
def EE{σ:St}{Q:Value->Shared->Prop}(I:Inv X u5 σ H s)(hg:Gl X x)(hm:X.mg x=some u)(h:Q u s)
  (hd:(x==("__debug__" : Str))=false:=by decide):wpAny (model X.prog X.w) X.A (eval (.Name x pos) X.env) Q E s :=
 Calls.Name_function_global I.ok.kind hg (Calls.loadGlobal_global (by rw[I.ok.glob];show I.mod.glob.keeps I.bk) hm h) hd
def jF{σ:St}{Q:Value->Shared->Prop}(I:Inv X u5 σ H s)(hg:Gl X x)(hm:X.mg x=none)(hv:bootBuiltins x=some u)(h:Q u s)
  (hn:x ≠ "__name__" := by decide)(hd:(x==("__debug__" : Str))=false:=by decide):wpAny (model X.prog X.w) X.A (eval (.Name x pos) X.env) Q E s:=by let#[mb,h1,h2]:=I.mod.blt;show Calls.Name_function_global I.ok.kind hg (Calls.loadGlobal_builtin (by rw[I.ok.glob];show I.mod.glob.keeps I.bk) hm (by rw[I.ok.blt];show h1.keeps I.bk) ((h2 x hn).trans hv) h) hd
def gD(hg:Gl X x)(hm:X.mg x=some u)(r:RelV v u)(hd:(x==("__debug__" : Str))=false:=by decide):PE X (.Name x pos) (tC v) :=
 λ_ _ _ H _ I h=>EE I hg hm #[v,H,I,r,h] hd
def NV(hg:Gl X x)(hm:X.mg x=none)(hv:bootBuiltins x=some u)(r:RelV v u)(hn:x ≠ "__name__" := by decide)(hd:(x==("__debug__" : Str))=false:=by decide):PE X (.Name x pos) (tC v) :=
 λ_ _ _ H _ I h=>jF I hg hm hv #[v,H,I,r,h] hn hd
variable {a b:Expr}{ta tb:TE}
def PC(X:Cx)(op:CmpOp)(a b:Expr)(t:TE):Prop :=
 ∀(u5:List (Addr×Obj))(s:Shared)(σ:St)(H:Hp)(Q:VK),Inv X u5 σ H s->t σ H Q ->
  wpAny (model X.prog X.w) X.A (eval a X.env) (λv s₁=>wpAny (model X.prog X.w) X.A (eval b X.env) (λu s₂=>wpAny (model X.prog X.w) X.A (compareOp op v u) (EP X u5 σ Q) X.xe s₂) X.xe s₁) X.xe s
def JC(b:Expr)(h:op≠.In)(h2:op≠.NotIn):behindInMarks op b=false:=by
 have e1:(op==CmpOp.In)=false:=by cases op<;>first|rfl|show absurd rfl h
 have e2:(op==CmpOp.NotIn)=false:=by cases op<;>first|rfl|show absurd rfl h2
 cases b<;>simp[behindInMarks,e1,e2]
def tB(t:TE):TT:=λσ H Q=>t σ H λx H1=>∃c,x=.bl c/\Q c H1
def CS(h:PC X op a b t)(h1:behindInMarks op b=false:=by first|exact JC _ (by decide) (by decide)|rfl):PT X (.Compare a [op] [b] pos)^tB t:=by intro u5 s σ H Q I hw;show wpAny_isTrue_Compare1 (c7 (h u5 s σ H _ I hw) λv s1 h1=>c7 h1 λu s2 h2=>c7 h2 λc s3 zq=>?_) h1;let#[x,H1,I1,r1,q1]:=zq;let#[d,rfl,q]:=q1;cases r1;show wpAny_truthy_bool #[H1,I1,q]
def k6(h:PE X e t)(he:∀whole,isTrue e X.env whole=(do let v <- whole;standAt e.pos;holding [v]^truthy v):=by intro _;rfl):PT X e^tB t:=by intro u5 s σ H Q I hw;show isTrue_plain (c7 (h u5 s σ H _ I hw) λv s1 zq=>?_)^he _;let#[x,H1,I1,r1,q1]:=zq;let#[d,rfl,q]:=q1;cases r1;show wpAny_truthy_bool #[H1,I1,q]
variable {tA Za:TT}{rest:List Expr}
def VT(t u:TT):TT:=λσ H Q=>t σ H λc H1=>if c=true then u σ H1 Q else Q false H1
def tOr(t u:TT):TT:=λσ H Q=>t σ H λc H1=>if c=true then Q true H1 else u σ H1 Q
def VU(t:TT):TT:=λσ H Q=>t σ H λc H1=>Q (!c) H1
def f6(ha:PT X a tA):PW X (.BoolOp .And [a] pos) tA:=by
 intro wh u5 s σ H Q I h;show isTrue_and (c7 (ha u5 s σ H Q I h) λc s1 e=>?_);cases c with
 | true=>show isTrue_and_nil e
 | false=>show e
def jk(ha:PT X a tA):PW X (.BoolOp .Or [a] pos) tA:=by
 intro wh u5 s σ H Q I h;show isTrue_or (c7 (ha u5 s σ H Q I h) λc s1 e=>?_);cases c with
 | false=>show isTrue_or_nil e
 | true=>show e
def ia(ha:PT X a tA)(hb:PW X (.BoolOp .And (b::rest) pos) Za):PW X (.BoolOp .And (a::b::rest) pos)^VT tA Za:=by
 intro wh u5 s σ H Q I h;show isTrue_and (c7 (ha u5 s σ H _ I h) λc s1 zq=>?_);let#[H1,I1,q1]:=zq;cases c with
 | true=>show hb wh u5 s1 σ H1 Q I1 q1
 | false=>show#[H1,I1,q1]
def lO(ha:PT X a tA)(hb:PW X (.BoolOp .Or (b::rest) pos) Za):PW X (.BoolOp .Or (a::b::rest) pos)^tOr tA Za:=by
 intro wh u5 s σ H Q I h;show isTrue_or (c7 (ha u5 s σ H _ I h) λc s1 zq=>?_);let#[H1,I1,q1]:=zq;cases c with
 | true=>show#[H1,I1,q1]
 | false=>show hb wh u5 s1 σ H1 Q I1 q1
def qQ(ha:PT X a tA):PT X (.UnaryOp .Not a pos)^VU tA:=by intro u5 s σ H Q I h;show isTrue_not^ha u5 s σ H (λc H1=>Q (!c) H1) I h
def QC(ta tb:TE):TE:=λσ H Q=>ta σ H λx H1=>∃c,x=.bl c/\if c=true then tb σ H1 Q else Q (.bl false) H1
def VV(ta tb:TE):TE:=λσ H Q=>ta σ H λx H1=>∃c,x=.bl c/\if c=true then Q (.bl true) H1 else tb σ H1 Q
def um{op}(h:PE X a t):PE X (.BoolOp op [a] pos) t:=λu5 s σ H Q I hw=>BoolOp_one^h u5 s σ H Q I hw
def CU(ha:PE X a ta)(hb:PE X (.BoolOp .And (b::rest) pos) tb):PE X (.BoolOp .And (a::b::rest) pos)^QC ta tb:=by
 intro u5 s σ H Q I h;show BoolOp_and (c7 (ha u5 s σ H _ I h) λv s1 zq=>?_);let#[x,H1,I1,r1,q1]:=zq;let#[c,rfl,q1]:=q1;cases r1;show wpAny_truthy_bool ?_;cases c with
 | true=>show hb u5 s1 σ H1 Q I1 q1
 | false=>show#[.bl false,H1,I1,rfl,q1]
def QD(ha:PE X a ta)(hb:PE X (.BoolOp .Or (b::rest) pos) tb):PE X (.BoolOp .Or (a::b::rest) pos)^VV ta tb:=by
 intro u5 s σ H Q I h;show BoolOp_or (c7 (ha u5 s σ H _ I h) λv s1 zq=>?_);let#[x,H1,I1,r1,q1]:=zq;let#[c,rfl,q1]:=q1;cases r1;show wpAny_truthy_bool ?_;cases c with
 | false=>show hb u5 s1 σ H1 Q I1 q1
 | true=>show#[.bl true,H1,I1,rfl,q1]
def tIf(t:TT)(ta tb:TE):TE:=λσ H Q=>t σ H λc H1=>if c=true then ta σ H1 Q else tb σ H1 Q
def fO(hc:PT X c tA)(ha:PE X a ta)(hb:PE X b tb):PE X (.IfExp c a b pos)^tIf tA ta tb:=by
 intro u5 s σ H Q I h;show wpAny_IfExp (c7 (hc u5 s σ H _ I h) λd s1 zq=>?_);let#[H1,I1,q1]:=zq;cases d with
 | true=>show ha u5 s1 σ H1 Q I1 q1
 | false=>show hb u5 s1 σ H1 Q I1 q1
end
def bB(K:aF)(H:Hp)(a:Addr)(xs:List V):Prop :=
 Rd H a (.lst xs) \/
  ∃(o:Obj)(its:Array Value)(n:Nat),K.lookup a=some o/\o.cls=.type "list" /\ o.dict=none/\o.data=.seq its n/\its.size<=sizeLine/\Vals xs its.toList
def cY(K:aF)(H:Hp)(a:Addr)(xs:List V):Prop :=
 Rd H a (.tup xs) \/
  ∃(o:Obj)(its:Array Value)(n:Nat),K.lookup a=some o/\o.cls=.type "tuple" /\ o.data=.seq its n/\its.size<=sizeLine/\Vals xs its.toList
noncomputable def aaz:Value->Option V
 | .none=>some .dD
 | .bool b=>some^.bl b
 | .int i _=>some^.int i
 | .str x _=>some^.str x
 | .bytes b _=>some^.GO b
 | .float b _=>some^.Vw b
 | .ref a=>some^.ref a
 | .type n=>some^.ty n
 | _=>none
def RelV.abs{x:V}(r:RelV x u):aaz u=some x:=by
 cases x with
 | dD=>cases r;rfl
 | bl _=>cases r;rfl
 | int _=>let#[t,rfl]:=r;rfl
 | str _=>let#[t,rfl]:=r;rfl
 | GO _=>let#[t,rfl]:=r;rfl
 | Vw _=>let#[t,rfl]:=r;rfl
 | ref _=>cases r;rfl
 | ty _=>cases r;rfl
theorem RelV.inj{x y:V}(r:RelV x u)(q:RelV y u):x=y:=Option.some.inj^r.abs.symm.trans q.abs
theorem Vals.inj:∀{xs ys:List V}{us:List Value},Vals xs us->Vals ys us->xs=ys
 | _,_,_,.nil,.nil=>rfl
 | _,_,_,.cons r t,.cons r' t'=>by rw[r.inj r',Vals.inj t t']
section
variable {X:Cx}{σ:St}{H:Hp}{xs ys:List V}
def bB.of(h:H a=some^.lst xs):bB K H a xs:=.inl^.inl h
def cY.of(h:H a=some^.tup xs):cY K H a xs:=.inl^.inl h
theorem Inv.list(I:Inv X u5 σ H s)(h:bB X.K H a xs):∃its:List Value,Vals xs its/\PlainL s.heap a its.toArray/\xs.length<=sizeLine:=by rcases h with h|⟨o,its,n,hk,hc,hd,hs,hz,r⟩;let#[z,its,n,r,e]:=h.ok I.hok;show#[its,r,#[_,n,e,rfl,rfl,rfl],z];show#[its.toList,r,#[o,n,I.yi a o hk,hc,hd,by simpa using hs],?_];have e:=r.length;erw[c8] at e;lia
theorem Inv.tuple(I:Inv X u5 σ H s)(h:cY X.K H a xs):∃its:List Value,Vals xs its/\IsTup s.heap a its.toArray/\xs.length<=sizeLine:=by rcases h with h|⟨o,its,n,hk,hc,hs,hz,r⟩;let#[z,its,r,p]:=h.ok I.hok;show#[its,r,p,z];show#[its.toList,r,#[o,I.yi a o hk,hc,n,by simpa using hs],?_];have e:=r.length;erw[c8] at e;lia
def Inv.JD(I:Inv X u5 σ H s)(h:bB X.K H a xs)(h':bB X.K H a ys):xs=ys:=by
 let#[its,r,#[o,n,e,_,_,d],_]:=I.list h;let#[its',r',#[o',n',e',_,_,d'],_]:=I.list h';rw[e] at e';cases e';rw[d] at d';injection d' with d1 _;have:its=its':=by simpa using congrArg Array.toList d1
 subst this;show r.inj r'
def Inv.GQ(I:Inv X u5 σ H s)(h:cY X.K H a xs)(h':cY X.K H a ys):xs=ys:=by
 let#[its,r,#[o,e,_,n,d],_]:=I.tuple h;let#[its',r',#[o',e',_,n',d'],_]:=I.tuple h';rw[e] at e';cases e';rw[d] at d';injection d' with d1 _;have:its=its':=by simpa using congrArg Array.toList d1
 subst this;show r.inj r'
end
noncomputable abbrev Cx.uo(X:Cx)(E:Value->Shared->Prop):Cx:={ X with xe:=E }
noncomputable abbrev Cx.Sm(X:Cx):Cx:=X.uo λ_ _=>False
theorem Cx.Ok.uo(ok:X.Ok)(E:Value->Shared->Prop):(X.uo E).Ok :=
 #[ok.mod,ok.kind,ok.glob,ok.blt,ok.above,ok.inj,ok.has,ok.VP,ok.hd,ok.frames,ok.stk,ok.exf,ok.bs,ok.NU,ok.Jz,ok.JA,ok.sD,ok.Sj]
def Cx.Ok.mw(ok:(X.uo E).Ok):X.Ok :=
 #[ok.mod,ok.kind,ok.glob,ok.blt,ok.above,ok.inj,ok.has,ok.VP,ok.hd,ok.frames,ok.stk,ok.exf,ok.bs,ok.NU,ok.Jz,ok.JA,ok.sD,ok.Sj]
section
variable {X:Cx}{σ:St}{H:Hp}
theorem Inv.uo(I:Inv X u5 σ H s)(E:Value->Shared->Prop):Inv (X.uo E) u5 σ H s:=#[I.ok.uo E,I.os,I.bare,I.base,I.loc,I.cell,I.free,I.jW,I.pin,I.hok,I.len]
theorem Inv.mw(I:Inv (X.uo E) u5 σ H s):Inv X u5 σ H s:=#[I.ok.mw,I.os,I.bare,I.base,I.loc,I.cell,I.free,I.jW,I.pin,I.hok,I.len]
theorem SP.mw{f:Flow}{s':Shared}(h:SP (X.uo E) u5 D f s'):SP X u5 D f s':=by
 cases f with
 | next=>let#[σ',H',I,q]:=h;show#[σ',H',I.mw,q]
 | brk=>let#[σ',H',I,q]:=h;show#[σ',H',I.mw,q]
 | cont=>let#[σ',H',I,q]:=h;show#[σ',H',I.mw,q]
 | ret u=>let#[v,σ',H',I,r,q]:=h;show#[v,σ',H',I.mw,r,q]
theorem wI.Sm{st:List Stmt}{t:TS}(h:wI X.Sm st t):wI X st t:=λu5 s σ H D I hw =>
 wpAny_mono (h u5 s σ H D (I.uo _) hw) (λ_ _ q=>q.mw) λ_ _ z=>False.elim z
end
section
variable {X:Cx}{rest:List Stmt}{t u:TS}{te:TE}
def QE:TS:=λD σ H=>D.nx σ H
def Sn(t u:TS):TS:=λD σ H=>t { D with nx:=u D } σ H
def aL:wI X [] QE:=λ_ _ σ H _ I h=>wpAny_execs_nil #[σ,H,I,h]
def ak(h1:PS X st t)(h2:wI X rest u):wI X (st::rest)^Sn t u:=by
 intro u5 s σ H D I h;show wpAny_execs_cons (c7 (h1 u5 s σ H { D with nx:=u D } I h) λf s1 q=>?_);cases f with
 | next =>
  let#[σ',H',I',q]:=q;show h2 u5 s1 σ' H' D I' q
 | ret v=>show q
 | brk=>show q
 | cont=>show q
def ao(h1:PS X st t):wI X [st] t:=by
 intro u5 s σ H D I h;show wpAny_execs_cons (c7 (h1 u5 s σ H D I h) λf s1 q=>?_);cases f with
 | next=>show wpAny_execs_nil q
 | ret v=>show q
 | brk=>show q
 | cont=>show q
def Inv.quiet{σ:St}(I:Inv X u5 σ H s):interactive X.env=false:=by simp[interactive,I.ok.kind]
def QF(te:TE):TS:=λD σ H=>te σ H λ_ H1=>D.nx σ H1
def dR(he:PE X e te)(hs:swapsWith e none pos.line X.env=pure false:=by rfl):PS X (.Expr e pos)^QF te:=by intro u5 s σ H D I h;show wpAny_Expr_any (c7 (he u5 s σ H _ I h) λv s1 ⟨x,H1,I1,r1,q1⟩=>#[σ,H1,I1,q1]) I.quiet hs
def VW(te:TE):TS:=λD σ H=>te σ H D.rt
def aE(he:PE X e te):PS X (.Return (some e) pos)^VW te:=by intro u5 s σ H D I h;show wpAny_Return_some (c7 (he u5 s σ H _ I h) λv s1 ⟨x,H1,I1,r1,q1⟩=>#[x,σ,H1,I1,r1,q1])
def VX(c:TT)(t u:TS):TS:=λD σ H=>c σ H λb H1=>if b=true then t D σ H1 else u D σ H1
def bI{a b:List Stmt}{tc:TT}(hc:PT X c tc)(ha:wI X a t)(hb:wI X b u):PS X (.If c a b pos)^VX tc t u:=by
 intro u5 s σ H D I h;show wpAny_If (c7 (hc u5 s σ H _ I h) λd s1 zq=>?_);let#[H1,I1,q1]:=zq;cases d with
 | true=>show ha u5 s1 σ H1 D I1 q1
 | false=>show hb u5 s1 σ H1 D I1 q1
def So:TS:=λ_ _ _=>False
def JE:PS X st So:=λ_ _ _ _ _ _ h=>h.elim
end
abbrev TG:=V->St->Hp->(St->Hp->Prop)->Prop
abbrev GR:=List V->St->Hp->(St->Hp->Prop)->Prop
def PG(X:Cx)(target:Expr)(t:TG):Prop :=
 ∀(u5:List (Addr×Obj))(s:Shared)(σ:St)(H:Hp)(v:V)(u:Value)(Q:St->Hp->Prop),Inv X u5 σ H s->RelV v u->t v σ H Q ->
  wpAny (model X.prog X.w) X.A (assign target X.env u) (λ_ s'=>∃σ' H',Inv X u5 σ' H' s'/\Q σ' H') X.xe s
def Vz(X:Cx)(ts:List Expr)(t:GR):Prop :=
 ∀(u5:List (Addr×Obj))(s:Shared)(σ:St)(H:Hp)(vs:List V)(us:List Value)(Q:St->Hp->Prop),Inv X u5 σ H s->Vals vs us->t vs σ H Q ->
  wpAny (model X.prog X.w) X.A (assignInOrder ((assignEach ts X.env).map (·.2)) us) (λ_ s'=>∃σ' H',Inv X u5 σ' H' s'/\Q σ' H') X.xe s
abbrev NW:=V->V->V->Hp->(Hp->Prop)->Prop
def VY(X:Cx)(t:NW):Prop :=
 ∀(u5:List (Addr×Obj))(s:Shared)(σ:St)(H:Hp)(o i v:V)(ov iv u:Value)(Q:Hp->Prop),Inv X u5 σ H s->RelV o ov->RelV i iv->RelV v u->t o i v H Q ->
  wpAny (model X.prog X.w) X.A (setItem ov iv u) (λ_ s'=>∃H',Inv X u5 σ H' s'/\Q H') X.xe s
abbrev VZ:=V->V->Hp->VK->Prop
def PIp(X:Cx)(op:Operator)(t:VZ):Prop :=
 ∀(u5:List (Addr×Obj))(s:Shared)(σ:St)(H:Hp)(x y:V)(v u:Value)(Q:VK),Inv X u5 σ H s->RelV x v->RelV y u->t x y H Q ->
  wpAny (model X.prog X.w) X.A (inplaceOp op v u) (EP X u5 σ Q) X.xe s
section
variable {X:Cx}
def gQ(i:Nat):TG:=λv σ H Q=>Q (σ.set i^some v) H
def EF(hN:X.N.Nodup)(hi:X.N[i]?=some x)(hx:Loc X.env.scope x)(hf:X.fn x=true\/X.env.scope.names.lookup x=some .local:=by first|exact .inl rfl|exact .inr rfl|assumption):PG X (.Name x pos)^gQ i:=by intro u5 s σ H v u Q I r h;show wpAny_assign_Name^ug I hN hi hx r (λs' I'=>#[_,H,I',h]) hf
def V0:GR:=λvs σ H Q=>vs=[]/\Q σ H
def QG(t:TG)(u:GR):GR:=λvs σ H Q=>∃v r,vs=v::r/\t v σ H λσ' H'=>u r σ' H' Q
def fE:Vz X [] V0:=by intro u5 s σ H vs us Q I r h;let#[e,h]:=h;subst e;cases r;show assignInOrder_nil #[σ,H,I,h]
def bw{t:TG}{u:GR}(h1:PG X e t)(h2:Vz X es u)
  (hs:(assignEach (e::es) X.env).map (·.2)=assign e X.env::(assignEach es X.env).map (·.2):=by rfl):Vz X (e::es)^QG t u:=by
 intro u5 s σ H vs us Q I r h;let#[v,vr,e1,h]:=h;subst e1;cases r with
 | cons r rr =>
  rw[hs];show assignInOrder_cons (c7 (h1 u5 s σ H _ _ _ I r h) λ_ s1 zq=>?_);let#[σ1,H1,I1,q1]:=zq;show h2 u5 s1 σ1 H1 _ _ Q I1 rr q1
def Sq(K:aF)(n:Nat)(t:GR):TG:=λv σ H Q=>∃a xs,v=.ref a/\cY K H a xs/\xs.length=n/\t xs σ H Q
def k7{t:GR}(hc:X.calm=true)(h:Vz X es t)
  (hn:(assignEach es X.env).length=n:=by rfl)(hst:(assignEach es X.env).findIdx? (·.1)=none:=by rfl):PG X (.Tuple es k pos)^Sq X.K n t:=by intro u5 s σ H v u Q I r hw;let#[a,xs,e1,hq,hl,hw]:=hw;subst e1;cases r;let#[its,rv,ht,hz]:=I.tuple hq;show assign_Tuple_tuple (I.ok.hd hc) ht (by simp[hn,<- hl,rv.length]) hst λh' hx=>?_;have I1:Inv X u5 σ H { s with heap:=h' }:=I.kept (t':=s.toks) λb o e=>hx b o (aT^aK e) e;show h u5 _ σ H xs _ Q I1 (by simpa using rv) hw
def V1(to ti:TE)(t:NW):TG:=λv σ H Q=>to σ H λo H1=>ti σ H1 λi H2=>t o i v H2 λH3=>Q σ H3
def yl{o i:Expr}{to ti:TE}{t:NW}(ho:PE X o to)(hi:PE X i ti)(hs:VY X t)
  (ha:∀v,assign (.Subscript o i pos) X.env v=(do
   let ov <- holding [v] (eval o X.env);let iv <- holding [v,ov] (eval i X.env)
   standAt pos
   holding [v,ov,iv]^setItem ov iv v
   release [v,ov,iv] []):=by intro _;rfl):PG X (.Subscript o i pos)^V1 to ti t:=by intro u5 s σ H v u Q I r h;rw[ha];show au^wpAny_holding (c7 (ho u5 s σ H _ I h) λov s1 zq=>?_);let#[x,H1,I1,r1,q1]:=zq;show au^wpAny_holding (c7 (hi u5 s1 σ H1 _ I1 q1) λiv s2 zq=>?_);let#[y,H2,I2,r2,q2]:=zq;show au^wpAny_standAt^au^wpAny_holding (c7 (hs u5 s2 σ H2 x y v ov iv u _ I2 r1 r2 r q2) λ_ s3 zq=>?_);let#[H3,I3,q3]:=zq;show wpAny_release #[σ,H3,I3,q3]
def NX(te:TE)(g:TG):TS:=λD σ H=>te σ H λx H1=>g x σ H1 D.nx
def mz(he:PE X e te)(hg:PG X tg g)(hs:swapsWithSole [tg] e pos.line X.env=pure false:=by rfl)(hw:swappedStores [tg] e X.env=pure none:=by rfl)
  (h1:(assignEach [tg] X.env).map (·.2)=[assign tg X.env]:=by rfl):PS X (.Assign [tg] e pos)^NX te g:=by intro u5 s σ H D I h;show wpAny_Assign_stores (c7 (he u5 s σ H _ I h) λv s1 zq=>?_) hs hw;let#[x,H1,I1,r1,q1]:=zq;rw[h1];show c7 (hg u5 s1 σ H1 x v _ I1 r1 q1) λ_ s2 q=>q
def Ss(hN:X.N.Nodup)(hi:X.N[i]?=some x)(hx:Loc X.env.scope x)(he:PE X e te)(hs:swapsWith e (some^.Name x pos') pos.line X.env=pure false:=by rfl)(hf:X.fn x=true\/X.env.scope.names.lookup x=some .local:=by first|exact .inl rfl|exact .inr rfl|assumption):
  PS X (.Assign [.Name x pos'] e pos)^NX te^gQ i:=by intro u5 s σ H D I h;show wpAny_Assign_Name (c7 (he u5 s σ H _ I h) λv s1 zq=>?_) hs;let#[y,H1,I1,r1,q1]:=zq;show ug I1 hN hi hx r1 (λs2 I2=>#[_,H1,I2,q1]) hf
def V2(i:Nat)(te:TE)(ti:VZ):TS:=λD σ H=>∃x,σ[i]?=some^some x/\te σ H λy H1=>ti x y H1 λz H2=>D.nx (σ.set i^some z) H2
def CV{op:Operator}{ti:VZ}(hN:X.N.Nodup)(hi:X.N[i]?=some x)(hx:Loc X.env.scope x)(he:PE X e te)(ho:PIp X op ti)(hf:X.fn x=true\/X.env.scope.names.lookup x=some .local:=by first|exact .inl rfl|exact .inr rfl|assumption):
  PS X (.AugAssign (.Name x pos') op e pos)^V2 i te ti:=by
 intro u5 s σ H D I h;let#[v,e1,h]:=h;let#[m,hn,hl]:=I.loc;have vis:Y8 X.env.scope x:=by rcases hx with k|k;show .inl k;show .inr^.inl k
 let#[u,r,l]:=hl i x v hi e1 vis;show wpAny_AugAssign_Name ?_;have go:wpAny (model X.prog X.w) X.A (eval e X.env) (λw s₂=>wpAny (model X.prog X.w) X.A (inplaceOp op u w) (λr s₃=>wpAny (model X.prog X.w) X.A (storeName X.env x r) (λ_=>SP X u5 D .next) X.xe s₃) X.xe s₂) X.xe s:=by show c7 (he u5 s σ H _ I h) λw s1 zq=>?_;let#[y,H1,I1,r1,q1]:=zq;show c7 (ho u5 s1 σ H1 v y u w _ I1 r r1 q1) λz s2 zq=>?_;let#[zv,H2,I2,r2,q2]:=zq;show ug I2 hN hi hx r2 (λs3 I3=>#[_,H2,I3,q2]) hf
 rcases l with⟨hk,hm⟩|⟨hk,c,hc,hcell⟩;show wpAny_loadName_local I.ok.kind hk hn hm go;rcases hk with hk|hk;show wpAny_loadName_cell I.ok.kind hk hc hcell go;rcases hx with k|k;have:X.env.scope.names.lookup x=some .free:=hk;rw[k] at this;cases this;have:X.env.scope.names.lookup x=some .free:=hk;rw[k] at this;cases this
def ipI(f:Int->Int->Int):VZ:=λx y H Q=>∃i j,x=.int i/\y=.int j/\Q (.int^f i j) H
def CW:PIp X .Add (ipI λi j=>i+j):=by intro u5 s σ H x y v u Q I r1 r2 h;let#[i,j,e1,e2,q]:=h;subst e1;subst e2;let#[t,rfl]:=r1;let#[t',rfl]:=r2;show iadd_int #[.int _,H,I.tok _,#[_,rfl],q]
def JF(c:TT)(tb:TS):TS:=λD σ H=>∃W:Nat->St->Hp->Prop,(∃m,W m σ H)/\∀m σ H,W m σ H ->
 c σ H λb H1=>if b=true then ∃N:St->Hp->Prop,(∀σ' H',N σ' H'->∃m',m'<m/\W m' σ' H')/\tb { D with nx:=N,ct:=N,bk:=D.nx } σ H1 else D.nx σ H1
def ku{tc:TT}(hp:PassesOwn (model X.prog X.w) X.A X.env X.xe)(hc:PT X c tc)(hb:wI X body tb):PS X (.While c body [] pos)^JF tc tb:=by
 intro u5 s σ H D I h;let#[W,#[m0,w0],turn]:=h;show wpAny_While^codeAny_whileLoop (λn s'=>∃σ' H',Inv X u5 σ' H' s'/\W n σ' H') ?_ m0 #[σ,H,I,w0];rintro n s1 ⟨σ1,H1,I1,w1⟩;show wpAny_passesOwn hp (c7 (hc u5 s1 σ1 H1 _ I1^turn n σ1 H1 w1) λb s2 zq=>?_);let#[H2,I2,q2]:=zq;cases b with
 | true =>
  let#[N,hN,q2]:=q2;rw[if_pos rfl];show wpAny_passesOwn hp (c7 (hb u5 s2 σ1 H2 _ I2 q2) λf s3 q3=>?_);cases f with
  | next =>
   let#[σ3,H3,I3,n3]:=q3;let#[m',hm,w3]:=hN σ3 H3 n3;show#[m',hm,σ3,H3,I3,w3]
  | cont =>
   let#[σ3,H3,I3,n3]:=q3;let#[m',hm,w3]:=hN σ3 H3 n3;show#[m',hm,σ3,H3,I3,w3]
  | brk=>show q3
  | ret v=>show q3
 | false =>
  rw[if_neg kq];show wpAny_execs_nil #[σ1,H2,I2,q2]
end
structure It where
 go:Nat->Hp->Prop
 Jr:Nat->Hp->V->Hp->Prop
 stop:Nat->Hp->Prop
def gU(X:Cx)(u5:List (Addr×Obj))(H:Hp)(b:Addr):Prop :=
 H b=none/\b≠X.env.locals/\b∉X.fs/\(b∈X.ex\/X.s₀.heap.objs.size<=b)/\(∀x c,X.env.cells.lookup x=some c->c≠b)/\∀p∈X.pn++u5,p.1≠b
def Inv.oF{σ:St}{H':Hp}(I:Inv X u5 σ H s)(hb:s.heap.objs.size<=b)(hn:H' b=none):gU X u5 H' b:=by show#[hn,jU^bX I.lt hb,I.VQ hb,.inr^bO I.sz hb,λx c e z=>?_,λp hp z=>?_];let#[v,q]:=I.cell x c e;show absurd (bX q.lt (by rw[z];show hb))^gK _;show absurd (bX (aK (I.pin p hp).1) (by rw[z];show hb))^gK _
structure Turn (P:Program) (w:World) (K:aF) (tg:Expr) (J:It) (fp:List Addr) (it:Addr) (tn:Nat->Heap->Prop):Prop where
 mem:it∈fp
 obj:∀i h,tn i h->∀b∈fp,∃o,h.get? b=some o/\∀v,o.data≠.cell v
 keep:∀i h h',tn i h->(∀b∈fp,∀o,h.get? b=some o->h'.get? b=some o)->tn i h'
 item:∀(X:Cx),X.prog=P->X.w=w->X.K=K->X.calm=true->∀(i:Nat)(u5:List (Addr×Obj))(s:Shared)(σ:St)(H:Hp)(E:Value->Shared->Prop),Inv X u5 σ H s->(∀b∈fp,gU X u5 H b)->tn i s.heap->J.go i H ->
  wpAny (model P w) X.A (pyNext^.ref it) (λr s1=>∃u,r=some u /\
   wpAny (model P w) X.A (letOwnedTupleGo tg (.ref it) u) (λ_ s2=>∃x H',Inv X u5 σ H' s2/\RelV x u/\J.Jr i H x H'/\tn (i+1) s2.heap/\∀b∈fp,H' b=none) E s1) E s
 done:∀(X:Cx),X.prog=P->X.w=w->X.K=K->X.calm=true->∀(i:Nat)(u5:List (Addr×Obj))(s:Shared)(σ:St)(H:Hp)(E:Value->Shared->Prop),Inv X u5 σ H s->(∀b∈fp,gU X u5 H b)->tn i s.heap->J.stop i H ->
  wpAny (model P w) X.A (pyNext^.ref it) (λr s1=>r=none/\Inv X u5 σ H s1) E s
 self:∀(A:Around)(i:Nat)(s:Shared)(Q:Value->Shared->Prop)(E:Value->Shared->Prop),tn i s.heap->Q (.ref it) s->wpAny (model P w) A (pyIter^.ref it) Q E s
abbrev TI:=St->Hp->(It->Hp->Prop)->Prop
def PIE(X:Cx)(u5:List (Addr×Obj))(σ:St)(tg:Expr)(R:It->Hp->Prop)(itv:Value)(s2:Shared):Prop :=
 ∃(it:Addr)(fp:List Addr)(tn:Nat->Heap->Prop)(J:It)(H':Hp),itv=.ref it/\Inv X u5 σ H' s2/\Turn X.prog X.w X.K tg J fp it tn/\tn 0 s2.heap/\(∀b∈fp,gU X u5 H' b)/\R J H'
def PI(X:Cx)(tg iter:Expr)(wi:TI):Prop :=
 ∀(u5:List (Addr×Obj))(s:Shared)(σ:St)(H:Hp)(R:It->Hp->Prop),Inv X u5 σ H s->wi σ H R ->
  wpAny (model X.prog X.w) X.A (eval iter X.env) (λv s1=>wpAny (model X.prog X.w) X.A (pyIter v) (PIE X u5 σ tg R) X.xe s1) X.xe s
def zR{o:Obj}{n:String}{vs:Array Value}(ho:s.heap.get? it=some o)(hc:o.cls=.type n)(hd:o.data=.fields vs)
    (hn:["enumerate", "zip", "dict_itemiterator", "dict_reverseitemiterator", "odict_iterator", "itertools.zip_longest", "itertools.pairwise"].contains n=false)(hQ:Q () s):wpAny M A (letOwnedTupleGo tg (.ref it) u) Q E s:=by
  unfold letOwnedTupleGo;cases tg<;>first
    | show aN hQ
    | (cases u<;>first
        | show aN hQ
        | (show au (wpAny_load ho ?_)
           rw[hc,hd];change wpAny M A (if(["enumerate", "zip", "dict_itemiterator", "dict_reverseitemiterator", "odict_iterator", "itertools.zip_longest", "itertools.pairwise"].contains n&&vs[0]?==some^rawInt _)=true then _ else _) Q E s;rw[if_neg (by intro h;rw[hn,tU] at h;cases h)];show aN hQ))
def NB(K:aF)(a:Addr):It :=
 #[λi H=>∃xs x,bB K H a xs/\xs[i]?=some x,λi H x H'=>H'=H/\∀xs,bB K H a xs->xs[i]?=some x,λi H=>∃xs,bB K H a xs/\xs.length<=i]
def NC(K:aF)(a:Addr):It :=
 #[λi H=>∃xs x,cY K H a xs/\xs[i]?=some x,λi H x H'=>H'=H/\∀xs,cY K H a xs->xs[i]?=some x,λi H=>∃xs,cY K H a xs/\xs.length<=i]
def oX(lo:Int)(n:Nat):It:=#[λi _=>i<n,λi H x H'=>H'=H/\x=.int (lo+i),λi _=>n<=i]
theorem GS(a it:Addr):Turn P w K tg (NB K a) [it] it (λi h=>h.IsListIter it a i) where
 mem:=by simp
 obj:=λi h st b hb=>by
  have e:b=it:=by simpa using hb
  subst e;let#[o,e,c,d]:=st;show#[o,e,λv z=>by rw[d] at z;cases z]
 keep:=λi h h' st k=>st.at λo e=>k it (by simp) o e
 item:=by intro X hP hw hK hc i u5 s σ H E I hf st hg;subst hP hw hK;let#[xs,x,hq,hx]:=hg;let#[its,rv,p,hz]:=I.list hq;let#[u,hu,ru]:=rv.get hx;let#[f0,f1,f2,f3,f4,f5]:=hf it (by simp);show wpAny_pyNext_list_item st p.isList (x:=u) (by simpa using hu) λh' st' sb=>?_;have I1:Inv X u5 σ H { s with heap:=h' }:=I.turned (t':=s.toks) (λb o hb e=>(sb.2 b hb).trans e) f0 f1 f3 f4 f5;let#[o,e,c,d]:=id st';show#[u,rfl,zR (s:={ s with heap:=h' }) e c d (by decide) #[x,H,I1,ru,#[rfl,λys hy=>by rw[I.JD hy hq];show hx],st',λb hb=>(hf b hb).1]]
 done:=by intro X hP hw hK hc i u5 s σ H E I hf st hg;subst hP hw hK;let#[xs,hq,hx]:=hg;let#[its,rv,p,hz]:=I.list hq;let#[f0,f1,f2,f3,f4,f5]:=hf it (by simp);have hl:=rv.length;show wpAny_pyNext_list_end (I.ok.hd hc) st p.isList (by simp;lia) λh' eb=>#[rfl,I.turned (t':=s.toks) (λb o hb e=>eb b o hb e) f0 f1 f3 f4 f5]
 self:=λ_ _ _ _ _ st h=>wpAny_pyIter_listiter st h
theorem CY(a it:Addr):Turn P w K tg (NC K a) [it] it (λi h=>h.IsTupleIter it a i) where
 mem:=by simp
 obj:=λi h st b hb=>by
  have e:b=it:=by simpa using hb
  subst e;let#[o,e,c,d]:=st;show#[o,e,λv z=>by rw[d] at z;cases z]
 keep:=λi h h' st k=>st.at λo e=>k it (by simp) o e
 item:=by intro X hP hw hK hc i u5 s σ H E I hf st hg;subst hP hw hK;let#[xs,x,hq,hx]:=hg;let#[its,rv,p,hz]:=I.tuple hq;let#[u,hu,ru]:=rv.get hx;let#[f0,f1,f2,f3,f4,f5]:=hf it (by simp);show wpAny_pyNext_tuple_item st (show s.heap.IsTuple a its.toArray from p) (x:=u) (by simpa using hu) λh' st' sb=>?_;have I1:Inv X u5 σ H { s with heap:=h' }:=I.turned (t':=s.toks) (λb o hb e=>(sb.2 b hb).trans e) f0 f1 f3 f4 f5;let#[o,e,c,d]:=id st';show#[u,rfl,zR (s:={ s with heap:=h' }) e c d (by decide) #[x,H,I1,ru,#[rfl,λys hy=>by rw[I.GQ hy hq];show hx],st',λb hb=>(hf b hb).1]]
 done:=by intro X hP hw hK hc i u5 s σ H E I hf st hg;subst hP hw hK;let#[xs,hq,hx]:=hg;let#[its,rv,p,hz]:=I.tuple hq;let#[f0,f1,f2,f3,f4,f5]:=hf it (by simp);have hl:=rv.length;show wpAny_pyNext_tuple_end (I.ok.hd hc) st (show s.heap.IsTuple a its.toArray from p) (by simp;lia) λh' eb=>#[rfl,I.turned (t':=s.toks) (λb o hb e=>eb b o hb e) f0 f1 f3 f4 f5]
 self:=λ_ _ _ _ _ st h=>wpAny_pyIter_tupleiter st h
theorem CZ(it:Addr)(lo:Int)(n:Nat):Turn P w K tg (oX lo n) [it] it (λi h=>IsRangeIter h it (lo+(i:Nat)*1) ((n:Int)-(i:Nat)) 1) where
 mem:=by simp
 obj:=λi h st b hb=>by
  have e:b=it:=by simpa using hb
  subst e;show#[_,st,λv z=>by
   have z':Data.fields _=Data.cell v:=z;cases z']
 keep:=λi h h' st k=>k it (by simp) _ st
 item:=by intro X hP hw hK hc i u5 s σ H E I hf st hg;subst hP hw hK;let#[f0,f1,f2,f3,f4,f5]:=hf it (by simp);have W:=Walks.range (prog:=X.prog) (w:=X.w) (I.ok.hd hc) it lo 1 n;show W.item i s _ _ hg st λv h' tk hv st' kk=>?_;let#[t,rfl]:=hv;have I1:Inv X u5 σ H { s with heap:=h',toks:=tk }:=I.turned (λb o hb e=>kk b o (by simpa using hb) e) f0 f1 f3 f4 f5;show#[_,rfl,zR (s:={ s with heap:=h',toks:=tk }) (n := "range_iterator") st' rfl rfl (by decide) #[.int (lo+i),H,I1,#[t,?_],#[rfl,rfl],st',λb hb=>(hf b hb).1]];rw[Int.mul_one]
 done:=by intro X hP hw hK hc i u5 s σ H E I hf st hg;subst hP hw hK;let#[f0,f1,f2,f3,f4,f5]:=hf it (by simp);show wpAny_pyNext_range_end (I.ok.hd hc) st (by have:n<=i:=hg;lia) λh' eb=>#[rfl,I.turned (t':=s.toks) (λb o hb e=>eb b o hb e) f0 f1 f3 f4 f5]
 self:=λ_ _ _ _ _ st h=>wpAny_pyIter_rangeiter st h
section
variable {X:Cx}
def JG(K:aF)(tl:TE):TI:=λσ H R=>tl σ H λx H1=>∃a,x=.ref a/\(∃xs,bB K H1 a xs)/\R (NB K a) H1
def V3(K:aF)(tl:TE):TI:=λσ H R=>tl σ H λx H1=>∃a,x=.ref a/\(∃xs,cY K H1 a xs)/\R (NC K a) H1
def bP{l:Expr}{tl:TE}(hl:PE X l tl):PI X tg l^JG X.K tl:=by
 intro u5 s σ H R I h;show c7 (hl u5 s σ H _ I h) λv s1 zq=>?_;let#[x,H1,I1,r1,q1]:=zq;let#[a,e,#[xs,hq],q]:=q1;subst e;cases r1;let#[its,rv,p,hz]:=I1.list hq;show wpAny_pyIter_list p.isList ?_;show#[s1.heap.objs.size,[s1.heap.objs.size],_,_,H1,rfl,I1.kept (t':=s1.toks) λb o e=>dH _ e,GS a _,#[_,iX _ rfl,rfl,rfl],λb hb=>?_,q];have e:b=s1.heap.objs.size:=by simpa using hb
 subst e;show I1.oF (ay _)^I1.hok.fresh^ay _
def JH{l:Expr}{tl:TE}(hl:PE X l tl):PI X tg l^V3 X.K tl:=by
 intro u5 s σ H R I h;show c7 (hl u5 s σ H _ I h) λv s1 zq=>?_;let#[x,H1,I1,r1,q1]:=zq;let#[a,e,#[xs,hq],q]:=q1;subst e;cases r1;let#[its,rv,p,hz]:=I1.tuple hq;show wpAny_pyIter_tuple (show s1.heap.IsTuple a its.toArray from p) ?_;show#[s1.heap.objs.size,[s1.heap.objs.size],_,_,H1,rfl,I1.kept (t':=s1.toks) λb o e=>dH _ e,CY a _,#[_,iX _ rfl,rfl,rfl],λb hb=>?_,q];have e:b=s1.heap.objs.size:=by simpa using hb
 subst e;show I1.oF (ay _)^I1.hok.fresh^ay _
theorem zS{σ:St}{R:It->Hp->Prop}{lo hi:Int}{t u v:Tok}{tk:Nat}(I:Inv X u5 σ H s)(h1:-(2 ^ 62)<=lo)(h2:lo<2 ^ 62)(h3:-(2 ^ 62)<=hi)(h4:hi<2 ^ 62)
  (q:R (oX lo (hi-lo).toNat) H):wpAny (model X.prog X.w) X.A (pyIter^.ref s.heap.objs.size) (PIE X u5 σ tg R) E { s with heap:=s.heap.push { cls:=.type "range", data:=.fields #v[.int lo t,.int hi u,.int 1 v] },toks:=tk }:=by
 show wpAny_pyIter_range (IsRange.new ..) (small_one h1 h2 h3 h4) ?_;have I1:Inv X u5 σ H { s with heap:=s.heap.push { cls:=.type "range", data:=.fields #v[.int lo t,.int hi u,.int 1 v] },toks:=tk }:=I.kept λb o e=>dH _ e;show#[(s.heap.push { cls:=.type "range", data:=.fields #v[.int lo t,.int hi u,.int 1 v] }).objs.size,[(s.heap.push { cls:=.type "range", data:=.fields #v[.int lo t,.int hi u,.int 1 v] }).objs.size],_,_,H,rfl,
  I1.kept (t':=tk) λb o e=>dH _ e,CZ _ lo (hi-lo).toNat,?_,λb hb=>?_,q]
 .have e1:lo+((0:Nat):Int)*1=lo:=by simp
  have e2:(((hi-lo).toNat:Nat):Int)-((0:Nat):Int)=Builtin.Range.rangeSize lo hi 1:=by rw[rangeSize_one];split<;>lia
  change IsRangeIter _ _ (lo+((0:Nat):Int)*1) ((((hi-lo).toNat:Nat):Int)-((0:Nat):Int)) 1;rw[e1,e2];show iX _ rfl
 .have e:b=(s.heap.push { cls:=.type "range", data:=.fields #v[.int lo t,.int hi u,.int 1 v] }).objs.size:=by simpa using hb
  subst e;show I1.oF (ay _)^I1.hok.fresh^ay _
def QH(ta:TA):TI:=λσ H R=>ta σ H λvs H1=>∃j:Int,vs=[.int j] /\ -(2 ^ 62)<=j/\j<2 ^ 62/\R (oX 0 j.toNat) H1
def QI(ta:TA):TI:=λσ H R=>ta σ H λvs H1=>∃i j:Int,vs=[.int i,.int j]/\(-(2 ^ 62)<=i/\i<2 ^ 62 /\ -(2 ^ 62)<=j/\j<2 ^ 62)/\R (oX i (j-i).toNat) H1
theorem dI{a:Expr}{ta:TA}(hg:Gl X "range")(hm:X.mg "range" = none)(ha:PA X [a] ta)(hs:starEach [a] X.env=[(false,eval a X.env)]:=by rfl):PI X tg (.Call (.Name "range" p) [a] [] pos)^QH ta:=by
 intro u5 s σ H R I h;show Call_^jF I hg hm boot_range^kZ (c7 (ha pos u5 s σ H _ I h) λus s1 zq=>?_) hs rfl;let#[vs,H1,I1,r1,q1]:=zq;let#[j,e,q1,q2,q]:=q1;subst e;cases r1 with
 | cons r rr =>
  cases rr;let#[t,rfl]:=r;show call_range_1 (zS I1 ∅ ∅ q1 q2 (by simpa using q))
def wJ{a b:Expr}{ta:TA}(hg:Gl X "range")(hm:X.mg "range" = none)(ha:PA X [a,b] ta)(hs:starEach [a,b] X.env=[(false,eval a X.env),(false,eval b X.env)]:=by rfl)(hs2:starEach [b] X.env=[(false,eval b X.env)]:=by rfl):
  PI X tg (.Call (.Name "range" p) [a,b] [] pos)^QI ta:=by
 intro u5 s σ H R I h;show Call_^jF I hg hm boot_range^kZ (c7 (ha pos u5 s σ H _ I h) λus s1 zq=>?_) (by rw[hs,hs2]) (by rw[hs2];rfl);let#[vs,H1,I1,r1,q1]:=zq;let#[i,j,e,#[q1,q2,q3,q4],q]:=q1;subst e;cases r1 with
 | cons r rr =>
  cases rr with
  | cons r' rr =>
   cases rr;let#[t,rfl]:=r;let#[t',rfl]:=r';show call_range_2^zS I1 q1 q2 q3 q4 q
def V4(wi:TI)(g:TG)(tb:TS):TS:=λD σ H=>wi σ H λJ H1=>∃W:Nat->Nat->St->Hp->Prop,(∃m,W 0 m σ H1)/\∀i m σ H,W i m σ H ->
 (J.stop i H/\D.nx σ H)\/(J.go i H/\∃N:St->Hp->Prop,(∀σ' H',N σ' H'->∃m',m'<m/\W (i+1) m' σ' H')/\∀x H',J.Jr i H x H'->g x σ H' λσ2 H2=>tb { D with nx:=N,ct:=N,bk:=D.nx } σ2 H2)
def qR(fp:List Addr)(h:Heap):List (Addr×Obj):=fp.filterMap λb=>(h.get? b).map λo=>(b,o)
def iM{o:Obj}(hb:b∈fp)(e:h.get? b=some o):(b,o)∈qR fp h:=List.mem_filterMap.mpr #[b,hb,by rw[e];rfl]
def wK{p:Addr×Obj}(hp:p∈qR fp h):p.1∈fp/\h.get? p.1=some p.2:=by
 let#[b,hb,e]:=List.mem_filterMap.mp hp;cases q:h.get? b with
 | none=>rw[q] at e;cases e
 | some o =>
  rw[q] at e;have e':(b,o)=p:=Option.some.inj e;subst e';show#[hb,q]
def Inv.pinned{σ:St}(I:Inv X u5 σ H s)(hf:∀b∈fp,gU X u5 H b)(ho:∀b∈fp,∃o,s.heap.get? b=some o/\∀v,o.data≠.cell v):Inv X (u5++qR fp s.heap) σ H s :=
 I.sN λp hp=>(aP.mp hp).elim (λz=>I.pin p^dZ _ z) λz=>by let#[hb,e]:=wK z;let#[f0,f1,f2,_]:=hf p.1 hb;let#[o,e',d]:=ho p.1 hb;rw[e] at e';cases e';show#[e,f0,f1,f2,d]
def Inv.o8{pl:List (Addr×Obj)}{σ:St}(I:Inv X (u5++pl) σ H s):Inv X u5 σ H s:=I.sN λp hp=>I.pin p^dZ _^kU _ hp
def cP{iter:Expr}{wi:TI}(hp:PassesOwn (model X.prog X.w) X.A X.env X.xe)(hc:X.calm=true)(hi:PI X tg iter wi)(hg:PG X tg g)(hb:wI X body tb)
  (hs:∀x,foldedSetIterable iter X.env x=pure x:=by intro _;rfl):PS X (.For tg iter body [] pos)^V4 wi g tb:=by
 intro u5 s σ H D I h;show wpAny_For (c7 (hi u5 s σ H _ I h) λv s1 h1=>c7 h1 λitv s2 h2=>?_) hs;let#[it,fp,tn,J,H2,e,I2,T,st2,f2,W,#[m0,w0],turn]:=h2;subst e;have C0:∀{H':Hp},(∀b∈fp,H' b=none)->∀b∈fp,gU X u5 H' b:=λhn b hb=>#[hn b hb,(f2 b hb).2];show codeAny_forLoop_any (λn s'=>∃i σ' H',Inv X u5 σ' H' s'/\tn i s'.heap/\(∀b∈fp,H' b=none)/\W i n σ' H') ?_ m0 #[0,σ,H2,I2,st2,λb hb=>(f2 b hb).1,w0];rintro n s3 ⟨i,σ3,H3,I3,st3,V5,w3⟩;rcases turn i n σ3 H3 w3 with⟨stop,qn⟩|⟨go,N,hN,step⟩
 .show wpAny_passesOwn hp (c7 (T.done X rfl rfl rfl hc i u5 s3 σ3 H3 X.xe I3 (C0 V5) st3 stop) λr s4 ⟨hr,I4⟩=>?_);subst hr;show wpAny_execs_nil #[σ3,H3,I4,qn]
 .show wpAny_passesOwn hp (c7 (T.item X rfl rfl rfl hc i u5 s3 σ3 H3 X.xe I3 (C0 V5) st3 go) λr s4 ⟨u,hr,h4⟩=>?_);subst hr;show wpAny_passesOwn hp (c7 h4 λ_ s5 zq=>?_);let#[x,H5,I5,r5,y5,NY,fr5]:=zq;have I5':=I5.pinned (C0 fr5)^T.obj _ _ NY;show wpAny_passesOwn hp (c7 (hg _ s5 σ3 H5 x u _ I5' r5^step x H5 y5) λ_ s6 zq=>?_);let#[σ6,H6,I6,q6]:=zq;show wpAny_passesOwn hp (c7 (hb _ s6 σ6 H6 _ I6 q6) λf s7 q7=>?_);have again:∀{σ7:St}{H7:Hp},Inv X (u5++qR fp s5.heap) σ7 H7 s7->N σ7 H7->∃m,m<n/\∃i σ' H',Inv X u5 σ' H' s7/\tn i s7.heap/\(∀b∈fp,H' b=none)/\W i m σ' H':=λ{σ7 H7} I7 n7=>by let#[m',hm,w7]:=hN σ7 H7 n7;show#[m',hm,i+1,σ7,H7,I7.o8,T.keep _ _ _ NY λb hb o e=>(I7.pin (b,o)^dZ _^dZ _^iM hb e).1,λb hb=>?_,w7];let#[o,e,d]:=T.obj _ _ NY b hb;show(I7.pin (b,o)^dZ _^dZ _^iM hb e).2.1
  cases f with
  | next=>let#[σ7,H7,I7,n7]:=q7;show again I7 n7
  | cont=>let#[σ7,H7,I7,n7]:=q7;show again I7 n7
  | brk=>let#[σ7,H7,I7,q7]:=q7;show#[σ7,H7,I7.o8,q7]
  | ret v=>let#[x7,σ7,H7,I7,r7,q7]:=q7;show#[x7,σ7,H7,I7.o8,r7,q7]
end
theorem JI{σ:St}(Pv:Nat->St->Hp->Prop)(h0:Pv 0 σ H)(hl:∀i σ H,i<=xs.length->Pv i σ H->bB K H a xs)
  (hs:∀i x σ H,xs[i]?=some x->Pv i σ H->g x σ H λσ2 H2=>tb { D with nx:=Pv (i+1),ct:=Pv (i+1),bk:=D.nx } σ2 H2)(hd:∀σ H,Pv xs.length σ H->D.nx σ H):
  ∃W:Nat->Nat->St->Hp->Prop,(∃m,W 0 m σ H)/\∀i m σ H,W i m σ H ->
   ((NB K a).stop i H/\D.nx σ H)\/((NB K a).go i H/\∃N:St->Hp->Prop,(∀σ' H',N σ' H'->∃m',m'<m/\W (i+1) m' σ' H')/\∀x H',(NB K a).Jr i H x H'->g x σ H' λσ2 H2=>tb { D with nx:=N,ct:=N,bk:=D.nx } σ2 H2):=by show#[λi m σ H=>m=xs.length-i/\i<=xs.length/\Pv i σ H,#[xs.length,by simp,aI _,h0],?_];rintro i m σ H ⟨rfl,hi,p⟩;have q:=hl i σ H hi p;by_cases hlt:i<xs.length;show .inr #[#[xs,xs[i],q,by simp[hlt]],Pv (i+1),λσ' H' p'=>#[xs.length-(i+1),∅,rfl,hlt,p'],λx H' y=>?_];let#[e,y]:=y;subst e;show hs i x σ _ (y xs q) p;have e:i=xs.length:=∅;subst e;show .inl #[#[xs,q,ay _],hd σ H p]
theorem NZ{σ:St}(Pv:Nat->St->Hp->Prop)(h0:Pv 0 σ H)(hl:∀i σ H,i<=xs.length->Pv i σ H->cY K H a xs)
  (hs:∀i x σ H,xs[i]?=some x->Pv i σ H->g x σ H λσ2 H2=>tb { D with nx:=Pv (i+1),ct:=Pv (i+1),bk:=D.nx } σ2 H2)(hd:∀σ H,Pv xs.length σ H->D.nx σ H):
  ∃W:Nat->Nat->St->Hp->Prop,(∃m,W 0 m σ H)/\∀i m σ H,W i m σ H ->
   ((NC K a).stop i H/\D.nx σ H)\/((NC K a).go i H/\∃N:St->Hp->Prop,(∀σ' H',N σ' H'->∃m',m'<m/\W (i+1) m' σ' H')/\∀x H',(NC K a).Jr i H x H'->g x σ H' λσ2 H2=>tb { D with nx:=N,ct:=N,bk:=D.nx } σ2 H2):=by show#[λi m σ H=>m=xs.length-i/\i<=xs.length/\Pv i σ H,#[xs.length,by simp,aI _,h0],?_];rintro i m σ H ⟨rfl,hi,p⟩;have q:=hl i σ H hi p;by_cases hlt:i<xs.length;show .inr #[#[xs,xs[i],q,by simp[hlt]],Pv (i+1),λσ' H' p'=>#[xs.length-(i+1),∅,rfl,hlt,p'],λx H' y=>?_];let#[e,y]:=y;subst e;show hs i x σ _ (y xs q) p;have e:i=xs.length:=∅;subst e;show .inl #[#[xs,q,ay _],hd σ H p]
theorem GU{lo:Int}{σ:St}(Pv:Nat->St->Hp->Prop)(h0:Pv 0 σ H)
  (hs:∀i σ H,i<n->Pv i σ H->g (.int (lo+i)) σ H λσ2 H2=>tb { D with nx:=Pv (i+1),ct:=Pv (i+1),bk:=D.nx } σ2 H2)(hd:∀σ H,Pv n σ H->D.nx σ H):
  ∃W:Nat->Nat->St->Hp->Prop,(∃m,W 0 m σ H)/\∀i m σ H,W i m σ H ->
   ((oX lo n).stop i H/\D.nx σ H)\/((oX lo n).go i H/\∃N:St->Hp->Prop,(∀σ' H',N σ' H'->∃m',m'<m/\W (i+1) m' σ' H')/\∀x H',(oX lo n).Jr i H x H'->g x σ H' λσ2 H2=>tb { D with nx:=N,ct:=N,bk:=D.nx } σ2 H2):=by show#[λi m σ H=>m=n-i/\i<=n/\Pv i σ H,#[n,by simp,aI _,h0],?_];rintro i m σ H ⟨rfl,hi,p⟩;by_cases hlt:i<n;show .inr #[hlt,Pv (i+1),λσ' H' p'=>#[n-(i+1),∅,rfl,hlt,p'],λx H' y=>?_];let#[e,y]:=y;subst e y;show hs i σ _ hlt p;have e:i=n:=∅;subst e;show .inl #[ay _,hd σ H p]
abbrev R2:=V->V->Hp->VK->Prop
def j7(X:Cx)(f:Value->Value->Sem Value)(r:R2):Prop :=
 ∀(u5:List (Addr×Obj))(s:Shared)(σ:St)(H:Hp)(x y:V)(v u:Value)(Q:VK),Inv X u5 σ H s->RelV x v->RelV y u->r x y H Q ->
  wpAny (model X.prog X.w) X.A (f v u) (EP X u5 σ Q) X.xe s
def UnR(X:Cx)(f:Value->Sem Value)(r:V->Hp->VK->Prop):Prop :=
 ∀(u5:List (Addr×Obj))(s:Shared)(σ:St)(H:Hp)(x:V)(v:Value)(Q:VK),Inv X u5 σ H s->RelV x v->r x H Q ->
  wpAny (model X.prog X.w) X.A (f v) (EP X u5 σ Q) X.xe s
def dU(X:Cx)(f:Value)(r:List V->Hp->VK->Prop):Prop :=
 ∀(u5:List (Addr×Obj))(s:Shared)(σ:St)(H:Hp)(xs:List V)(us:List Value)(Q:VK),Inv X u5 σ H s->Vals xs us->r xs H Q ->
  wpAny (model X.prog X.w) X.A (call f us) (EP X u5 σ Q) X.xe s
def aaD(X:Cx)(r:V->Hp->(Bool->Hp->Prop)->Prop):Prop :=
 ∀(u5:List (Addr×Obj))(s:Shared)(σ:St)(H:Hp)(x:V)(v:Value)(Q:Bool->Hp->Prop),Inv X u5 σ H s->RelV x v->r x H Q ->
  wpAny (model X.prog X.w) X.A (truthy v) (TP X u5 σ Q) X.xe s
def N1(r:R2)(ta tb:TE):TE:=λσ H Q=>ta σ H λx H1=>tb σ H1 λy H2=>r x y H2 Q
def tUn(r:V->Hp->VK->Prop)(ta:TE):TE:=λσ H Q=>ta σ H λx H1=>r x H1 Q
def rI(C:Int->Int->Prop)(g:Int->Int->V):R2:=λx y H Q=>∃i j,x=.int i/\y=.int j/\C i j/\Q (g i j) H
def JJ(g:Int->Int->V):R2:=λx y H Q=>∃i j,x=.int i/\y=.int j/\Q (g i j) H
def rU(g:Int->V):V->Hp->VK->Prop:=λx H Q=>∃i,x=.int i/\Q (g i) H
section
variable {X:Cx}{a b:Expr}{ta tb tc:TE}
def Su(ha:PE X a ta)(hb:PE X b tb){σ:St}{R:V->V->Hp->Prop}(I:Inv X u5 σ H s)
  (h:ta σ H λx H1=>tb σ H1 λy H2=>R x y H2){Q:Value->Shared->Prop}
  (hf:∀v u s2 x y H2,Inv X u5 σ H2 s2->RelV x v->RelV y u->R x y H2->wpAny (model X.prog X.w) X.A (f v u) Q X.xe s2):
  wpAny (model X.prog X.w) X.A (eval a X.env) (λv s₁=>wpAny (model X.prog X.w) X.A (eval b X.env) (λu s₂=>wpAny (model X.prog X.w) X.A (f v u) Q X.xe s₂) X.xe s₁) X.xe s:=by show c7 (ha u5 s σ H _ I h) λv s1 zq=>?_;let#[x,H1,I1,r1,q1]:=zq;show c7 (hb u5 s1 σ H1 _ I1 q1) λu s2 zq=>?_;let#[y,H2,I2,r2,q2]:=zq;show hf v u s2 x y H2 I2 r1 r2 q2
def az{op:Operator}(ho:j7 X (binaryOp op) r)(ha:PE X a ta)(hb:PE X b tb):PE X (.BinOp a op b pos)^N1 r ta tb:=by intro u5 s σ H Q I h;show wpAny_BinOp (Su ha hb I h λv u s2 x y H2 I2 rx ry q=>ho u5 s2 σ H2 x y v u Q I2 rx ry q)
def rQ{op:UnaryOp}{r:V->Hp->VK->Prop}(ho:UnR X (unaryOp op) r)(ha:PE X a ta):PE X (.UnaryOp op a pos)^tUn r ta:=by intro u5 s σ H Q I h;show UnaryOp_ (c7 (ha u5 s σ H _ I h) λv s1 ⟨x,H1,I1,r1,q1⟩=>ho u5 s1 σ H1 x v Q I1 r1 q1)
def Sv{C:Int->Int->Prop}{g:Int->Int->Int}
  (rule:∀(i j:Int)(t u:Tok)(s:Shared)(Q:Value->Shared->Prop)(E:Value->Shared->Prop),C i j->Q (.int (g i j) s.toks) { s with toks:=s.toks+1 }->wpAny (model X.prog X.w) X.A (f (.int i t)^.int j u) Q E s):
  j7 X f (rI C λi j=>.int^g i j):=by intro u5 s σ H x y v u Q I rx ry h;let#[i,j,rfl,rfl,hc,q]:=h;let#[t,rfl]:=rx;let#[t',rfl]:=ry;show rule i j t t' s _ _ hc #[.int^g i j,H,I.tok _,#[_,rfl],q]
def N2{g:Int->Int->Int}
  (rule:∀(i j:Int)(t u:Tok)(s:Shared)(Q:Value->Shared->Prop)(E:Value->Shared->Prop),Q (.int (g i j) s.toks) { s with toks:=s.toks+1 }->wpAny (model X.prog X.w) X.A (f (.int i t)^.int j u) Q E s):
  j7 X f (JJ λi j=>.int^g i j):=by intro u5 s σ H x y v u Q I rx ry h;let#[i,j,rfl,rfl,q]:=h;let#[t,rfl]:=rx;let#[t',rfl]:=ry;show rule i j t t' s _ _ #[.int^g i j,H,I.tok _,#[_,rfl],q]
def N3{g:Int->Int->Bool}
  (rule:∀(i j:Int)(t u:Tok)(s:Shared)(Q:Value->Shared->Prop)(E:Value->Shared->Prop),Q (.bool^g i j) s->wpAny (model X.prog X.w) X.A (f (.int i t)^.int j u) Q E s):
  j7 X f (JJ λi j=>.bl^g i j):=by intro u5 s σ H x y v u Q I rx ry h;let#[i,j,rfl,rfl,q]:=h;let#[t,rfl]:=rx;let#[t',rfl]:=ry;show rule i j t t' s _ _ #[.bl^g i j,H,I,rfl,q]
def aaE(i j:Int):Prop:=0<j/\j<1073741824
def V6(i j:Int):Prop:=0<=j/\j<=1000000/\i.natAbs<2 ^ 64
def Sw(i j:Int):Prop:=(-(2 ^ 64)<i/\i<2 ^ 64)\/(-(2 ^ 64)<j/\j<2 ^ 64)
def Sw.ok{i j:Int}(h:Sw i j):IntMulOk i j:=by rcases h with⟨h1,h2⟩|⟨h1,h2⟩;show .of_left^intBits_le_64 h1 h2;show .of_right^intBits_le_64 h1 h2
def C1(k:Nat):(0:Int)<=2 ^ k:=by rw[two_pow_cast];show Int.natCast_nonneg _
def bL:j7 X (binaryOp .Add) (JJ λi j=>.int (i+j)):=N2 λ_ _ _ _ _ _ _ q=>add_int q
def ie:j7 X (binaryOp .Sub) (JJ λi j=>.int (i-j)):=N2 λ_ _ _ _ _ _ _ q=>sub_int q
def jG:j7 X (binaryOp .Mult) (rI Sw λi j=>.int (i*j)):=Sv λ_ _ _ _ _ _ _ hc q=>mul_int q hc.ok
theorem bR:j7 X (binaryOp .FloorDiv) (rI aaE λi j=>.int (i / j)):=Sv λi j _ _ _ _ _ hc q=>by have h1:(0:Int)<j:=hc.1;have h2:j<1073741824:=hc.2;show floordiv_int ∅ (by rw[Int.fdiv_eq_ediv_of_nonneg i ∅];show q) (.inl (PyProof.noPylong_small ∅))
theorem bh:j7 X (binaryOp .Mod) (rI (λ_ j=>0<j) λi j=>.int (i % j)):=Sv λi j _ _ _ _ _ hc q=>by have h1:(0:Int)<j:=hc;show mod_int' ∅ (by rw[Int.fmod_eq_emod_of_nonneg i ∅];show q)
def JK:j7 X (binaryOp .Pow) (rI V6 λi j=>.int^HPow.hPow i j.toNat):=Sv λ_ _ _ _ _ _ _ hc q=>pow_int_small hc.1 hc.2.1 hc.2.2 q
def JL:j7 X (binaryOp .LShift) (rI V6 λi j=>.int (i*2 ^ j.toNat)):=Sv λ_ _ _ _ _ _ _ hc q=>lshift_int_small hc.1 hc.2.1 hc.2.2 q
def Sx:j7 X (binaryOp .RShift) (rI (λ_ j=>0<=j) λi j=>.int (i / 2 ^ j.toNat)):=Sv λi j _ _ _ _ _ hc q =>
 rshift_int hc (by rw[Int.fdiv_eq_ediv_of_nonneg i^C1 _];show q)
def JM:j7 X (binaryOp .BitAnd) (JJ λi j=>.int^Builtin.bitAnd i j):=N2 λ_ _ _ _ _ _ _ q=>and_int q
def QJ:j7 X (binaryOp .BitOr) (JJ λi j=>.int^Builtin.bitOr i j):=N2 λ_ _ _ _ _ _ _ q=>or_int q
def unI{f:Value->Sem Value}{g:Int->Int}
  (rule:∀(i:Int)(t:Tok)(s:Shared)(Q:Value->Shared->Prop)(E:Value->Shared->Prop),Q (.int (g i) s.toks) { s with toks:=s.toks+1 }->wpAny (model X.prog X.w) X.A (f^.int i t) Q E s):
  UnR X f (rU λi=>.int^g i):=by intro u5 s σ H x v Q I rx h;let#[i,rfl,q]:=h;let#[t,rfl]:=rx;show rule i t s _ _ #[.int^g i,H,I.tok _,#[_,rfl],q]
def mD:UnR X (unaryOp .USub) (rU λi=>.int (-i)):=unI λ_ _ _ _ _ q=>neg_int q
end
noncomputable def V7:V->V->Bool
 | .dD,.dD=>true|.dD,.int _=>true|.int _,.dD=>true|.dD,.bl _=>true|.bl _,.dD=>true|.dD,.str _=>true|.str _,.dD=>true
 | .int _,.int _=>true|.bl _,.bl _=>true|.str _,.str _=>true|.GO _,.GO _=>true
 | .int _,.str _=>true|.str _,.int _=>true|.bl _,.str _=>true|.str _,.bl _=>true
 | _,_=>false
def rEq:R2:=λx y H Q=>V7 x y=true/\Q (.bl (decide (x=y))) H
def rNe:R2:=λx y H Q=>V7 x y=true/\Q (.bl (!decide (x=y))) H
def EG{i j:Int}:decide (V.int i=V.int j)=(i==j):=by rw[Bool.eq_iff_iff];simp
def JN{i j:Bool}:decide (V.bl i=V.bl j)=(i==j):=by rw[Bool.eq_iff_iff];simp
def EH{i j:Str}:decide (V.str i=V.str j)=(i==j):=by rw[Bool.eq_iff_iff];simp
def EI{i j:Array UInt8}:decide (V.GO i=V.GO j)=(i.toList==j.toList):=by rw[Bool.eq_iff_iff];cases i;cases j;simp
section
variable {X:Cx}{a b:Expr}{ta tb tc:TE}
def cC{σ:St}{Q:VK}{k k':Bool}(I:Inv X u5 σ H s)(q:Q (.bl k) H)(e:k=k'):EP X u5 σ Q (.bool k') s:=by subst e;show#[.bl k,H,I,rfl,q]
def cN:j7 X (compareOp .Eq) rEq:=by
 intro u5 s σ H x y v u Q I rx ry h;let#[hs,q]:=h;cases x with
 | dD =>
  cases rx;cases y with
  | dD=>cases ry;show PySem.EqNone.eq_none_none (cC I q^by simp)
  | bl j=>cases ry;show PySem.EqNone.eq_none_bool (cC I q^by simp)
  | int j=>let#[t',rfl]:=ry;show PySem.EqNone.eq_none_int (cC I q^by simp)
  | str j=>let#[t',rfl]:=ry;show PySem.EqNone.eq_none_str (cC I q^by simp)
  | _=>show absurd (show false=true from hs) kq
 | bl i =>
  cases rx;cases y with
  | dD=>cases ry;show PySem.EqNone.eq_bool_none (cC I q^by simp)
  | bl j=>cases ry;show eq_bool^cC I q JN
  | str j=>let#[t',rfl]:=ry;show PySem.EqMixed.eq_bool_str (cC I q^by simp)
  | _=>show absurd (show false=true from hs) kq
 | int i =>
  let#[t,rfl]:=rx;cases y with
  | dD=>cases ry;show PySem.EqNone.eq_int_none (cC I q^by simp)
  | int j=>let#[t',rfl]:=ry;show eq_int^cC I q EG
  | str j=>let#[t',rfl]:=ry;show PySem.EqMixed.eq_int_str (cC I q^by simp)
  | _=>show absurd (show false=true from hs) kq
 | str i =>
  let#[t,rfl]:=rx;cases y with
  | dD=>cases ry;show PySem.EqNone.eq_str_none (cC I q^by simp)
  | bl j=>cases ry;show PySem.EqMixed.eq_str_bool (cC I q^by simp)
  | int j=>let#[t',rfl]:=ry;show PySem.EqMixed.eq_str_int (cC I q^by simp)
  | str j=>let#[t',rfl]:=ry;show eq_str^cC I q EH
  | _=>show absurd (show false=true from hs) kq
 | GO i =>
  let#[t,rfl]:=rx;cases y with
  | GO j=>let#[t',rfl]:=ry;show PySem.W.eq_bytes^cC I q EI
  | _=>show absurd (show false=true from hs) kq
 | _=>cases y<;>show absurd (show false=true from hs) kq
def EJ:j7 X (compareOp .NotEq) rNe:=by
 intro u5 s σ H x y v u Q I rx ry h;let#[hs,q]:=h;cases x with
 | dD =>
  cases rx;cases y with
  | dD=>cases ry;show PySem.EqNone.ne_none_none (cC I q^by simp)
  | bl j=>cases ry;show PySem.EqNone.ne_none_bool (cC I q^by simp)
  | int j=>let#[t',rfl]:=ry;show PySem.EqNone.ne_none_int (cC I q^by simp)
  | str j=>let#[t',rfl]:=ry;show PySem.EqNone.ne_none_str (cC I q^by simp)
  | _=>show absurd (show false=true from hs) kq
 | bl i =>
  cases rx;cases y with
  | dD=>cases ry;show PySem.EqNone.ne_bool_none (cC I q^by simp)
  | bl j=>cases ry;show ne_bool^cC I q^congrArg not JN
  | str j=>let#[t',rfl]:=ry;show PySem.EqMixed.ne_bool_str (cC I q^by simp)
  | _=>show absurd (show false=true from hs) kq
 | int i =>
  let#[t,rfl]:=rx;cases y with
  | dD=>cases ry;show PySem.EqNone.ne_int_none (cC I q^by simp)
  | int j=>let#[t',rfl]:=ry;show ne_int^cC I q^congrArg not EG
  | str j=>let#[t',rfl]:=ry;show PySem.EqMixed.ne_int_str (cC I q^by simp)
  | _=>show absurd (show false=true from hs) kq
 | str i =>
  let#[t,rfl]:=rx;cases y with
  | dD=>cases ry;show PySem.EqNone.ne_str_none (cC I q^by simp)
  | bl j=>cases ry;show PySem.EqMixed.ne_str_bool (cC I q^by simp)
  | int j=>let#[t',rfl]:=ry;show PySem.EqMixed.ne_str_int (cC I q^by simp)
  | str j=>let#[t',rfl]:=ry;show ne_str^cC I q^congrArg not EH
  | _=>show absurd (show false=true from hs) kq
 | GO i =>
  let#[t,rfl]:=rx;cases y with
  | GO j=>let#[t',rfl]:=ry;show PySem.W.ne_bytes^cC I q^congrArg not EI
  | _=>show absurd (show false=true from hs) kq
 | _=>cases y<;>show absurd (show false=true from hs) kq
def iY:j7 X (compareOp .Lt) (JJ λi j=>.bl (decide (i<j))):=N3 λ_ _ _ _ _ _ _ q=>lt_int q
def EK:j7 X (compareOp .LtE) (JJ λi j=>.bl (decide (i<=j))):=N3 λ_ _ _ _ _ _ _ q=>le_int q
def wL:j7 X (compareOp .Gt) (JJ λi j=>.bl (decide (j<i))):=N3 λ_ _ _ _ _ _ _ q=>gt_int q
def JO:j7 X (compareOp .GtE) (JJ λi j=>.bl (decide (j<=i))):=N3 λ_ _ _ _ _ _ _ q=>ge_int q
def Sy:j7 X (compareOp .Is) (λx y H Q=>y=.dD/\Q (.bl (decide (x=.dD))) H):=by
 intro u5 s σ H x y v u Q I rx ry h;let#[rfl,q]:=h;cases ry;show is_none_gen^cC I q ?_;cases x<;>first
  | (cases rx;rfl)
  | (let#[t,rfl]:=rx;rfl)
def N4:j7 X (compareOp .IsNot) (λx y H Q=>y=.dD/\Q (.bl (!decide (x=.dD))) H):=by
 intro u5 s σ H x y v u Q I rx ry h;let#[rfl,q]:=h;cases ry;show isnot_none_gen^cC I q ?_;cases x<;>first
  | (cases rx;rfl)
  | (let#[t,rfl]:=rx;rfl)
def iN(b:Expr)(h:op≠.In:=by decide)(h2:op≠.NotIn:=by decide):behindInMarks op b=false:=by
 have e1:(op==CmpOp.In)=false:=by cases op<;>first|rfl|show absurd rfl h
 have e2:(op==CmpOp.NotIn)=false:=by cases op<;>first|rfl|show absurd rfl h2
 cases b<;>simp[behindInMarks,e1,e2]
def fF(ho:j7 X (compareOp op) r)(ha:PE X a ta)(hb:PE X b tb)(hm:behindInMarks op b=false):PE X (.Compare a [op] [b] pos)^N1 r ta tb:=by intro u5 s σ H Q I h;show wpAny_Compare1 (Su ha hb I h λv u s2 x y H2 I2 rx ry q=>ho u5 s2 σ H2 x y v u Q I2 rx ry q) hm
def EL(t:TE):TT:=λσ H Q=>t σ H λx H'=>∃k,x=.bl k/\Q k H'
def cK(ho:j7 X (compareOp op) r)(ha:PE X a ta)(hb:PE X b tb)(hm:behindInMarks op b=false):PT X (.Compare a [op] [b] pos)^EL^N1 r ta tb:=by
 intro u5 s σ H Q I h;show wpAny_isTrue_Compare1 (c7 (ha u5 s σ H _ I h) λv s1 ⟨x,H1,I1,r1,q1⟩=>c7 (hb u5 s1 σ H1 _ I1 q1) λu s2 ⟨y,H2,I2,r2,q2⟩ =>
  c7 (ho u5 s2 σ H2 x y v u _ I2 r1 r2 q2) λc s3 ⟨z,H3,I3,r3,k,e,q3⟩=>?_) hm
 subst e;cases r3;show wpAny_truthy_bool #[H3,I3,q3]
def JP(r r':R2)(ta tb tc:TE):TE:=λσ H Q=>ta σ H λx H1=>tb σ H1 λy H2=>r x y H2 λz H3=>∃k,z=.bl k /\
 (if k=true then tc σ H3 λw' H4=>r' y w' H4 Q else Q (.bl false) H3)
def zT{op':CmpOp}{r':R2}(ho:j7 X (compareOp op) r)(ho':j7 X (compareOp op') r')(ha:PE X a ta)(hb:PE X b tb)(hc:PE X c tc)
  (hm:lastMarks [op,op'] [b,c]=false:=by with_unfolding_all rfl):PT X (.Compare a [op,op'] [b,c] pos)^EL^JP r r' ta tb tc:=by
 intro u5 s σ H Q I h;show isTrue_chain (c7 (ha u5 s σ H _ I h) λv s1 ⟨x,H1,I1,r1,q1⟩=>test_link (c7 (hb u5 s1 σ H1 _ I1 q1) λu s2 ⟨y,H2,I2,r2,q2⟩ =>
  c7 (ho u5 s2 σ H2 x y v u _ I2 r1 r2 q2) λd s3 ⟨z,H3,I3,r3,k,e,q3⟩=>?_)) hm
 subst e;cases r3;show wpAny_truthy_bool ?_;cases k with
 | false =>
  let#[k',e',q']:=q3;cases e';show ite_ff #[H3,I3,q']
 | true =>
  show ite_tt^test_last (c7 (hc u5 s3 σ H3 _ I3 q3) λw' s4 zq=>?_);let#[z',H4,I4,r4,q4]:=zq;show c7 (ho' u5 s4 σ H4 y z' u w' _ I4 r2 r4 q4) λd' s5 zq=>?_;let#[z2,H5,I5,r5,k2,e2,q5]:=zq;subst e2;cases r5;show wpAny_truthy_bool #[H5,I5,q5]
def N5(K:aF)(x:V)(H:Hp)(k:Bool):Prop :=
 match x with
 | .dD=>k=false
 | .bl b=>k=b
 | .int i=>k=(i != 0)
 | .str y=>y.length<=sizeLine/\k=((y.length:Int) != 0)
 | .GO y=>y.size<=sizeLine/\k=((y.size:Int) != 0)
 | .ref p=>(∃xs,bB K H p xs/\k = !xs.isEmpty)\/(∃xs,cY K H p xs/\k = !xs.isEmpty)\/∃kvs,H p=some^.dK kvs/\k = !kvs.isEmpty
 | _=>False
def C2{κ:Type}{kvs:List (κ×V)}{vs:List (κ×Value)}(r:KV kvs vs):(!vs.isEmpty) = !kvs.isEmpty:=by cases r<;>rfl
def uq{its:List Value}(r:Vals xs its):(!its.toArray.isEmpty) = !xs.isEmpty:=by cases r<;>simp
def qS:(sizeLine:Nat)<2 ^ 63:=by rw[sizeLine_eq];decide
theorem Sz:aaD X (λx H Q=>∃k,N5 X.K x H k/\Q k H):=by
 intro u5 s σ H x v Q I rx h;let#[k,e,q]:=h;have hl:=qS;have hs:sizeLine=16777216:=sizeLine_eq;cases x with
 | dD =>
  cases rx;have e':k=false:=e;subst e';show truthy_none #[H,I,q]
 | bl b =>
  cases rx;have e':k=b:=e;subst e';show wpAny_truthy_bool #[H,I,q]
 | int i =>
  let#[t,rfl]:=rx;have e':k=(i != 0):=e;subst e';show PySem.P.truthy_int #[H,I,q]
 | str y =>
  let#[t,rfl]:=rx;obtain⟨hy,e'⟩:y.length<=sizeLine/\k=((y.length:Int) != 0):=e;subst e';show PySem.P.truthy_str ∅ #[H,I.tok _,q]
 | GO y =>
  let#[t,rfl]:=rx;obtain⟨hy,e'⟩:y.size<=sizeLine/\k=((y.size:Int) != 0):=e;subst e';show PySem.W.truthy_bytes ∅ #[H,I.tok _,q]
 | ref p =>
  cases rx;have e':(∃xs,bB X.K H p xs/\k = !xs.isEmpty)\/(∃xs,cY X.K H p xs/\k = !xs.isEmpty)\/∃kvs,H p=some^.dK kvs/\k = !kvs.isEmpty:=e;rcases e' with⟨xs,hx,e'⟩|⟨xs,hx,e'⟩|⟨kvs,hx,e'⟩
  .subst e';let#[its,r,pl,hz]:=I.list hx;have hlen:=r.length;show wpAny_truthy_list pl.isList (by erw[aY];lia) #[H,I.tok _,by rw[uq r];show q]
  .subst e';let#[its,r,pl,hz]:=I.tuple hx;have hlen:=r.length;show truthy_tuple pl (by erw[aY];lia) #[H,I.tok _,by rw[uq r];show q]
  .subst e';obtain⟨hz,hS,vs,r,m⟩:kvs.length<=sizeLine/\(p==sysModules)=false/\∃vs,KV kvs vs/\s.heap.DictOf (ck X.prog X.w) p vs:=I.hok p _ hx;have hlen:kvs.length=vs.length:=jV r;show wpAny_truthy_dict hS m ∅ #[H,I.tok _,by rw[C2 r];show q]
 | _=>show(show False from e).elim
def JQ(ha:PE X a ta)(he:∀whole,isTrue a X.env whole=(do let v <- whole;standAt a.pos;holding [v]^truthy v)):
  PT X a (λσ H Q=>ta σ H λx H'=>∃k,N5 X.K x H' k/\Q k H'):=by intro u5 s σ H Q I h;show isTrue_plain (c7 (ha u5 s σ H _ I h) λv s1 ⟨x,H1,I1,r1,q1⟩=>Sz u5 s1 σ H1 x v Q I1 r1 q1)^he _
def vals1{x:V}(r:Vals [x] us):∃u,us=[u]/\RelV x u:=by
 cases r with
 | cons r1 r2=>cases r2;show#[_,rfl,r1]
def vals2{x y:V}(r:Vals [x,y] us):∃u w',us=[u,w']/\RelV x u/\RelV y w':=by
 cases r with
 | cons r1 r2 =>
  cases r2 with
  | cons r3 r4=>cases r4;show#[_,_,rfl,r1,r3]
def GV(hc:X.calm=true):dU X (.builtin "min") (λxs H Q=>∃i j,xs=[.int i,.int j]/\Q (.int (if j<i then j else i)) H):=by intro u5 s σ H xs us Q I r h;let#[i,j,rfl,q]:=h;let#[u,w',rfl,#[t,rfl],#[t',rfl]]:=vals2 r;show min_two_ints (I.ok.hd hc) λh' tk k=>#[_,H,I.kept k,?_,q];by_cases hj:j<i;rw[if_pos hj,if_pos hj];show#[_,rfl];rw[if_neg hj,if_neg hj];show#[_,rfl]
def GW:dU X (.type "int") (λxs H Q=>(∃i,xs=[.int i]/\Q (.int i) H)\/∃k,xs=[.bl k]/\Q (.int (if k then 1 else 0)) H):=by
 intro u5 s σ H xs us Q I r h;rcases h with⟨i,rfl,q⟩|⟨k,rfl,q⟩
 .let#[u,rfl,t,rfl]:=vals1 r;show call_int_int #[.int i,H,I,#[_,rfl],q]
 .let#[u,rfl,r1]:=vals1 r;cases r1;show call_int_bool #[.int (if k then 1 else 0),H,I.tok _,#[_,rfl],q]
end
structure SA (h:Heap) (x dx C:Addr) (mA:Str->Option Value):Prop where
 obj:h.get? x=some^PySem.W.instObj C dx
 ns:h.Ns1 dx mA
 ne:dx≠x
def GX{mA:Str->Option Value}(n:h.Ns1 dx mA):∃od,h.get? dx=some od/\∀name,PySem.W.lookIn name od=some^mA name:=by
 let#[o,es,ep,ho,hd,hk,_,hm]:=n;show#[o,ho,λname=>?_];have e:=hm name;unfold nsFind findBy at e;rw[<- Array.find?_toList] at e;unfold PySem.W.lookIn;rw[hd];dsimp only;split;rename_i y q;rw[q] at e;show congrArg some e
 .rename_i q;rw[q] at e;have a:es.toList.any (·.refKey)=false:=by rw[List.any_eq_false];intro y hy;let#[z,t,hkey]:=hk y^Array.mem_toList_iff.mp hy;simp[DictEntry.refKey,hkey]
  have a':¬es.toList.any (·.refKey)=true:=by rw[a];show kq
  rw[if_neg a'];show congrArg some e
def SA.look{h:Heap}{x dx C:Addr}{mA:Str->Option Value}(I:SA h x dx C mA):∃od,PySem.W.InstAt h x (PySem.W.instObj C dx) C^some od/\∀name,PySem.W.lookIn name od=some (mA name) :=
 let⟨od,ho,hl⟩:=GX I.ns
 #[od,#[I.obj,rfl,rfl,ho],hl]
section
variable {x f:Addr}{mA:Str->Option Value}{v:Value}
end
def nS.some_of{o:Option Value}(r:nS (some v) o):∃u,o=some u/\RelV v u:=by
 cases o with
 | none=>show(show False from r).elim
 | some u=>show#[u,rfl,r]
section
variable {H H':Hp}{fs fs':List (Str×V)}
def N6(hok:lX P w H h)(e:H a=some^.ins C dx fs):∃mA,SA h a dx C mA/\(∀f,nS (fs.lookup f)^mA f)/\PySem.Within mA^fs.map (·.1)/\fs.length<=1000/\H dx=some^.own a:=by let#[d,z,ne,ob,mA,n,r,q]:=(show dg P w H h a^.ins C dx fs from hok a _ e);show#[mA,#[ob,n,ne],r,q,z,d]
end
structure Cls (K:aF) (C:Addr):Prop where
 pg:PySem.W.plainGet K C Str.empty=true
 hd:PySem.W.hasDictIn K C=true
 po:PySem.W.plainOver K C=true
 sa:PySem.W.findIn K (.ref C) "__setattr__" = some^some^.builtin "object.__setattr__"
def Cls.get{C:Addr}(c:Cls K C)(f:Str):PySem.W.plainGet K C f=true:=c.pg
section
variable {X:Cx}{σ:St}{H:Hp}{fs:List (Str×V)}{f:Str}{v:V}
end
def V8(X:Cx)(op:Operator)(rd:V->V->Hp->VK->Prop):Prop :=
 ∀(u5:List (Addr×Obj))(s:Shared)(σ:St)(H:Hp)(x y:V)(u v:Value)(Q:VK),Inv X u5 σ H s->RelV x u->RelV y v->rd x y H Q->wpAny (model X.prog X.w) X.A (inplaceOp op u v) (EP X u5 σ Q) X.xe s
section
variable {X:Cx}{o:Expr}{f:Str}{ta tv:TE}
def V9:V->V->Hp->VK->Prop:=λx y H Q=>∃i j,x=.int i/\y=.int j/\Q (.int (i-j)) H
def SD:V8 X .Sub V9:=by rintro u5 s σ H x y u v Q I rx ry ⟨i,j,rfl,rfl,q⟩;let#[t,rfl]:=(show ∃t,u=Value.int i t from rx);let#[t',rfl]:=(show ∃t',v=Value.int j t' from ry);show PyProof.Rows.isub_int #[.int (i-j),H,I.tok _,#[_,rfl],q]
end
section
variable {X:Cx}{σ:St}{H:Hp}{Q:Value->Shared->Prop}{c:Value}{b:Bool}
inductive oG (K:aF) (H:Hp):V->Value->Prop where
 | dD:oG K H .dD^.type "NoneType"
 | bl (x:Bool):oG K H (.bl x)^.type "bool"
 | int (i:Int):oG K H (.int i)^.type "int"
 | str (x:Str):oG K H (.str x)^.type "str"
 | Vw (x:UInt64):oG K H (.Vw x)^.type "float"
 | lst {a:Addr} {xs:List V} (e:H a=some^.lst xs):oG K H (.ref a)^.type "list"
 | zI {a:Addr} {o:Obj} {xs:List V} (e:H a=some^.zI o^.lst xs):oG K H (.ref a)^.type "list"
 | tup {a:Addr} {xs:List V} (e:H a=some^.tup xs):oG K H (.ref a)^.type "tuple"
 | dK {a:Addr} {kvs:List (Key×V)} (e:H a=some^.dK kvs):oG K H (.ref a)^.type "dict"
 | dT {a:Addr} {kvs:List (List Key×V)} (e:H a=some^.dT kvs):oG K H (.ref a)^.type "dict"
 | ins {a C dx:Addr} {fs:List (Str×V)} (e:H a=some^.ins C dx fs) (cl:Cls K C) (ha:PySem.W.findIn K (.ref C) "__class__" = some^some^.builtin "object.__class__")
   (hn:PySem.W.specialIn K (.builtin "object.__class__") "__get__" = some^some^.builtin "getset_descriptor.__get__") (htk:PySem.W.takesIn K^.builtin "object.__class__"=some true)
   (hm:PySem.W.mroIn K C^.type "object"=some true):oG K H (.ref a)^.ref C
def GY{x:V}{t:Value}(I:Inv X u5 σ H s)(rx:RelV x u)(ty:oG X.K H x t)(e:PySem.W.kitOne X.K t c=some b)(h:∀tk,Q (.bool b) { s with toks:=tk }):
  wpAny (model X.prog X.w) A (call (.builtin "isinstance") [u,c]) Q E s:=by
 cases ty with
 | dD=>cases(show u=Value.none from rx);show gC PySem.W.kitx_none I.yi g9 e (λz=>nomatch z) h
 | bl y=>cases(show u=Value.bool y from rx);show gC PySem.W.kitx_bool I.yi g9 e (λz=>nomatch z) h
 | int i=>let#[t,q]:=(show ∃t,u=Value.int i t from rx);cases q;show gC PySem.W.kitx_int I.yi g9 e (λz=>nomatch z) h
 | str y=>let#[t,q]:=(show ∃t,u=Value.str y t from rx);cases q;show gC PySem.W.kitx_str I.yi g9 e (λz=>nomatch z) h
 | Vw y=>let#[t,q]:=(show ∃t,u=Value.float y t from rx);cases q;show gC PySem.W.kitx_float I.yi g9 e (λz=>nomatch z) h
 | @lst a xs ea =>
  cases(show u=Value.ref a from rx);let#[_,_,n,_,h1]:=(show dg X.prog X.w H s.heap a^.lst xs from I.hok a _ ea);show gC PySem.W.kitx_list I.yi #[_,h1,rfl] e (λz=>nomatch z) h
 | @zI a ob xs ea =>
  cases(show u=Value.ref a from rx);let#[_,_,_,n,_,h1]:=(show dg X.prog X.w H s.heap a^.zI ob^.lst xs from I.hok a _ ea);show gC PySem.W.kitx_list I.yi #[_,h1,rfl] e (λz=>nomatch z) h
 | @tup a xs ea =>
  cases(show u=Value.ref a from rx);let#[_,_,_,p]:=(show dg X.prog X.w H s.heap a^.tup xs from I.hok a _ ea);let#[o,h1,h2,_]:=p;show gC PySem.W.kitx_tuple I.yi #[o,h1,h2] e (λz=>nomatch z) h
 | @dK a kvs ea =>
  cases(show u=Value.ref a from rx);let#[_,_,vs,_,p]:=(show dg X.prog X.w H s.heap a^.dK kvs from I.hok a _ ea);let#[o,es,ep,h1,h2,_]:=p;show gC PySem.W.kitx_dict I.yi #[o,h1,h2.1] e (λz=>nomatch z) h
 | @dT a kvs ea =>
  cases(show u=Value.ref a from rx);let#[_,_,xs,_,o,es,ep,h1,h2,_]:=(show dg X.prog X.w H s.heap a^.dT kvs from I.hok a _ ea);show gC PySem.W.kitx_dict I.yi #[o,h1,h2.1] e (λz=>nomatch z) h
 | @ins a C dx fs ea cl ha hn htk hm =>
  cases(show u=Value.ref a from rx);let#[mA,O,_]:=N6 I.hok ea;let#[od,J,_]:=O.look;show gC (PySem.W.kitx_own (cl.get _) cl.hd ha hn htk hm) I.yi J e (λz=>nomatch z) h
end
structure iZ (k:Nat) (A:Around):Prop where
 hd:A.handled=none
 dp:A.depth+3*k+5<recursionLimit
 un:A.units+16*k+200<cLine
theorem iZ.mono{j k:Nat}{A:Around}(r:iZ k A)(h:j<=k):iZ j A:=#[r.hd,by have:=r.dp;lia,by have:=r.un;lia]
theorem iZ.deeper(r:iZ (k+1) A)(env:Env):iZ k (A.deeper env) :=
 #[r.hd,by have:=r.dp;change A.depth+1+3*k+5<_;lia,by have:=r.un;change A.units+3+16*k+200<_;lia]
theorem iZ.in1(r:iZ (k+1) A):iZ k A.in1 :=
 #[r.hd,by have:=r.dp;change A.depth+3*k+5<_;lia,by have:=r.un;change A.units+1+16*k+200<_;lia]
theorem iZ.depth(r:iZ k A):A.depth<recursionLimit:=by have:=r.dp;lia
theorem iZ.units(r:iZ k A):A.units+64<cLine:=by have:=r.un;lia
def Wa:TA:=λ_ H Q=>Q [] H
def QK(ta:TE)(tr:TA):TA:=λσ H Q=>ta σ H λx H1=>tr σ H1 λxs H2=>Q (x::xs) H2
section
variable {X:Cx}{te:TE}{t:TA}
def af:PA X [] Wa:=λ_ _ _ _ H Q I h=>Calls.spliced_nil #[[],H,I,.nil,h]
def aa(ha:PE X e te)(hr:PA X es t)(hs:starEach (e::es) X.env=(false,eval e X.env)::starEach es X.env:=by rfl):PA X (e::es)^QK te t:=by intro pos u5 s σ H Q I h;rw[hs];change wpAny _ _ (spliced ((false,eval e X.env)::backTo pos^starEach es X.env)) _ _ s;show qF (c7 (ha u5 s σ H _ I h) λu s1 zq=>?_);let#[x,H1,I1,r1,q1]:=zq;show c7 (hr pos u5 s1 σ H1 _ I1 q1) λus s2 ⟨xs,H2,I2,r2,q2⟩=>#[x::xs,H2,I2,.cons r1 r2,q2]
def Wb(t:TA):TE:=λσ H Q=>t σ H λxs H1=>xs.length<=sizeLine/\∀p,H1 p=none->Q (.ref p)^upd H1 p^.tup xs
def Wc(t:TA):TE:=λσ H Q=>t σ H λxs H1=>xs.length<=sizeLine/\∀p,H1 p=none->Q (.ref p)^upd H1 p^.lst xs
def bC{x1}(h:PA X es t):PE X (.Tuple es x1 pos)^Wb t:=by intro u5 s σ H Q I hq;show wpAny_Tuple_spliced (c7 (h pos u5 s σ H _ I hq) λus s1 zq=>?_);let#[xs,H1,I1,r,z,q]:=zq;show #[by rw[<- r.length];show z,?_];have hf:H1 s1.heap.objs.size=none:=I1.hok.fresh^ay _;show#[.ref s1.heap.objs.size,upd H1 s1.heap.objs.size^.tup xs,I1.laid (t':=s1.toks) (λb u e=>dH _ e) (ay _) ?_,rfl,q _ hf];show#[z,us,r,#[_,iX _ rfl,rfl,_,rfl]]
def bT(h:PA X es t):PE X (.List es pos)^Wc t:=by intro u5 s σ H Q I hq;show wpAny_List_spliced (c7 (h pos u5 s σ H _ I hq) λus s1 zq=>?_);let#[xs,H1,I1,r,z,q]:=zq;show #[by rw[<- r.length];show z,?_];have hf:H1 s1.heap.objs.size=none:=I1.hok.fresh^ay _;show#[.ref s1.heap.objs.size,upd H1 s1.heap.objs.size^.lst xs,I1.laid (t':=s1.toks) (λb u e=>dH _ e) (ay _) ?_,rfl,q _ hf];show#[z,us,0,r,iX _ rfl]
end
abbrev Sp:=List V->Hp->VK->XK->Prop
abbrev GZ:=List Env->Hp->Shared->XK->Value->Shared->Prop
structure JR (P:Program) (w:World) (K:aF) (mg:Str->Option Value) (base:Heap) (A:Around) (outer:List Env) (s:Shared) (H:Hp):Prop where
 frames:A.frames=some outer
 mod:Mod K mg base
 bs:∀b o,base.get? b=some o->s.heap.get? b=some o/\H b=none
 NU:base.objs.size<=s.heap.objs.size
 sD:s.heap.FunFrames base outer
 Sj:∀b∈frs outer,H b=none
 hok:lX P w H s.heap
 bare:AllBare s.gens
def CE(outer:List Env)(P:Program)(w:World)(H:Hp)(s:Shared)(Q:VK)(u:Value)(s':Shared):Prop :=
 ∃v H',s'.os=s.os/\AllBare s'.gens/\Un (frs outer) [] H H' s.heap s'.heap/\lX P w H' s'.heap/\RelV v u/\Q v H'
def CR(CX:GZ)(outer:List Env)(P:Program)(w:World)(H:Hp)(s:Shared)(Q:VK)(E:XK)(r:Result)(s':Shared):Prop :=
 match r with
 | .ok (.ret u)=>CE outer P w H s Q u s'
 | .ok _=>False
 | .error e=>CX outer H s E e s'
structure bQ (P:Program) (w:World) (K:aF) (mg:Str->Option Value) (base:Heap) (CX:GZ) (k:Nat) (f:Addr) (fd:FuncData) (ps:List Str) (sp:Sp):Prop where
 len:∀vs H Q E,sp vs H Q E->vs.length=ps.length
 run:∀(A:Around)(outer:List Env)(s:Shared)(H:Hp)(args:Args)(us:List Value)(vs:List V)(Q:VK)(E:XK),iZ k A->JR P w K mg base A outer s H->BindsTo s fd args^ps.zip us->Vals vs us->sp vs H Q E ->
  codeAny (model P w) A (.call (.ref f) args) (CR CX outer P w H s Q E) s
def bQ.imp{f:Addr}{sp sp':Sp}(F:bQ P w K mg base CX k f fd ps sp)
  (h:∀vs H Q E,sp' vs H Q E->sp vs H Q E):bQ P w K mg base CX k f fd ps sp' :=
 #[λvs H Q E q=>F.len vs H Q E^h _ _ _ _ q,λA outer s H args us vs Q E hr he hb hv hs=>F.run A outer s H args us vs Q E hr he hb hv^h _ _ _ _ hs]
section
variable {X:Cx}{σ:St}{H:Hp}{s':Shared}
def Inv.aaI(I:Inv X u5 σ H s):JR X.prog X.w X.K X.mg X.base X.A X.stack s H :=
 #[I.ok.frames,I.ok.mod,I.bs,bO I.ok.NU I.sz,I.stack,I.yk,I.hok,I.bare]
def Inv.after{Q:VK}(I:Inv X u5 σ H s)(h:CE X.stack X.prog X.w H s Q u s'):EP X u5 σ Q u s':=by let#[v,H',os,bare,un,hok,r,q]:=h;let#[hh,g,d,t,os']:=s';obtain rfl:os'=s.os:=os;show#[v,H',I.call (h':=hh) (g':=g) (d':=d) (t':=t) (ch:=[]) un hok bare (λb z=>absurd z^by simp),r,q]
end
def JS(sp:Sp)(QL:List V)(E:XK)(t:TA):TE:=λσ H Q=>t σ H λvs H1=>sp (vs++QL) H1 Q E
def Binds(K:aF)(fd:FuncData)(ps:List Str)(ds:List Value):Prop :=
 ∀(s:Shared)(us:List Value),K.In s.heap->(us++ds).length=ps.length->BindsTo s fd #[us,[]]^ps.zip (us++ds)
def Binds.all(h:∀us:List Value,us.length=ps.length->bindArgs fd #[us,[]]=pure^ps.zip us):Binds K fd ps []:=λs us _ hl=>by rw[fL] at hl ⊢;show .of_eq^h us hl
def Passes(CX:GZ)(X:Cx)(E:XK):Prop:=∀(u5:List (Addr×Obj))(σ:St)(H:Hp)(s:Shared)(e:Value)(s':Shared),Inv X u5 σ H s->CX X.stack H s E e s'->X.xe e s'
section
variable {X:Cx}{CX:GZ}{f:Addr}{ps:List Str}{sp:Sp}{QL:List V}{ds:List Value}{E:XK}{o:Expr}{ta:TE}{t:TA}
def SE{σ:St}{Q:VK}{vs:List V}(F:bQ X.prog X.w X.K X.mg X.base CX k f fd ps sp)(hr:iZ k X.A)(hb:Binds X.K fd ps ds)(hd:Vals QL ds)(hx:Passes CX X E)
  (I:Inv X u5 σ H s)(r:Vals vs us)(h:sp (vs++QL) H Q E):wpAny (model X.prog X.w) X.A (call (.ref f) us) (EP X u5 σ Q) X.xe s:=by
 have r2:Vals (vs++QL) (us++ds):=r.append hd;have hl:(us++ds).length=ps.length:=by rw[<- r2.length];show F.len _ _ _ _ h
 show wpAny_call (codeAny_mono (F.run X.A X.stack s H #[us,[]] (us++ds) (vs++QL) Q E hr I.aaI (hb s us I.yi hl) r2 h) λr s' hq=>?_);cases r with
 | error e=>show hx u5 σ H s e s' I hq
 | ok fl =>
  cases fl with
  | ret u=>show I.after hq
  | next=>show False.elim hq
  | brk=>show False.elim hq
  | cont=>show False.elim hq
def N7(F:bQ X.prog X.w X.K X.mg X.base CX k f fd ps sp)(hr:iZ k X.A)(hg:Gl X x)(hm:X.mg x=some^.ref f)(hk:PySem.W.keepIn X.K^.ref f=true)(hb:Binds X.K fd ps ds)(hd:Vals QL ds)(hx:Passes CX X E)
  (ha:PA X (e::es) t)(hdb:(x==("__debug__" : Str))=false:=by decide)(he:starEach (e::es) X.env=(false,eval e X.env)::starEach es X.env:=by rfl)(hpl:(backTo pos^starEach es X.env).any (·.1)=false:=by rfl):
  PE X (.Call (.Name x p) (e::es) [] pos)^JS sp QL E t:=by intro u5 s σ H Q I h;show wpAny_Call_Name_kw^EE I hg hm ?_ hdb;show PySem.W.callWith_K (h₀:=X.base) I.ok.mod.Vy hk (c7 (ha pos u5 s σ H _ I h) λus s1 zq=>?_) he hpl;let#[vs,H1,I1,r,q]:=zq;show #[I1.yi,?_];show SE F hr hb hd hx I1 r q
end
section
variable {X:Cx}{CX:GZ}{f:Addr}{ps ks:List Str}{sp:Sp}{E:XK}{kpos:Pos}{o:Expr}{kws:List Keyword}{te ta:TE}{t tk:TA}{nm:Option Str}
variable {g:List Value->List Value->List Value}{gV:List V->List V->List V}
end
structure aG (N P:List Str) (sc:Scope):Prop where
 kind:sc.kind=.function
 co:sc.isCoroutine=false
 gen:sc.isGenerator=false
 nd:N.Nodup
 pre:N.take P.length=P
 par:∀x∈P,sc.names.lookup x=some .local\/sc.names.lookup x=some .cell
 SH:∀y∈sc.names,y.2≠.free
theorem wM{kindOf:Str->Option NameKind}{x:Str}:∀{binds:List (Str×Value)}{m:Str->Option Value},(∀v,(x,v)∉binds)->bindL kindOf binds m x=m x
 | [],_,_=>rfl
 | (n,v)::r,m,h=>by
  unfold bindL;rw[wM λw hw=>h w^cX _ hw];split
  .have:x≠n:=by rintro rfl;show h v jD
   simp[this]
  .rfl
theorem wN{kindOf:Str->Option NameKind}{x:Str}:∀{binds:List (Str×Value)}{m:Str->Option Value},(∀v,(x,v)∉binds)->bindC kindOf binds m x=m x
 | [],_,_=>rfl
 | (n,v)::r,m,h=>by
  unfold bindC;rw[wN λw hw=>h w^cX _ hw];split;rfl
  .have:x≠n:=by rintro rfl;show h v jD
   simp[this]
theorem wO{kindOf:Str->Option NameKind}{x:Str}{v:Value}:∀{P:List Str}{vs:List Value}{i:Nat}{m:Str->Option Value},P.Nodup->P[i]?=some x->vs[i]?=some v->kindOf x=some .local ->
  bindL kindOf (P.zip vs) m x=some v
 | [],_,_,_,_,h,_,_=>by simp at h
 | _::_,[],_,_,_,_,h,_=>by simp at h
 | p::P,w::vs,0,m,nd,h1,h2,hk=>by
  simp at h1 h2;subst h1;subst h2;change bindL kindOf ((p,w)::P.zip vs) m p=_;unfold bindL;rw[wM λv hv=>(gZ.mp nd).1 (List.of_mem_zip hv).1,if_pos hk];simp
 | p::P,w::vs,i+1,m,nd,h1,h2,hk=>by change bindL kindOf ((p,w)::P.zip vs) m x=_;unfold bindL;show wO (i:=i) (gZ.mp nd).2 (by simpa using h1) (by simpa using h2) hk
theorem wQ{kindOf:Str->Option NameKind}{x:Str}{v:Value}:∀{P:List Str}{vs:List Value}{i:Nat}{m:Str->Option Value},P.Nodup->P[i]?=some x->vs[i]?=some v->kindOf x≠some .local ->
  bindC kindOf (P.zip vs) m x=some v
 | [],_,_,_,_,h,_,_=>by simp at h
 | _::_,[],_,_,_,_,h,_=>by simp at h
 | p::P,w::vs,0,m,nd,h1,h2,hk=>by
  simp at h1 h2;subst h1;subst h2;change bindC kindOf ((p,w)::P.zip vs) m p=_;unfold bindC;rw[wN λv hv=>(gZ.mp nd).1 (List.of_mem_zip hv).1,if_neg hk];simp
 | p::P,w::vs,i+1,m,nd,h1,h2,hk=>by change bindC kindOf ((p,w)::P.zip vs) m x=_;unfold bindC;show wQ (i:=i) (gZ.mp nd).2 (by simpa using h1) (by simpa using h2) hk
noncomputable def start(N:List Str)(vs:List V):St:=vs.map some++List.replicate (N.length-vs.length) none
noncomputable def zU(CX:GZ)(P:Program)(w:World)(K:aF)(mg:Str->Option Value)(base:Heap)(N:List Str)(qual:Str)(scope:Scope)(f:Addr)(cd:Value)(A:Around)(outer:List Env)(s:Shared)(H:Hp)(E:XK):Cx where
 prog:=P
 w:=w
 K:=K
 mg:=mg
 base:=base
 A:=A.deeper (envOfC qual scope s.heap.objs.size f cd)
 N:=N
 s₀:=s
 H₀:=H
 env:=envOfC qual scope s.heap.objs.size f cd
 outer:=outer
 stack:=envOfC qual scope s.heap.objs.size f cd::outer
 ex:=[]
 calm:=true
 fn:=λ_=>true
 pn:=[]
 xe:=λe s'=>wpAny (model P w) (A.deeper^envOfC qual scope s.heap.objs.size f cd) (leaving (envOfC qual scope s.heap.objs.size f cd) e) (λ_ s''=>CX outer H s E e s'') (λe' s''=>CX outer H s E e' s'') s'
def zV{sc:Scope}(h:sc.names.lookup x=some .cell):∃c,(cellsFrom n sc.names []).lookup x=some c:=by have q:=PySem.W.cellsFrom_some sc.names n []^.inl h;show Option.isSome_iff_exists.mp q
theorem G0{f:Addr}{cd:Value}{outer:List Env}{s1:Shared}{E:XK}{vs:List V}
  (S:aG N ps scope)(hd:A.handled=none)(e0:JR P w K mg base A outer s H)(hl:vs.length=ps.length)(r:Vals vs us)
  (x:InCallC s s.heap.objs.size (bindL (envOfC qual scope s.heap.objs.size f cd).kindOf (ps.zip us) λ_=>none) (cellsFrom (s.heap.objs.size+1) scope.names []) (bindC (envOfC qual scope s.heap.objs.size f cd).kindOf (ps.zip us) λ_=>none) s1):
  Inv (zU CX P w K mg base N qual scope f cd A outer s H E) [] (start N vs) H s1:=by
 have hpl:ps.length<=N.length:=by have:=congrArg List.length S.pre;rw[cB] at this;lia
 let#[h1,tk,rfl,hk]:=x.done;have Wd:∀b:Addr,b∉(zU CX P w K mg base N qual scope f cd A outer s H E).ex:=λb z=>absurd (show b∈([]:List Addr) from z) (by simp);show#[#[e0.mod,S.kind,rfl,rfl,ay _,λy z c h1 h2=>?_,λy hy=>?_,λy c _ h=>?_,λ_=>hd,Around.frames_deeper e0.frames,.inr #[rfl,rfl],λb z=>absurd z^Wd b,e0.bs,e0.NU,λb _ _=>Wd b,λb z=>absurd z^Wd b,e0.sD,e0.Sj],
  rfl,e0.bare,Un.kept hk,#[_,x.toInCall.ns,λi y v h1 h2 h3=>?_],λy c h=>#[_,x.cell y c h],e0.hok.fresh^ay _,λy c h=>?_,λp hp=>absurd (show p∈([]:List (Addr×Obj)) from hp)^by simp,e0.hok.kept hk,?_]
 .show name_of_addr x.apart (g8 h1)^g8 h2
 .have hy:scope.names.lookup y=some .cell\/scope.names.lookup y=some .free:=hy;rcases hy with hy|hy;show zV hy;show absurd rfl^S.SH _^g8 hy
 .show jE^x.above y c^g8 h
 .have hi:i<vs.length:=by unfold start at h2;by_cases hi:i<vs.length;show hi;rw[j4^by simpa using hi] at h2;rw[List.getElem?_replicate] at h2;split at h2<;>cases h2
  have ha:vs[i]?=some v:=by
   unfold start at h2;rw[kT^by simpa using hi,aW] at h2;cases e:vs[i]? with
   | none=>rw[e] at h2;cases h2
   | some a=>rw[e] at h2;cases h2;rfl
  let#[u,hu,rv]:=r.get ha;have hp:ps[i]?=some y:=by rw[<- S.pre,tX ∅];show h1
  have ndP:ps.Nodup:=by rw[<- S.pre];show S.nd.sublist^List.take_sublist _ _
  show#[u,rv,?_];rcases S.par y^eY hp with k|k;show .inl #[k,wO ndP hp hu k]
  .let#[c,e]:=zV (n:=s.heap.objs.size+1) k;show .inr #[.inl k,c,e,?_];have q:=x.cell y c e;rw[wQ ndP hp hu (by change scope.names.lookup y≠_;rw[k];decide)] at q;show q
 .show e0.hok.fresh^jE^x.above y c^g8 h
 .unfold start;change _=N.length;rw[aO,aq,List.length_replicate];lia
def QM{f:Addr}{params:Arguments}{dV kV doc cdv ct oc:Value}{an od:Option Addr}
  {osl:Array^Option Value}{sp:Sp}(lk:K.lookup f=some #[oc,od,.func^PySem.W.fnOf name qual params body scope dV kV doc pm an cdv ct,osl])(hcd:PySem.W.codeIn K cdv qual=true)(S:aG N ps scope)
  (len:∀vs H Q E,sp vs H Q E->vs.length=ps.length)
  (hbody:∀(A:Around)(outer:List Env)(s:Shared)(H:Hp)(vs:List V)(Q:VK)(E:XK),iZ k^A.deeper^envOfC qual scope s.heap.objs.size f cdv->sp vs H Q E ->
   ∃t,wI (zU CX P w K mg base N qual scope f cdv A outer s H E) body t/\t { nx:=λ_ H'=>Q .dD H',rt:=Q } (start N vs) H):
  bQ P w K mg base CX (k+1) f (PySem.W.fnOf name qual params body scope dV kV doc pm an cdv ct) ps sp:=by
 show#[len,λA outer s H args us vs Q E hr e0 hb r CM=>?_];have hl:=len _ _ _ _ CM;have KX:K.In s.heap:=e0.mod.Vy.keeps λb o e=>(e0.bs b o e).1;have lim:s.heap.NoLimit:=e0.mod.nolimit.keeps λb o e=>(e0.bs b o e).1;have hkind:∀y∈ps.zip us,scope.names.lookup y.1=some .local\/(scope.names.lookup y.1=some .cell/\((cellsFrom (s.heap.objs.size+1) scope.names []).lookup y.1).isSome=true):=λ⟨n,v⟩ hy=>by rcases S.par n (List.of_mem_zip hy).1 with q|q;show .inl q;show .inr #[q,PySem.W.cellsFrom_some _ _ _^.inl q]
 show codeAny_call_function hr.depth (KX _ _ lk) rfl S.co S.gen rfl (PySem.W.codeRec_of KX hcd)^hb _ _ _ _ ?_;show wpAny_newFunctionEnv_cells S.kind hkind λenv he s1 x=>?_;subst he;show#[lim.keeps x.toInCall.keep,codeAny_func ?_];let#[t,ht,hq]:=hbody A outer s H vs Q E (hr.deeper _) CM;have I:Inv (zU CX P w K mg base N qual scope f cdv A outer s H E) [] (start N vs) H s1:=G0 S hr.hd e0 hl r x;show wpAny_mono (ht [] s1 (start N vs) H _ I hq) (λfl s' hs=>?_) λe s' hs=>hs;have fin:∀{σ':St}{H':Hp}{v:V}{u:Value},Inv (zU CX P w K mg base N qual scope f cdv A outer s H E) [] σ' H' s'->RelV v u->Q v H'->CE outer P w H s Q u s' :=
  λ{σ' H' v u} J rv q=>#[v,H',J.os,J.bare,J.base,J.hok,rv,q]
 cases fl with
 | ret u =>
  let#[v,σ',H',J,rv,q]:=hs;show fin J rv q
 | next =>
  let#[σ',H',J,q]:=hs;show fin (v:=V.dD) (u:=Value.none) J rfl q
 | brk =>
  let#[_,_,_,q]:=hs;show False.elim q
 | cont =>
  let#[_,_,_,q]:=hs;show False.elim q
section
variable {X:Cx}{t:TA}{id:String}{r:List V->Hp->VK->Prop}
def tCB(r:List V->Hp->VK->Prop)(t:TA):TE:=λσ H Q=>t σ H λvs H1=>r vs H1 Q
def aQ(hc:dU X (.builtin id) r)(hg:Gl X x)(hm:X.mg x=none)(hv:bootBuiltins x=some^.builtin id)(ha:PA X (e::es) t)(hn:x ≠ "__name__" := by decide)(hdb:(x==("__debug__" : Str))=false:=by decide)
  (he:starEach (e::es) X.env=(false,eval e X.env)::starEach es X.env:=by rfl)(hpl:(backTo pos^starEach es X.env).any (·.1)=false:=by rfl):PE X (.Call (.Name x p) (e::es) [] pos)^tCB r t:=by intro u5 s σ H Q I h;show wpAny_Call_Name_kw^jF I hg hm hv ?_ hn hdb;show PyProof.Rows.callWith_builtin1 (c7 (ha pos u5 s σ H _ I h) λus s1 ⟨vs,H1,I1,r1,q1⟩=>hc u5 s1 σ H1 vs us Q I1 r1 q1) he hpl
def cA(hc:dU X (.type T) r)(hg:Gl X x)(hm:X.mg x=none)(hv:bootBuiltins x=some^.type T)(ha:PA X (e::es) t)(hn:x ≠ "__name__" := by decide)(hdb:(x==("__debug__" : Str))=false:=by decide)
  (he:starEach (e::es) X.env=(false,eval e X.env)::starEach es X.env:=by rfl)(hpl:(backTo pos^starEach es X.env).any (·.1)=false:=by rfl):PE X (.Call (.Name x p) (e::es) [] pos)^tCB r t:=by intro u5 s σ H Q I h;show wpAny_Call_Name_kw^jF I hg hm hv ?_ hn hdb;show kZ (c7 (ha pos u5 s σ H _ I h) λus s1 ⟨vs,H1,I1,r1,q1⟩=>hc u5 s1 σ H1 vs us Q I1 r1 q1) he hpl
end
end L2
variable {H H':L2.Hp}{Q rt:L2.VK}{X:L2.Cx}{g:L2.TG}{ks:Nat->L2.Key}{kvs:List (L2.Key×L2.V)}{sp:L2.Sp}{ta tb tc td te tl tv tx:L2.TE}{tt:L2.TT}{v y:L2.V}{xs:List L2.V}
namespace HT
open PySem PyProof.Rows
section
open PySem.SeqAt
open PySem.AutoSeq1 (wpAny_loadPart')
open PySem.MeetsSeq PySem.MeetsSeq2 PySem.MeetsSeq3
end
def N8{t:Addr}{ws:List Value}{Q:Value->Shared->Prop}(ht:IsTup s.heap t vs.toArray)(hb:IsTup s.heap b ws.toArray)(hv:vs≠[])
  (h1:ws=[]->Q (.ref t) s)(h2:ws≠[]->Q (.ref s.heap.objs.size) { s with heap:=s.heap.push { cls:=.type "tuple", data:=.seq (vs++ws).toArray } })
  (hsz:vs.length+ws.length<=sizeLine):wpAny (model prog w) A (binaryOp .Add (.ref t)^.ref b) Q E s:=by
 let#[#[cls,dd,data,sl],ho,hc,n,hd]:=id ht;let#[#[agi,dd2,data2,sl2],ho2,hc2,n2,hd2]:=id hb;simp only at hc hd hc2 hd2;subst hc hd hc2 hd2;have e:vs.toArray++ws.toArray=(vs++ws).toArray:=by simp
 by_cases hw:ws=[]
 .show concat_meets #[_,ho,rfl] #[_,ho2,rfl] noFill_tuple_add seq_tuple_add PySem.F.slot_tuple_add PySem.F.entry_tuple_add (PySem.F.args_tuple_add_2 _ _)
   (tuple_addW1 t b vs.toArray ws.toArray n n2 dd dd2 sl sl2 (by simpa using hv)^by simp[hw]) #[ho,ho2,h1 hw]
 .show concat_meets #[_,ho,rfl] #[_,ho2,rfl] noFill_tuple_add seq_tuple_add PySem.F.slot_tuple_add PySem.F.entry_tuple_add (PySem.F.args_tuple_add_2 _ _)
   (tuple_addW2 t b vs.toArray ws.toArray n n2 dd dd2 sl sl2 (by simpa using hv) (by simpa using hw) (by rw[aY,aY];show hsz)) #[ho,ho2,?_]
  rw[e];show h2 hw
noncomputable def dM(n d:Nat):Option Int->Nat
 | none=>d
 | some v=>if v<0 then(v+(n:Int)).toNat else min v.toNat n
def o9(n d:Nat):dM n d none=d:=rfl
theorem ny(n d k:Nat):dM n d^some (k:Int)=min k n:=by change(if(k:Int)<0 then((k:Int)+(n:Int)).toNat else min (k:Int).toNat n)=min k n;rw[if_neg ∅,jg]
theorem SJ(n d:Nat)(hd:d<=n)(o:Option Int):dM n d o<=n:=by
 cases o with
 | none=>show hd
 | some v =>
  change(if v<0 then(v+(n:Int)).toNat else min v.toNat n)<=n;by_cases hv:v<0;rw[if_pos hv];lia;rw[if_neg hv];show Nat.min_le_right _ _
theorem EM(v:Int)(n d:Nat):(if v<0 then max (v+(n:Int)) 0 else min v (n:Int))=((dM n d^some v:Nat):Int):=by change(if v<0 then max (v+(n:Int)) 0 else min v (n:Int))=(((if v<0 then(v+(n:Int)).toNat else min v.toNat n):Nat):Int);by_cases hv:v<0;erw[if_pos hv];lia;erw[if_neg hv];lia
theorem C3(lo hi:Option Int)(n:Nat):Builtin.Slice.sliceAdjust lo hi 1 (n:Int)=(((dM n 0 lo:Nat):Int),((dM n n hi:Nat):Int)):=by
 have h1:¬((1:Int)<0):=∅;unfold Builtin.Slice.sliceAdjust;erw[h1,if_false];show Prod.ext ?_ ?_
 .cases lo with
  | none=>rfl
  | some v=>show EM v n 0
 .cases hi with
  | none=>rfl
  | some v=>show EM v n n
theorem C4(i j:Nat):Builtin.Slice.slicePlaces (i:Int) (j:Int) 1=j-i:=by unfold Builtin.Slice.slicePlaces;have h1:(1:Int)>0:=∅;erw[h1,if_true,Int.ediv_one];split<;>lia
def ur{v:Value}{o:Option Int}{Q:Option Int->Shared->Prop}(p:IsPart v o)(h:Q o s):wpAny (model prog w) A (Builtin.Slice.slicePartIndex v) Q E s:=by
 cases p with
 | none=>show slicePart_none h
 | int i t=>show slicePart_int h
def qT{sl:Addr}{vl vu:Value}{lo hi:Option Int}{Q:Int×Int×Nat->Shared->Prop}(hs:s.heap.IsSliceOf sl vl vu .none)(pl:IsPart vl lo)(pu:IsPart vu hi)
  (h:Q (((dM n 0 lo:Nat):Int),1,dM n n hi-dM n 0 lo) s):wpAny (model prog w) A (Builtin.Slice.sliceApplied (.ref sl)^pure (n:Int)) Q E s:=by let#[os,hos,hcs,hds]:=id hs;unfold Builtin.Slice.sliceApplied Builtin.Slice.sliceFields;show au^au^wpAny_field hos hds (x:=vl) rfl^au^wpAny_field hos hds (x:=vu) rfl^au^wpAny_field hos hds (x:=.none) rfl^aN ?_;show au^slicePart_none ?_;change wpAny _ _ (if((1:Int)==0)=true then _ else _) _ _ s;rw[if_neg^by decide];show au^ur pl^au^ur pu^au^aN ?_;change wpAny _ _ (match Builtin.Slice.sliceAdjust lo hi 1 (n:Int) with|(lo,hi)=>pure (lo,(1:Int),Builtin.Slice.slicePlaces lo hi 1)) _ _ s;rw[C3 lo hi n];change wpAny _ _ (pure (((dM n 0 lo:Nat):Int),(1:Int),Builtin.Slice.slicePlaces ((dM n 0 lo:Nat):Int) ((dM n n hi:Nat):Int) 1)) _ _ s;rw[C4];show aN h
theorem JT(xs:Array Value)(i k:Nat):((List.range k).filterMap λ(m:Nat)=>xs[((i:Int)+(m:Int)*1).toNat]?).toArray=((xs.toList.drop i).take k).toArray:=by
 have e:(λ(m:Nat)=>xs[((i:Int)+(m:Int)*1).toNat]?)=λm=>xs[i+m]?:=by funext m;have:((i:Int)+(m:Int)*1).toNat=i+m:=∅;rw[this]
 rw[e];have:=pick_run xs i k;rw[List.filterMap_map] at this;have e2:((λx=>xs[x]?)∘λx=>i+x)=λm=>xs[i+m]?:=rfl;rw[e2] at this;rw[this]
theorem pq{t sl:Addr}{items:Array Value}{vl vu:Value}{lo hi:Option Int}{Q:Value->Shared->Prop}(ht:IsTup s.heap t items)(hs:s.heap.IsSliceOf sl vl vu .none)(pl:IsPart vl lo)(pu:IsPart vu hi)
  (hw:¬(dM items.size 0 lo=0/\dM items.size items.size hi=items.size))
  (h:Q (.ref s.heap.objs.size) { s with heap:=s.heap.push { cls:=.type "tuple", data:=.seq ((items.toList.drop (dM items.size 0 lo)).take (dM items.size items.size hi-dM items.size 0 lo)).toArray } })
  (hsz:items.size<=sizeLine):wpAny (model prog w) A (getItem (.ref t)^.ref sl) Q E s:=by
 have EN:sizeOk^.seq ((items.toList.drop^dM items.size 0 lo).take (dM items.size items.size hi-dM items.size 0 lo)).toArray:=by change((items.toList.drop^dM items.size 0 lo).take (dM items.size items.size hi-dM items.size 0 lo)).toArray.size<=sizeLine;rw[aY,cB,qL,c8];lia
 have hj:dM items.size items.size hi<=items.size:=SJ _ _ (ay _) hi;let#[os,hos,hcs,hds]:=id hs;have hTs:s.TypeIs (.ref sl) "slice" := #[os,hos,hcs];unfold getItem
 try with_reducible show wpAny_holding ?_
 first|show au (aN ?_)|skip
 show au^wpAny_sequenceKey ht.typeIs (by decide) ?_;show au (wpAny_callSpecial?_slot (name:=Str.ofString "__getitem__") ht.typeIs PyProof.Rows.slot_tuple_getitem
  (wpAny_call_entry PyProof.Rows.slot_tuple_getitem ht.typeIs entry_tuple_getitem ?_^args_tuple_getitem _ _))
 change wpAny _ _ (Builtin.Tuple.tupleItemsOf (.ref t) >>= _) _ _ s;show au^tupleItemsOf_ ht ?_;show au^wpAny_typeOf hTs ?_;rw[if_pos^by decide];show au^qT hs pl pu ?_;have hno:¬((((dM items.size 0 lo:Nat):Int)==0&&(1:Int)==1&&(dM items.size items.size hi-dM items.size 0 lo)==items.size)=true):=by intro q;rw[rO,rO] at q;have q1:((dM items.size 0 lo:Nat):Int)=0:=eq_of_beq q.1.1;have q2:dM items.size items.size hi-dM items.size 0 lo=items.size:=eq_of_beq q.2;show hw #[∅,∅]
 change wpAny _ _ (if(((dM items.size 0 lo:Nat):Int)==0&&(1:Int)==1&&(dM items.size items.size hi-dM items.size 0 lo)==items.size)=true then _ else _) _ _ s;rw[if_neg hno,JT]
 first
  | show au (m:=Builtin.Tuple.tupleExact _)^wpAny_newObj_type (aN #[_,rfl,aN h]) EN
  | show au (m:=Builtin.Tuple.tupleExact _)^wpAny_newObj_type (au^aN^aN #[_,rfl,aN h]) EN
  | show au^au (m:=Builtin.Tuple.tupleExact _)^wpAny_newObj_type (aN^aN #[_,rfl,aN h]) EN
  | show au^au (m:=Builtin.Tuple.tupleExact _)^wpAny_newObj_type (aN #[_,rfl,aN h]) EN
end HT
namespace L2
variable {its:List Value}{x:V}{o:Option V}{kvs:List (List Key×V)}{Q:Value->Shared->Prop}
abbrev TO:=St->Hp->(Option Int->Hp->Prop)->Prop
def PO(X:Cx)(e:Option Expr)(t:TO):Prop :=
 ∀(u5:List (Addr×Obj))(s:Shared)(σ:St)(H:Hp)(Q:Option Int->Hp->Prop),Inv X u5 σ H s->t σ H Q ->
  wpAny (model X.prog X.w) X.A (evalPart e X.env) (λu s'=>∃o H',Inv X u5 σ H' s'/\IsPart u o/\Q o H') X.xe s
def EO:TO:=λ_ H Q=>Q none H
def QN(t:TE):TO:=λσ H Q=>t σ H λx H1=>∃i,x=.int i/\Q (some i) H1
section
variable {lo hi:Option Expr}{tl th:TO}{p2:Pos}
def eB:PO X none EO:=by intro u5 s σ H Q I h;rw[evalPart_none];show aN #[none,H,I,.none,h]
def dF(h:PE X e te):PO X (some e)^QN te:=by intro u5 s σ H Q I hw;rw[evalPart_some];show c7 (h u5 s σ H _ I hw) λu s1 zq=>?_;let#[x,H1,I1,r1,q1]:=zq;let#[i,rfl,q]:=q1;let#[t,rfl]:=r1;show#[some i,H1,I1,.int i t,q]
def SlR(X:Cx)(r:V->Option Int->Option Int->Hp->VK->Prop):Prop :=
 ∀(u5:List (Addr×Obj))(s:Shared)(σ:St)(H:Hp)(x:V)(v vl vu:Value)(lo hi:Option Int)(sl:Addr)(Q:VK),Inv X u5 σ H s->RelV x v->s.heap.IsSliceOf sl vl vu .none->IsPart vl lo->IsPart vu hi->r x lo hi H Q ->
  ∃T id,typeLookup (.type T) "__getitem__" = pure^some^.builtin id/\s.TypeIs v T/\wpAny (model X.prog X.w) X.A (getItem v^.ref sl) (EP X u5 σ Q) X.xe s
def tSl(r:V->Option Int->Option Int->Hp->VK->Prop)(te:TE)(tl th:TO):TE:=λσ H Q=>te σ H λx H1=>tl σ H1 λl H2=>th σ H2 λu H3=>r x l u H3 Q
def cU{r:V->Option Int->Option Int->Hp->VK->Prop}(hr:SlR X r)(he:PE X e te)(hl:PO X lo tl)(hu:PO X hi th):PE X (.Subscript e (.Slice lo hi none p2) pos)^tSl r te tl th:=by intro u5 s σ H Q I h;show Subscript_ (c7 (he u5 s σ H _ I h) λv s1 zq=>?_);let#[x,H1,I1,r1,q1]:=zq;show wpAny_Slice (c7 (hl u5 s1 σ H1 _ I1 q1) λvl s2 zq=>?_);let#[l,H2,I2,pl,q2]:=zq;show c7 (hu u5 s2 σ H2 _ I2 q2) λvu s3 zq=>?_;let#[u,H3,I3,pu,q3]:=zq;rw[evalPart_none];show aN ?_;have I4:Inv X u5 σ H3 { s3 with heap:=s3.heap.push { cls:=.type "slice", data:=.fields #v[vl,vu,.none] } }:=I3.kept (t':=s3.toks) λb ob q=>dH _ q;let#[T,id,hT,ht,hg]:=hr u5 { s3 with heap:=s3.heap.push { cls:=.type "slice", data:=.fields #v[vl,vu,.none] } } σ H3 x v vl vu l u s3.heap.objs.size Q I4 r1 (Heap.IsSliceOf.new ..) pl pu q3;change wpAny (model X.prog X.w) X.A (subscriptTail e (.Slice lo hi none p2) v^.ref s3.heap.objs.size) (EP X u5 σ Q) X.xe { s3 with heap:=s3.heap.push { cls:=.type "slice", data:=.fields #v[vl,vu,.none] } };show tail_any (ops:=[.ref s3.heap.objs.size,v]) ht hT hg (by with_unfolding_all rfl)
noncomputable def gW(xs:List V)(lo hi:Option Int):List V:=(xs.drop^HT.dM xs.length 0 lo).take (HT.dM xs.length xs.length hi-HT.dM xs.length 0 lo)
theorem fP(xs:List V)(lo hi:Option Int):(gW xs lo hi).length<=xs.length:=by unfold gW;rw[cB,qL];lia
def We(K:aF):V->Option Int->Option Int->Hp->VK->Prop:=λx lo hi H Q=>∃a xs,x=.ref a/\cY K H a xs /\
 ¬(HT.dM xs.length 0 lo=0/\HT.dM xs.length xs.length hi=xs.length)/\∀p,H p=none->Q (.ref p)^upd H p^.tup^gW xs lo hi
def k9:SlR X^We X.K:=by
 intro u5 s σ H x v vl vu lo hi sl Q I rx hs pl pu h;let#[a,xs,rfl,hx,hw,q]:=h;cases rx;let#[its,r,ht,hz]:=I.tuple hx;have hlen:its.toArray.size=xs.length:=by rw[aY];show r.length.symm
 show#["tuple", _,PyProof.Rows.slot_tuple_getitem.lookup,ht.typeIs,?_];show HT.pq ht hs pl pu (by rw[hlen];show hw) ?_ (by rw[hlen];show hz);rw[hlen];show#[.ref s.heap.objs.size,_,I.laid (t':=s.toks) (o:=.tup^gW xs lo hi) (λb ob q=>dH _ q) (ay _) ?_,rfl,q _^I.hok.fresh^ay _];show#[bO (fP xs lo hi) hz,_,(r.drop^HT.dM xs.length 0 lo).take (HT.dM xs.length xs.length hi-HT.dM xs.length 0 lo),IsTup.new _ _]
def QO(K:aF):R2:=λx y H Q=>∃a b xs ys,x=.ref a/\y=.ref b/\cY K H a xs/\cY K H b ys/\xs≠[]/\xs.length+ys.length<=sizeLine /\
 (ys=[]->Q (.ref a) H)/\(ys≠[]->∀p,H p=none->Q (.ref p)^upd H p^.tup (xs++ys))
def Vals.ym(r:Vals xs us):us=[]↔xs=[]:=by
 cases r with
 | nil=>simp
 | cons _ _=>simp
def lg:j7 X (binaryOp .Add)^QO X.K:=by intro u5 s σ H x y v u Q I rx ry h;let#[a,b,xs,ys,rfl,rfl,ha,hb,hx,hz,q1,q2]:=h;cases rx;cases ry;let#[its,r1,p1,_]:=I.tuple ha;let#[its2,r2,p2,_]:=I.tuple hb;show HT.N8 p1 p2 (λz=>hx^r1.ym.mp z) (λz=>#[.ref a,H,I,rfl,q1^r2.ym.mp z]) (λz=>?_) (by rw[<- r1.length,<- r2.length];show hz);show#[.ref s.heap.objs.size,_,I.laid (t':=s.toks) (o:=.tup (xs++ys)) (λb ob q=>dH _ q) (ay _) ?_,rfl,q2 (λw=>z^r2.ym.mpr w) _^I.hok.fresh^ay _];show#[by rw[aO];show hz,_,r1.append r2,IsTup.new _ _]
end
noncomputable def Js(n:Nat)(i:Int):Option Nat:=if 0<=i then(if i<n then some i.toNat else none) else if -(n:Int)<=i then some (i+n).toNat else none
noncomputable def qU{α:Type}(xs:List α)(i:Int):Option α:=(Js xs.length i).bind λj=>xs[j]?
theorem ER{i:Int}(h:Js n i=some j):seqIndex? i n=some j/\j<n /\ -(n:Int)<=i/\i<n:=by unfold Js at h;by_cases h0:0<=i;rw[if_pos h0] at h;by_cases h1:i<n;rw[if_pos h1] at h;have e:i.toNat=j:=Option.some.inj h;show#[by rw[seqIndex_of h0 h1,e],∅,∅,h1];rw[if_neg h1] at h;cases h;rw[if_neg h0] at h;by_cases h1:-(n:Int)<=i;rw[if_pos h1] at h;have e:(i+n).toNat=j:=Option.some.inj h;show#[by rw[seqIndex_neg ∅ h1,e],∅,h1,∅];rw[if_neg h1] at h;cases h
def yo{α:Type}{xs:List α}{i:Int}{v:α}(h:qU xs i=some v):∃j,seqIndex? i xs.length=some j/\xs[j]?=some v/\j<xs.length /\ -(xs.length:Int)<=i/\i<xs.length:=by
 unfold qU at h;cases e:Js xs.length i with
 | none=>rw[e] at h;cases h
 | some j =>
  rw[e] at h;let#[h1,h2,h3,h4]:=ER e;show#[j,h1,h,h2,h3,h4]
theorem cR{α:Type}{xs:List α}{v:α}(h:xs[j]?=some v):qU xs (j:Int)=some v:=by
 have hj:j<xs.length:=(eX h).1;have e:Js xs.length (j:Int)=some j:=by unfold Js;rw[if_pos ∅,if_pos ∅];simp
 unfold qU;rw[e];show h
def ES(b:Expr):Prop:=∀o i,subscripted b false o i=operate [o,i]^getItem o i
def SK(X:Cx)(r:R2):Prop :=
 ∀(value slice:Expr)(u5:List (Addr×Obj))(s:Shared)(σ:St)(H:Hp)(x y:V)(v u:Value)(Q:VK),Inv X u5 σ H s->RelV x v->RelV y u->r x y H Q ->
  subscripted slice false v u=operate [v,u]^getItem v u->wpAny (model X.prog X.w) X.A (subscriptTail value slice v u) (EP X u5 σ Q) X.xe s
def MtR(X:Cx)(id:String)(r:V->List V->Hp->VK->Prop):Prop :=
 ∀(u5:List (Addr×Obj))(s:Shared)(σ:St)(H:Hp)(x:V)(xs:List V)(v:Value)(us:List Value)(Q:VK),Inv X u5 σ H s->RelV x v->Vals xs us->r x xs H Q ->
  wpAny (model X.prog X.w) X.A (call (.builtin id) (v::us)) (EP X u5 σ Q) X.xe s
section
variable {a b:Expr}
def Wf{r:R2}(hr:SK X r)(ha:PE X a ta)(hb:PE X b tb)(hs:ES b):PE X (.Subscript a b pos)^N1 r ta tb:=by intro u5 s σ H Q I h;show Subscript_ (Su ha hb I h λv u s2 x y H2 I2 rx ry q=>hr a b u5 s2 σ H2 x y v u Q I2 rx ry q^hs _ _)
def SM(K:aF):R2:=λx y H Q=>∃p xs i v,x=.ref p/\y=.int i/\bB K H p xs/\qU xs i=some v/\Q v H
def SO(K:aF):R2:=λx y H Q=>∃p xs i v,x=.ref p/\y=.int i/\cY K H p xs/\qU xs i=some v/\Q v H
def Wg:R2:=λx y H Q=>∃z i c,x=.str z/\y=.int i/\z.length<=sizeLine/\qU z.cps.toList i=some c/\Q (.str #[#v[c]]) H
theorem bN:SK X^SM X.K:=by
 intro value slice u5 s σ H x y v u Q I rx ry h hs;let#[p,xs,i,z,rfl,rfl,hq,he,q]:=h;cases rx;let#[t,rfl]:=ry;let#[its,r,pl,hz]:=I.list hq;let#[j,h1,h2,h3,h4,h5]:=yo he;let#[w,ew,rw']:=r.get h2;have hl:=r.length;have hn:=qS;have fin:EP X u5 σ Q w s:=#[z,H,I,rw',q];by_cases h0:0<=i
 .have hj:i.toNat=j:=by rw[seqIndex_of h0 h5] at h1;show Option.some.inj h1
  show item_listR pl.isList h0 ∅ (by rw[hj];simpa using ew) fin hs
 .have hj:(i+(its.toArray.size:Int)).toNat=j:=by rw[seqIndex_neg ∅ h4] at h1;rw[aY,<- hl];show Option.some.inj h1
  show subscriptTail_builtinR (x:=w) pl.isList.typeIs slot_list_getitem.lookup
   (wpAny_getItem_list_neg (Q:=λr s'=>r=w/\EP X u5 σ Q r s') pl.isList ∅ (by rw[aY]<;>lia) ∅ (by rw[hj];simpa using ew) #[rfl,fin]) hs
theorem aZ:SK X^SO X.K:=by
 intro value slice u5 s σ H x y v u Q I rx ry h hs;let#[p,xs,i,z,rfl,rfl,hq,he,q]:=h;cases rx;let#[t,rfl]:=ry;let#[its,r,pl,hz]:=I.tuple hq;let#[j,h1,h2,h3,h4,h5]:=yo he;let#[w,ew,rw']:=r.get h2;have hl:=r.length;have hn:=qS;have fin:EP X u5 σ Q w s:=#[z,H,I,rw',q];show subscriptTail_builtinR (x:=w) pl.typeIs slot_tuple_getitem.lookup
  (getItem_tuple (j:=j) (Q:=λr s'=>r=w/\EP X u5 σ Q r s') pl ∅ ∅ (by rw[aY,<- hl];show h1) (by simpa using ew) #[rfl,fin]) hs
theorem JU:SK X Wg:=by
 intro value slice u5 s σ H x y v u Q I rx ry h hs;let#[z,i,c,rfl,rfl,hz,he,q]:=h;let#[t,rfl]:=rx;let#[t',rfl]:=ry;let#[j,h1,h2,h3,h4,h5]:=yo he;have hl:z.cps.toList.length=z.length:=by simp[Str.length]
 rw[hl] at h1 h4 h5;have hn:=qS;show tail_any (typeIs_str s z t) slot_str_getitem.lookup (getItem_str (c:=c) (by
  have e1:decide (i < -(2 ^ 63:Int))=false:=decide_eq_false ∅;have e2:decide (i>=2 ^ 63)=false:=decide_eq_false ∅;rw[e1,e2,Bool.or_false]) (by rw[h1];simpa using h2) #[.str #[#v[c]],H,I.tok _,#[_,rfl],q]) hs
def C5(its:List Value)(n j:Nat)(u:Value):Obj.mapSeq (·.setIfInBounds j u) { cls:=.type "list", data:=.seq its.toArray n }={ cls:=.type "list", data:=.seq (its.set j u).toArray n }:=by simp[Obj.mapSeq]
theorem Inv.lst{u5:List (Addr×Obj)}{σ:St}{H:Hp}{s:Shared}{p:Addr}{xs:List V}(I:Inv X u5 σ H s)(h:H p=some^.lst xs):
  ∃(its:List Value)(n:Nat),Vals xs its/\s.heap.get? p=some { cls:=.type "list", data:=.seq its.toArray n }/\xs.length<=sizeLine:=by let#[z,its,n,r,e]:=I.hok p _ h;show#[its,n,r,e,z]
def Inv.SQ{σ:St}{p:Addr}{ys:List V}{its':List Value}{n':Nat}{f:Obj->Obj}(I:Inv X u5 σ H s)(h:H p=some^.lst xs)
  (ho:s.heap.get? p=some { cls:=.type "list", data:=.seq its.toArray n })(hf:f { cls:=.type "list", data:=.seq its.toArray n }={ cls:=.type "list", data:=.seq its'.toArray n' })(r:Vals ys its')(hz:ys.length<=sizeLine)(t:Nat):
  Inv X u5 σ (upd H p^.lst ys) { s with heap:=s.heap.update p f,toks:=t }:=by
 have e:(s.heap.update p f).get? p=some { cls:=.type "list", data:=.seq its'.toArray n' }:=by rw[gI f ho (by rw[hf]<;>rfl),hf]
 show I.write (x:=p) (e:=p) (by rw[h];trivial) (.inl rfl) (λb u hb q=>(jf _ _^bz hb).trans q) #[_,e] ?_;show#[hz,its',n',r,e]
def QS:V->V->V->Hp->(Hp->Prop)->Prop:=λo i v H Q=>∃p xs k j,o=.ref p/\i=.int k/\H p=some^.lst xs/\Js xs.length k=some j/\Q^upd H p^.lst^xs.set j v
theorem set_list:VY X QS:=by
 intro u5 s σ H o i v ov iv u Q I ro ri rv h;let#[p,xs,k,j,rfl,rfl,hp,hj,q]:=h;cases ro;let#[t,rfl]:=ri;let#[its,n,r,ho,hz]:=I.lst hp;let#[h1,h2,h3,h4]:=ER hj;have hl:=r.length;have hn:=qS;have I':Inv X u5 σ (upd H p^.lst^xs.set j v) { s with heap:=s.heap.update p (Obj.mapSeq (·.setIfInBounds j u)) } :=
  I.SQ hp ho (C5 its n j u) (r.set rv j) (by rw[l8];show hz) s.toks
 by_cases h0:0<=k
 .have hk:k.toNat=j:=by rw[seqIndex_of h0 h4] at h1;show Option.some.inj h1
  show PySem.W.ki_setAt ho h0 ∅ (by rw[aY,<- hl];show h4) (by rw[hk];show#[_,I',q])
 .have hk:(k+(its.toArray.size:Int)).toNat=j:=by rw[seqIndex_neg ∅ h3] at h1;rw[aY,<- hl];show Option.some.inj h1
  show PySem.W.ki_setBack ho ∅ (by rw[aY,<- hl];show h3) ∅ (by rw[hk];show#[_,I',q])
theorem yp(lo hi:Option Int)(n:Nat):(sliceBounds lo hi none n).1=((HT.dM n 0 lo:Nat):Int)/\(sliceBounds lo hi none n).2.1=((HT.dM n n hi:Nat):Int)/\(sliceBounds lo hi none n).2.2=1:=by
 show#[?_,?_,rfl]
 .cases lo with
  | none=>simp[sliceBounds,HT.dM]
  | some i =>
   erw[sliceBounds,HT.dM,Option.getD_none,show(1:Int)>0 by decide,if_true];by_cases h:i<0;erw[h,if_true]<;>lia;erw[h,if_false]<;>lia
 .cases hi with
  | none=>simp[sliceBounds,HT.dM]
  | some i =>
   erw[sliceBounds,HT.dM,Option.getD_none,show(1:Int)>0 by decide,if_true];by_cases h:i<0;erw[h,if_true]<;>lia;erw[h,if_false]<;>lia
def wc(its:List Value)(lo hi:Option Int):slicePick its.toArray lo hi none=((its.drop^HT.dM its.length 0 lo).take (HT.dM its.length its.length hi-HT.dM its.length 0 lo)).toArray:=by let#[h1,h2,h3]:=yp lo hi its.toArray.size;unfold slicePick;rw[h1,h2,h3];erw[sliceRange_one,pick_run,aY]<;>rfl
def Wh(K:aF):V->Option Int->Option Int->Hp->VK->Prop:=λx lo hi H Q=>∃a xs,x=.ref a/\bB K H a xs/\∀p,H p=none->Q (.ref p)^upd H p^.lst^gW xs lo hi
theorem jq:SlR X^Wh X.K:=by intro u5 s σ H x v vl vu lo hi sl Q I rx hs pl pu h;let#[a,xs,rfl,hx,q]:=h;cases rx;let#[its,r,ht,hz]:=I.list hx;have hlen:=r.length;show#["list", _,slot_list_getitem.lookup,ht.isList.typeIs,?_];show wpAny_getItem_list_slice ht.isList hs pl pu .none (by simp) ?_ (by rw[aY]<;>lia);rw[wc,<- hlen];show#[.ref s.heap.objs.size,_,I.laid (t':=s.toks) (o:=.lst^gW xs lo hi) (λb ob q=>dH _ q) (ay _) ?_,rfl,q _^I.hok.fresh^ay _];show#[bO (fP xs lo hi) hz,_,0,(r.drop^HT.dM xs.length 0 lo).take (HT.dM xs.length xs.length hi-HT.dM xs.length 0 lo),iX _ rfl]
noncomputable def kB:V->Bool
 | .dD=>true
 | .bl _=>true
 | .int _=>true
 | .str _=>true
 | _=>false
noncomputable def N9:V->V->Bool
 | .dD,.dD=>true
 | .bl a,.bl b=>a==b
 | .bl a,.int b=>(if a then 1 else 0)==b
 | .int a,.bl b=>a==(if b then 1 else 0)
 | .int a,.int b=>a==b
 | .str a,.str b=>a==b
 | _,_=>false
def SR{v:Value}(ry:RelV y u)(rx:RelV x v)(fy:kB y=true)(fx:kB x=true):SeqAt.EqAt A s u v^N9 y x:=by
 cases y with
 | dD =>
  cases ry;cases x with
  | dD=>cases rx;show SeqAt.EqAt.same _
  | bl b=>cases rx;show SeqAt.EqAt.none_bool b
  | int b=>let#[t,rfl]:=rx;show SeqAt.EqAt.none_int b t
  | str b=>let#[t,rfl]:=rx;show SeqAt.EqAt.none_str b t
  | _=>show absurd (show false=true from fx) kq
 | bl a =>
  cases ry;cases x with
  | dD=>cases rx;show SeqAt.EqAt.bool_none a
  | bl b=>cases rx;show SeqAt.EqAt.bool_bool a b
  | int b=>let#[t,rfl]:=rx;show SeqAt.EqAt.bool_int a b t
  | str b=>let#[t,rfl]:=rx;show SeqAt.EqAt.bool_str a b t
  | _=>show absurd (show false=true from fx) kq
 | int a =>
  let#[t',rfl]:=ry;cases x with
  | dD=>cases rx;show SeqAt.EqAt.int_none a t'
  | bl b=>cases rx;show SeqAt.EqAt.int_bool a t' b
  | int b=>let#[t,rfl]:=rx;show SeqAt.EqAt.int_int a t' b t
  | str b=>let#[t,rfl]:=rx;show SeqAt.EqAt.int_str a t' b t
  | _=>show absurd (show false=true from fx) kq
 | str a =>
  let#[t',rfl]:=ry;cases x with
  | dD=>cases rx;show SeqAt.EqAt.str_none a t'
  | bl b=>cases rx;show SeqAt.EqAt.str_bool a t' b
  | int b=>let#[t,rfl]:=rx;show SeqAt.EqAt.str_int a t' b t
  | str b=>let#[t,rfl]:=rx;show SeqAt.EqAt.str_str a t' b t
  | _=>show absurd (show false=true from fx) kq
 | _=>show absurd (show false=true from fy) kq
noncomputable def C6(x:V)(u:Value):Bool:=match u with
 | .none=>N9 .dD x
 | .bool b=>N9 (.bl b) x
 | .int i _=>N9 (.int i) x
 | .str z _=>N9 (.str z) x
 | _=>false
def JV(r:RelV y u)(f:kB y=true):C6 x u=N9 y x:=by
 cases y with
 | dD=>cases r;rfl
 | bl b=>cases r;rfl
 | int i=>let#[t,rfl]:=r;rfl
 | str z=>let#[t,rfl]:=r;rfl
 | _=>show absurd (show false=true from f) kq
theorem pC{x:V}:∀{xs:List V}{us:List Value},Vals xs us->xs.all kB=true->us.any^C6 x=xs.any λy=>N9 y x
 | _,_,.nil,_=>rfl
 | y::xs,u::us,.cons r t,f=>by rw[List.all_cons,rO] at f;rw[jB,jB,JV r f.1,pC t f.2]
theorem mE{A:Around}{s:Shared}{x:V}{v:Value}(rx:RelV x v)(fx:kB x=true):∀{xs:List V}{us:List Value},Vals xs us->xs.all kB=true->∀u∈us,SeqAt.EqAt A s u v (C6 x u)
 | _,_,.nil,_=>λu hu=>by cases hu
 | y::xs,u::us,.cons r t,f=>λu' hu=>by rw[List.all_cons,rO] at f;rcases aH.mp hu with rfl|hu;rw[JV r f.1];show SR r rx f.1 fx;show mE rx fx t f.2 u' hu
noncomputable def pF(x:V)(xs:List V):Bool:=xs.any λy=>N9 y x
def Wi(K:aF)(neg:Bool):R2:=λx y H Q=>∃p xs,y=.ref p/\(bB K H p xs\/cY K H p xs)/\kB x=true/\xs.all kB=true/\Q (.bl (if neg then !pF x xs else pF x xs)) H
def fz:j7 X (compareOp .In)^Wi X.K false:=by
 intro u5 s σ H x y v u Q I rx ry h;let#[p,xs,rfl,hq,fx,fs,q]:=h;cases ry;rcases hq with hq|hq
 .let#[its,r,pl,hz]:=I.list hq;show SeqAt.in_listAt (C6 x) pl.isList (λw hw=>mE rx fx r fs w^by simpa using hw) #[.bl _,H,I,rfl,?_];rw[show its.toArray.any^C6 x=its.any (C6 x) by simp,pC r fs];show q
 .let#[its,r,pl,hz]:=I.tuple hq;show SeqAt.in_tupleAt (C6 x) pl (λw hw=>mE rx fx r fs w^by simpa using hw) #[.bl _,H,I,rfl,?_];rw[show its.toArray.any^C6 x=its.any (C6 x) by simp,pC r fs];show q
def f7:j7 X (compareOp .NotIn)^Wi X.K true:=by
 intro u5 s σ H x y v u Q I rx ry h;let#[p,xs,rfl,hq,fx,fs,q]:=h;cases ry;rcases hq with hq|hq
 .let#[its,r,pl,hz]:=I.list hq;show SeqAt.notIn_listAt (C6 x) pl.isList (λw hw=>mE rx fx r fs w^by simpa using hw) #[.bl _,H,I,rfl,?_];rw[show its.toArray.any^C6 x=its.any (C6 x) by simp,pC r fs];show q
 .let#[its,r,pl,hz]:=I.tuple hq;show SeqAt.notIn_tupleAt (C6 x) pl (λw hw=>mE rx fx r fs w^by simpa using hw) #[.bl _,H,I,rfl,?_];rw[show its.toArray.any^C6 x=its.any (C6 x) by simp,pC r fs];show q
theorem yq:dU X (.builtin "len") (λxs H Q=>∃p ys,xs=[.ref p]/\(bB X.K H p ys\/cY X.K H p ys)/\Q (.int ys.length) H):=by
 intro u5 s σ H xs us Q I r h;let#[p,ys,rfl,hq,q]:=h;let#[u,rfl,rx]:=vals1 r;cases rx;have hn:=qS;rcases hq with hq|hq
 .let#[its,r',pl,hz]:=I.list hq;have hlen:=r'.length;show Calls.call_len_list pl.isList (by erw[aY]<;>lia) #[.int ys.length,H,I.tok _,#[s.toks+1,by rw[aY,hlen]],q]
 .let#[its,r',pl,hz]:=I.tuple hq;have hlen:=r'.length;show len_tuple pl (by erw[aY]<;>lia) #[.int ys.length,H,I.tok _,#[s.toks+1,by rw[aY,hlen]],q]
theorem yr:dU X (.type "list") (λxs H Q=>∃p ys,xs=[.ref p]/\(bB X.K H p ys\/cY X.K H p ys)/\∀l,H l=none->Q (.ref l)^upd H l^.lst ys):=by
 intro u5 s σ H xs us Q I r h;let#[p,ys,rfl,hq,q]:=h;let#[u,rfl,rx]:=vals1 r;cases rx;have fin:∀(its:List Value),Vals ys its->ys.length<=sizeLine->∀(h':Heap)(c':Nat),(∀b o',s.heap.get? b=some o'->h'.get? b=some o') ->
   h'.get? s.heap.objs.size=some { cls:=.type "list", dict:=none,data:=.seq its.toArray c',slots:=#[] }->EP X u5 σ Q (.ref s.heap.objs.size) { s with heap:=h' }:=λits r' hz h' c' kp e =>
  #[.ref s.heap.objs.size,_,I.laid (t':=s.toks) kp (ay _)^show dg X.prog X.w _ h' _^.lst ys from#[hz,its,c',r',e],rfl,q _^I.hok.fresh^ay _]
 rcases hq with hq|hq;let#[its,r',pl,hz]:=I.list hq;have hlen:=r'.length;let#[o,ho,hc,n,hd]:=pl.isList;show call_list_seq p (.inl rfl) ho hc hd (λh' c' kp e=>fin its r' hz h' c' kp e) (by erw[aY]<;>lia);let#[its,r',pl,hz]:=I.tuple hq;have hlen:=r'.length;let#[o,ho,hc,n,hd]:=pl;show call_list_seq p (.inr rfl) ho hc hd (λh' c' kp e=>fin its r' hz h' c' kp e) (by erw[aY]<;>lia)
theorem we:dU X (.type "tuple") (λxs H Q=>∃p ys,xs=[.ref p]/\((bB X.K H p ys/\∀l,H l=none->Q (.ref l)^upd H l^.tup ys)\/(cY X.K H p ys/\Q (.ref p) H))):=by
 intro u5 s σ H xs us Q I r h;let#[p,ys,rfl,h]:=h;let#[u,rfl,rx]:=vals1 r;cases rx;rcases h with⟨hq,q⟩|⟨hq,q⟩
 .let#[its,r',pl,hz]:=I.list hq;have hlen:=r'.length;show call_tuple_list pl.isList (λh' kp=>?_) (by erw[aY]<;>lia);have I1:Inv X u5 σ H { s with heap:=h' }:=I.kept (t':=s.toks) kp;have I2:Inv X u5 σ (upd H h'.objs.size^.tup ys) { s with heap:=h'.push { cls:=.type "tuple", data:=.seq its.toArray } } :=
   I1.laid (t':=s.toks) (λb o e=>dH _ e) (ay _) (show dg X.prog X.w _ _ _^.tup ys from#[hz,its,r',IsTup.new _ _])
  show#[.ref h'.objs.size,_,I2,rfl,q _^I1.hok.fresh^ay _]
 .let#[its,r',pl,hz]:=I.tuple hq;show call_tuple_same pl #[.ref p,H,I,rfl,q]
def VA(K:aF)(T:String)(x:V)(H:Hp):Prop:=match x with
 | .str _=>T = "str"
 | .int _=>T = "int"
 | .ref p=>(T = "list" /\ ∃xs,bB K H p xs)\/(T = "tuple" /\ ∃o,K.lookup p=some o/\o.cls=.type "tuple" /\ o.dict=none) \/
   (T = "dict" /\ ((∃kvs,H p=some^.dK kvs)\/∃kvs,H p=some^.dT kvs))\/(T = "set" /\ ∃S n,H p=some^.set S n)
 | _=>False
def JW{σ:St}{v:Value}(I:Inv X u5 σ H s)(r:RelV x v)(ty:VA X.K T x H):
  s.TypeIs v T/\∀a,v=.ref a->∃ob,s.heap.get? a=some ob/\ob.dict=none:=by
 cases x with
 | str z =>
  let#[t,rfl]:=r;cases(show T = "str" from ty);show#[typeIs_str s z t,λ_ e=>nomatch e]
 | int i =>
  let#[t,rfl]:=r;cases(show T = "int" from ty);show#[typeIs_int s i t,λ_ e=>nomatch e]
 | ref p =>
  cases r;rcases ty with⟨rfl,xs,hq⟩|⟨rfl,o,hk,hc,hd⟩|⟨rfl,hk⟩|⟨rfl,S,n,hk⟩
  .let#[its,_,pl,_]:=I.list hq;show#[pl.isList.typeIs,λa e=>?_];cases e;let#[o,n,e,c,hd,_]:=pl;show#[o,e,hd]
  .show#[#[o,I.yi p o hk,hc],λa e=>?_];cases e;show#[o,I.yi _ o hk,hd]
  .have z:∃o,s.heap.get? p=some o/\o.ExactDict:=by rcases hk with⟨kvs,hk⟩|⟨kvs,hk⟩;let#[_,_,_,_,o,_,_,e,ex,_]:=I.hok p _ hk;show#[o,e,ex];let#[_,_,_,_,o,_,_,e,ex,_]:=I.hok p _ hk;show#[o,e,ex]
   let#[o,e,ex]:=z;show#[#[o,e,ex.1],λa e2=>?_];cases e2;show#[o,e,ex.2.1]
  .let#[o,_,_,_,e,ex,_]:=I.hok p _ hk;show#[#[o,e,ex.1],λa e2=>?_];cases e2;show#[o,e,ex.2.1]
 | _=>show False.elim ty
def Wj(K:aF)(T:String)(r:V->List V->Hp->VK->Prop)(to:TE):TE:=λσ H Q=>to σ H λx H1=>VA K T x H1/\r x [] H1 Q
def tBM(K:aF)(T:String)(r:V->List V->Hp->VK->Prop)(to:TE)(t:TA):TE:=λσ H Q=>to σ H λx H1=>VA K T x H1/\t σ H1 λxs H2=>r x xs H2 Q
variable {o:Expr}{to:TE}{t:TA}{id:String}{r:V->List V->Hp->VK->Prop}
def C7(pa:PlainAttrs T)(slot:Slot T name id)(hty:typeOf^.builtin id=pure^.type "method_descriptor")(hm:MtR X id r)(ho:PE X o to)
  (hbase:attributeBase o name X.env^eval o X.env=eval o X.env:=by rfl)(hline:(apos.endLine==cpos.line)=true:=by rfl):PE X (.Call (.Attribute o name apos) [] [] cpos)^Wj X.K T r to:=by intro u5 s σ H Q I h;show wpAny_Call_method0_late hbase hline (c7 (ho u5 s σ H _ I h) λv s1 zq=>?_);let#[x,H1,I1,r1,ty,q1]:=zq;let#[h1,h2]:=JW I1 r1 ty;show#[T,id,pa,slot,hty,h1,h2,tV rfl^PySem.evalArgs_none^hm u5 s1 σ H1 x [] v [] Q I1 r1 .nil q1]
def i0(pa:PlainAttrs T)(slot:Slot T name id)(hty:typeOf^.builtin id=pure^.type "method_descriptor")(hm:MtR X id r)(ho:PE X o to)(ha:PA X (e::es) t)
  (hbase:attributeBase o name X.env^eval o X.env=eval o X.env:=by rfl)
  (hfew:((backTo cpos^starEach (e::es) X.env).all (λx=>!x.1)&&(backToKw cpos^keywordEach [] X.env).all (λx=>x.1.isSome)
   && decide ((e::es).length+([]:List Keyword).length+(if([]:List Keyword).isEmpty then 0 else 1)<30))=true:=by rfl)
  (hline:(apos.endLine==cpos.line)=true:=by rfl)(hs:starEach (e::es) X.env=(false,eval e X.env)::starEach es X.env:=by rfl)(hplain:(backTo cpos^starEach es X.env).any (·.1)=false:=by rfl):
  PE X (.Call (.Attribute o name apos) (e::es) [] cpos)^tBM X.K T r to t:=by intro u5 s σ H Q I h;show wpAny_Call_method_late hbase hfew hline rfl (c7 (ho u5 s σ H _ I h) λv s1 zq=>?_);let#[x,H1,I1,r1,ty,q1]:=zq;let#[h1,h2]:=JW I1 r1 ty;show#[T,id,pa,slot,hty,h1,h2,?_];have hA:=ha cpos u5 s1 σ H1 _ I1 q1;rw[hs] at hA ⊢;show tV (by change(false||(backTo cpos^starEach es X.env).any (·.1))=false;rw[hplain]<;>rfl)^Calls.evalArgs_plain ?_;show c7 hA λus s2 ⟨vs,H2,I2,r2,q2⟩=>hm u5 s2 σ H2 x vs v us Q I2 r1 r2 q2
end
def Zb(X:Cx)(id:String)(r:V->List V->Hp->VK->Prop):Prop :=
 ∀(u5:List (Addr×Obj))(s:Shared)(σ:St)(H:Hp)(x:V)(xs:List V)(v:Value)(us:List Value)(Q:VK),Inv X u5 σ H s->RelV x v->Vals xs us->r x xs H Q ->
  wpAny (model X.prog X.w) X.A (call (.builtin id) (v::us)) (EP X u5 σ Q) X.xe s
theorem Vals.one(h:Vals [x] us):∃u,us=[u]/\RelV x u:=by cases h with | cons r t=>cases t;show#[_,rfl,r]
theorem Vals.zero:∀{us:List Value},Vals [] us->us=[]
 | _,.nil=>rfl
theorem Vals.dropLast(h:Vals xs us):Vals xs.dropLast us.dropLast:=by
 induction h with
 | nil=>show .nil
 | cons r t ih =>
  cases t with
  | nil=>show .nil
  | cons q t'=>show .cons r ih
theorem Vals.rep(h:Vals xs us):∀k:Nat,Vals (List.replicate k xs).flatten (List.replicate k us).flatten
 | 0=>.nil
 | k+1=>by rw[ud,ud,List.flatten_cons,List.flatten_cons];show Vals.append h^Vals.rep h k
theorem C8{α:Type}(l:List α):l.eraseIdx (l.length-1)=l.dropLast:=by
 induction l with
 | nil=>rfl
 | cons a r ih =>
  cases r with
  | nil=>rfl
  | cons b r =>
   have e:(a::b::r).length-1=((b::r).length-1)+1:=by have h1:(a::b::r).length=r.length+2:=rfl;have h2:(b::r).length=r.length+1:=rfl;lia
   rw[e,List.eraseIdx_cons_succ,ih]
   all_goals rfl
theorem foldl_rep(its:List Value):∀(k:Nat)(acc:List Value),
  List.foldl (λx1 x2=>x1++x2) acc.toArray^List.replicate k its.toArray=(acc++(List.replicate k its).flatten).toArray
 | 0,acc=>by simp
 | k+1,acc=>by
  have e:acc.toArray++its.toArray=(acc++its).toArray:=by simp
  have e2:(acc++its)++(List.replicate k its).flatten=acc++(List.replicate (k+1) its).flatten:=by rw[ud,List.flatten_cons,kR]
  rw[<- e2,<- foldl_rep its k (acc++its),<- e,ud,List.foldl_cons]
section
variable {σ:St}{ys zs:List V}
def Inv.Oa{its':List Value}{f:Array Value->Array Value}(I:Inv X u5 σ H s)(hH:H l=some^.lst xs)
  (e:s.heap.get? l=some { cls:=.type "list", data:=.seq its.toArray n })(hf:f its.toArray=its'.toArray)(hv:Vals ys its')(hz:ys.length<=sizeLine):
  Inv X u5 σ (upd H l^.lst ys) { s with heap:=s.heap.update l (Obj.mapSeq f),toks:=t' }:=by have q:=PySem.IsL.update e f;rw[hf] at q;show I.write (x:=l) (e:=l) (by rw[hH];show trivial) (.inl rfl) (λb' u hb hu=>(jf s.heap (Obj.mapSeq f)^bz hb).trans hu) #[_,q] ?_;show#[hz,its',_,hv,q]
def Inv.Wk(I:Inv X u5 σ H s)(hv:Vals ys its)(hz:ys.length<=sizeLine):
  Inv X u5 σ (upd H s.heap.objs.size^.lst ys) { s with heap:=s.heap.push { cls:=.type "list", data:=.seq its.toArray },toks:=t' } :=
 I.laid (λ_ _ q=>dH _ q) (ay _) #[hz,its,0,hv,iX _ rfl]
theorem Inv.fresh(I:Inv X u5 σ H s):H s.heap.objs.size=none:=I.hok.fresh^ay _
def Inv.zW(I:Inv X u5 σ H s)(hH:H l=some^.lst xs):xs.length<=sizeLine/\∃(its:List Value)(n:Nat),Vals xs its/\xs.length=its.length/\s.heap.get? l=some { cls:=.type "list", data:=.seq its.toArray n }:=by let#[z,its,n,r,e]:=I.hok l _ hH;show#[z,its,n,r,r.length,e]
theorem zX(h:n<=sizeLine):Builtin.List.listTooLong n=false:=by unfold Builtin.List.listTooLong;show decide_eq_false ∅
end
def ET:V->List V->Hp->VK->Prop:=λx vs H Q=>∃l xs y,x=.ref l/\vs=[y]/\H l=some^.lst xs/\xs.length<sizeLine/\Q .dD^upd H l^.lst (xs++[y])
theorem d9:Zb X "list.append" ET:=by intro u5 s σ H x vs v us Q I rx rv h;let#[l,xs,y,rfl,rfl,hH,hz,q]:=h;cases rx;let#[u,rfl,ru]:=rv.one;let#[z,its,n,r,hl,e]:=I.zW hH;show call_meets F.slot_list_append #[_,e,rfl] F.entry_list_append (F.args_list_append_2 _ _) (PySem.list_append l its.toArray n u (by rw[aY];lia)) #[e,?_];show#[.dD,_,I.Oa (its':=its++[u]) hH e (by simp) (r.append^.cons ru .nil) ?_,rfl,q];rw[aO,ji];lia
def EU:V->List V->Hp->VK->Prop:=λx vs H Q=>∃l b xs zs,x=.ref l/\vs=[.ref b]/\H l=some^.lst xs/\H b=some^.lst zs/\xs.length+zs.length<=sizeLine/\Q .dD^upd H l^.lst (xs++zs)
theorem kC:Zb X "list.extend" EU:=by
 intro u5 s σ H x vs v us Q I rx rv h;let#[l,b,xs,zs,rfl,rfl,hH,hB,hz,q]:=h;cases rx;let#[u,rfl,ru]:=rv.one;cases ru;let#[z,its,n,r,hl,e]:=I.zW hH;let#[z2,its2,n2,r2,hl2,e2]:=I.zW hB;have hsz:its.toArray.size+its2.toArray.size<=sizeLine:=by rw[aY,aY];lia
 have JX:¬(!its.toArray.isEmpty&&Builtin.List.listTooLong (its.toArray.size+its2.toArray.size))=true:=by rw[zX hsz,Bool.and_false];show kq
 show call_meets F.slot_list_extend #[_,e,rfl] F.entry_list_extend (F.args_list_extend_2 _ _)
  (AutoSeq1.list_extend_list_list_0 l its.toArray n b its2.toArray n2 JX (by rw[aY];lia) ∅) #[e,e2,?_]
 show#[.dD,_,I.Oa (its':=its++its2) hH e (by simp) (r.append r2) ?_,rfl,q];rw[aO];lia
def Wl:V->List V->Hp->VK->Prop:=λx vs H Q=>∃l xs y,x=.ref l/\vs=[]/\H l=some^.lst xs/\xs[xs.length-1]?=some y/\Q y^upd H l^.lst xs.dropLast
theorem JY:Zb X "list.pop" Wl:=by
 intro u5 s σ H x vs v us Q I rx rv h;let#[l,xs,y,rfl,rfl,hH,hy,q]:=h;cases rx;have mF:=rv.zero;subst mF;let#[z,its,n,r,hl,e]:=I.zW hH;let#[u,hu,ru]:=r.get hy;have hy':its.toArray[its.toArray.size-1]?=some u:=by change its.toArray[its.length-1]?=some u;rw[<- gh,<- hl];show hu
 show call_meets F.slot_list_pop #[_,e,rfl] F.entry_list_pop (F.args_list_pop_1 _) (MeetsSeq.list_pop_last l its.toArray n u hy' (by rw[aY];lia)) #[e,?_];show#[y,_,I.Oa (its':=its.dropLast) hH e ?_ r.dropLast ?_,ru,q];change its.toArray.eraseIdxIfInBounds (its.toArray.size-1)=its.dropLast.toArray;rw[aY,List.eraseIdxIfInBounds_toArray,C8];rw[List.length_dropLast];lia
def JZ:V->List V->Hp->VK->Prop:=λx vs H Q=>∃l xs,x=.ref l/\vs=[]/\H l=some^.lst xs/\Q .dD^upd H l^.lst []
theorem J0:Zb X "list.clear" JZ:=by intro u5 s σ H x vs v us Q I rx rv h;let#[l,xs,rfl,rfl,hH,q]:=h;cases rx;have mF:=rv.zero;subst mF;let#[z,its,n,r,hl,e]:=I.zW hH;show call_meets F.slot_list_clear #[_,e,rfl] F.entry_list_clear (F.args_list_clear_1 _) (AutoSeq1.list_clear_list_0 l its.toArray n (by rw[aY];lia)) #[e,?_];show#[.dD,_,I.Oa (its':=[]) (ys:=[]) hH e rfl .nil^aI _,rfl,q]
def Wm:R2:=λx y H Q=>∃l b xs zs,x=.ref l/\y=.ref b/\H l=some^.lst xs/\H b=some^.lst zs/\xs.length+zs.length<=sizeLine/\∀p,H p=none->Q (.ref p)^upd H p^.lst (xs++zs)
theorem yt:j7 X (binaryOp .Add) Wm:=by
 intro u5 s σ H x y v u Q I rx ry h;let#[l,b,xs,zs,rfl,rfl,hH,hB,hz,q]:=h;cases rx;cases ry;let#[z,its,n,r,hl,e]:=I.zW hH;let#[z2,its2,n2,r2,hl2,e2]:=I.zW hB;show PySem.P.add_list e e2 ?_ (by rw[aY,aY];lia);have ea:its.toArray++its2.toArray=(its++its2).toArray:=by simp
 rw[ea];show#[.ref _,_,I.Wk (t':=s.toks) (r.append r2) (by rw[aO];lia),rfl,q _ I.fresh]
def Wn:R2:=λx y H Q=>∃l k xs,x=.ref l/\y=.int k/\H l=some (.lst xs) /\ -(2 ^ 63)<=k/\k<2 ^ 63/\xs.length*k.toNat<=sizeLine /\
 ∀p,H p=none->Q (.ref p)^upd H p^.lst (List.replicate k.toNat xs).flatten
def len_rep{α:Type}(xs:List α)(k:Nat):(List.replicate k xs).flatten.length=k*xs.length:=by
 induction k with
 | zero=>simp
 | succ k ih=>rw[ud,List.flatten_cons,aO,ih,Nat.succ_mul,Nat.add_comm]
theorem C9:j7 X (binaryOp .Mult) Wn:=by
 intro u5 s σ H x y v u Q I rx ry h;let#[l,k,xs,rfl,rfl,hH,h1,h2,hz,q]:=h;cases rx;let#[t,rfl]:=ry;let#[z,its,n,r,hl,e]:=I.zW hH;have hlen:its.toArray.size*k.toNat<=sizeLine:=by rw[aY,<- hl];show hz
 have hcap:¬its.toArray.size*k.toNat>(2 ^ 63-1) / 8:=by
  have:(sizeLine:Nat)<=(2 ^ 63-1) / 8:=by decide
  lia
 have hfit:¬(!Builtin.List.listFitsIndex k)=true:=by rw[fitsIndex_both h1 h2];show kq
 have JX:¬Builtin.List.listTooLong (its.toArray.size*k.toNat)=true:=by rw[zX hlen];show kq
 have hnew:List.foldl (λx1 x2=>x1++x2) #[]^List.replicate (if its.toArray.isEmpty=true then 0 else k.toNat) its.toArray=(List.replicate k.toNat its).flatten.toArray:=by
  have f0:∀m:Nat,List.foldl (λx1 x2=>x1++x2) #[]^List.replicate m its.toArray=(List.replicate m its).flatten.toArray:=λm=>by have:=foldl_rep its m [];rw[List.nil_append] at this;show this
  rw[f0];cases its with
  | nil=>simp
  | cons a r'=>rw[if_neg^by simp]
 show wpAny_binaryOp_repeat_ref (T := "list") (U := "int") (by decide) #[_,e,rfl] (λs'=>typeIs_int s' k t) noFill_list_mul F.fills_int_mul F.slot_int_rmul repeat_list F.slot_int_index.lookup
  (call_meets F.slot_int_rmul (typeIs_int s k t) F.entry_int_rmul (F.args_int_rmul_2 _ _) (int___rmul___int_list k t l its.toArray n)
   #[e,rfl,#[_,e,rfl],call_meets F.slot_list_mul #[_,e,rfl] F.entry_list_mul (F.args_list_mul_2 _ _) (AutoListH.list___mul___list_int_3 l its.toArray n k t hfit hcap JX) #[e,?_]])
 rw[hnew];show#[.ref _,_,I.Wk (t':=s.toks) (r.rep k.toNat) (by rw[len_rep,Nat.mul_comm];show hz),rfl,q _ I.fresh]
section
variable {κ:Type} [DecidableEq κ]
noncomputable def fQ(kvs:List (κ×V))(k:κ):Option V:=(kvs.find? λkv=>decide (kv.1=k)).map (·.2)
noncomputable def putK(kvs:List (κ×V))(k:κ)(v:V):List (κ×V) :=
 if(kvs.any λkv=>decide (kv.1=k))=true then kvs.map (λkv=>if kv.1=k then(kv.1,v) else kv) else kvs++[(k,v)]
def fR{p:κ×V}{r:List (κ×V)}{k:κ}(e:p.1=k):fQ (p::r) k=some p.2:=by simp[fQ,iK,e]
def fS{p:κ×V}{r:List (κ×V)}{k:κ}(e:¬p.1=k):fQ (p::r) k=fQ r k:=by simp[fQ,iK,e]
theorem kD(k:κ):∀kvs:List (κ×V),(kvs.any λkv=>decide (kv.1=k))=(fQ kvs k).isSome
 | []=>rfl
 | p::r=>by rw[jB];by_cases e:p.1=k;erw[fR e,decide_eq_true e,Bool.true_or,Option.isSome_some];rw[fS e,decide_eq_false e,Bool.false_or];show kD k r
theorem zY(k j:κ)(y:V):∀kvs:List (κ×V),fQ (kvs.map λkv=>if kv.1=k then(kv.1,y) else kv) j=(fQ kvs j).map λx=>if j=k then y else x
 | []=>rfl
 | p::r=>by have ih:=zY k j y r;rw[cG];by_cases h:p.1=k;rw[if_pos h];by_cases e:p.1=j;rw[fR (p:=(p.1,y)) e,fR e,Option.map_some,if_pos^e.symm.trans h];rw[fS (p:=(p.1,y)) e,fS e,ih];rw[if_neg h];by_cases e:p.1=j;rw[fR (p:=p) e,fR e,Option.map_some,if_neg (λz=>h^e.trans z)];rw[fS (p:=p) e,fS e,ih]
theorem wR(k j:κ)(y:V):∀kvs:List (κ×V),fQ kvs k=none->fQ (kvs++[(k,y)]) j=if j=k then some y else fQ kvs j
 | [],_=>by
  by_cases e:k=j;rw[if_pos e.symm];show fR (p:=(k,y)) e;rw[if_neg (λz=>e z.symm)];show fS (p:=(k,y)) e
 | p::r,hn=>by
  rw[List.cons_append];have hk:¬p.1=k:=λz=>by rw[fR z] at hn;cases hn
  rw[fS hk] at hn;have ih:=wR k j y r hn;by_cases e:p.1=j;rw[fR e,fR e,if_neg (λz=>hk^e.trans z)];rw[fS e,fS e,ih]
def zZ(kvs:List (κ×V))(k j:κ)(y:V):fQ (putK kvs k y) j=if j=k then some y else fQ kvs j:=by
 unfold putK;by_cases a:(kvs.any λkv=>decide (kv.1=k))=true
 .rw[if_pos a,zY];rw[kD] at a;by_cases e:j=k;let#[x,hx]:=Option.isSome_iff_exists.mp a;rw[if_pos e,e,hx,Option.map_some,if_pos rfl]
  .rw[if_neg e];cases fQ kvs j with
   | none=>rfl
   | some x=>rw[Option.map_some,if_neg e]
 .rw[if_neg a];show wR k j y kvs ?_;rw[kD] at a;cases q:fQ kvs k with
  | none=>rfl
  | some x=>rw[q] at a;show(a rfl).elim
theorem mG(kvs:List (κ×V))(k:κ)(v:V):(putK kvs k v).length<=kvs.length+1:=by unfold putK;split;rw[aq];lia;rw[aO,cW,oA];lia
def nS.jx{u:Option Value}(r:nS o u):o.isSome=u.isSome:=by
 cases o with
 | none=>cases u with
  | none=>rfl
  | some _=>show(show False from r).elim
 | some _=>cases u with
  | none=>show(show False from r).elim
  | some _=>rfl
theorem nS.getD{u:Option Value}{d:V}{d':Value}(r:nS o u)(rd:RelV d d'):RelV (o.getD d)^u.getD d':=by
 cases o with
 | none=>cases u with
  | none=>show rd
  | some _=>show(show False from r).elim
 | some _=>cases u with
  | none=>show(show False from r).elim
  | some _=>show r
def KV.val{kvs:List (κ×V)}{vs:List (κ×Value)}(r:KV kvs vs)(k:κ):nS (fQ kvs k)^valueAt vs k:=by
 unfold KV at r;induction r with
 | nil=>show g9
 | @cons p q ps qs h t ih =>
  let#[h1,h2]:=h;by_cases e:p.1=k
  .have e':q.1=k:=h1.symm.trans e;have b:valueAt (q::qs) k=some q.2:=by simp[valueAt,iK,e']
   rw[fR e,b];show h2
  .have e':¬q.1=k:=λz=>e^h1.trans z;have b:valueAt (q::qs) k=valueAt qs k:=by simp[valueAt,iK,e']
   rw[fS e,b];show ih
theorem KV.any{kvs:List (κ×V)}{vs:List (κ×Value)}(r:KV kvs vs)(k:κ):(kvs.any λkv=>decide (kv.1=k))=vs.any λkv=>decide (kv.1=k):=by
 unfold KV at r;induction r with
 | nil=>rfl
 | cons h t ih=>rw[jB,jB,ih,h.1]
def KV.repl{kvs:List (κ×V)}{vs:List (κ×Value)}(r:KV kvs vs)(k:κ)(ry:RelV y u):
  KV (kvs.map λkv=>if kv.1=k then(kv.1,y) else kv) (vs.map λkv=>if kv.1=k then(kv.1,u) else kv):=by
 unfold KV at r ⊢;induction r with
 | nil=>show .nil
 | @cons p q ps qs h t ih =>
  rw[cG,cG];show .cons ?_ ih;let#[h1,h2]:=h;by_cases e:p.1=k;rw[if_pos e,if_pos^h1.symm.trans e];show#[h1,ry];rw[if_neg e,if_neg (λz=>e^h1.trans z)];show#[h1,h2]
def KV.put{kvs:List (κ×V)}{vs:List (κ×Value)}(r:KV kvs vs)(k:κ)(ry:RelV y u):KV (putK kvs k y)^stored vs k u:=by unfold putK stored;rw[r.any k];by_cases e:(vs.any λkv=>decide (kv.1=k))=true;rw[if_pos e,if_pos e];show r.repl k ry;rw[if_neg e,if_neg e];show cF r #[rfl,ry]
theorem KV.length{kvs:List (κ×V)}{vs:List (κ×Value)}(r:KV kvs vs):kvs.length=vs.length:=jV r
end
def rR{k:Key}(r:RelV (kV k) u):(ck P w).is k u=true:=by
 cases k with
 | inl i=>let#[t,e]:=(show ∃t,u=Value.int i t from r);subst e;show zP P w i t
 | inr x=>let#[t,e]:=(show ∃t,u=Value.str x t from r);subst e;show mq P w x t
theorem wU{P:Program}{w:World}:∀{ks:List Key}{us:List Value},Vals (ks.map kV) us->ItemsAre (ck P w) ks us
 | [],_,r=>by rw[List.map_nil] at r;cases r;show .nil
 | k::ks,_,r=>by
  rw[cG] at r;cases r with
  | cons h t=>show .cons (rR h)^wU t
abbrev KT(H:Hp):List (List Key×V)->List (List Key×Addr×Value)->Prop:=Paired λp q=>p.1=q.1/\H q.2.1=some^.tup^p.1.map kV/\RelV p.2 q.2.2
def KT.val{xs:List (List Key×Addr×Value)}(r:KT H kvs xs)(k:List Key):nS (fQ kvs k)^(atKey xs k).map (·.2):=by
 induction r with
 | nil=>show g9
 | @cons p q ps qs h t ih =>
  let#[h1,_,h2]:=h;by_cases e:p.1=k
  .have e':q.1=k:=h1.symm.trans e;have b:atKey (q::qs) k=some q.2:=by simp[atKey,iK,e']
   rw[fR e,b];show h2
  .have e':¬q.1=k:=λz=>e^h1.trans z;have b:atKey (q::qs) k=atKey qs k:=by simp[atKey,iK,e']
   rw[fS e,b];show ih
def KT.repl{xs:List (List Key×Addr×Value)}(r:KT H kvs xs)(k:List Key)(ry:RelV y u):
  KT H (kvs.map λkv=>if kv.1=k then(kv.1,y) else kv)^xs.map^putAt k u:=by
 induction r with
 | nil=>show .nil
 | @cons p q ps qs h t ih =>
  rw[cG,cG];show .cons ?_ ih;let#[h1,h2,h3]:=h;unfold putAt;by_cases e:p.1=k;rw[if_pos e,if_pos^h1.symm.trans e];show#[h1,h2,ry];rw[if_neg e,if_neg (λz=>e^h1.trans z)];show#[h1,h2,h3]
def KT.put{xs:List (List Key×Addr×Value)}(r:KT H kvs xs)(k:List Key)(hb:H b=some^.tup^k.map kV)(ry:RelV y u):
  KT H (putK kvs k y)^storedH xs k b u:=by
 have e:(kvs.any λkv=>decide (kv.1=k))=(atKey xs k).isSome:=by rw[kD,(r.val k).jx,Option.isSome_map]
 unfold putK storedH;rw[e];by_cases q:(atKey xs k).isSome=true;rw[if_pos q,if_pos q];show r.repl k ry;rw[if_neg q,if_neg q];show cF r #[rfl,hb,ry]
def KT.keeps{xs:List (List Key×Addr×Value)}(r:KT H kvs xs)(ht:∀b ys,H b=some^.tup ys->H' b=some^.tup ys):KT H' kvs xs :=
 Paired.GP r λ_ _ z=>#[z.1,ht _ _ z.2.1,z.2.2]
def QT{u:HO}(ok:lX P w H h)(e:Rd H a u):dg P w H h a u:=e.ok ok
def uu{kvs:List (Key×V)}(ok:lX P w H h)(e:Rd H a^.dK kvs):kvs.length<=sizeLine/\(a==sysModules)=false/\∃vs,KV kvs vs/\h.DictOf (ck P w) a vs :=
 show dg P w H h a^.dK kvs from QT ok e
def Wo{kvs:List (Key×V)}(ok:lX P w H h)(e:H a=some^.dK kvs):kvs.length<=sizeLine/\(a==sysModules)=false/\∃vs,KV kvs vs/\h.DictOf (ck P w) a vs:=uu ok^.inl e
def qV{ks:List Key}(ok:lX P w H h)(e:H a=some^.tup^ks.map kV):(tupleKind^ck P w).is h ks a:=by let#[_,its,r,o,h1,h2,n,h3]:=(show dg P w H h a^.tup^ks.map kV from ok a _ e);show#[o,its.toArray,n,h1,h2,h3,by simpa using wU r]
def uv(ok:lX P w H h)(e:Rd H a^.dT kvs):kvs.length<=sizeLine/\(a==sysModules)=false /\
  ∃xs,KT H kvs xs/\h.DictOfH (tupleKind^ck P w) a xs:=by
 let#[z,y,xs,r,o,es,ep,h1,h2,h3,h4,h5]:=(show dg P w H h a^.dT kvs from QT ok e);show#[z,y,xs,r,o,es,ep,h1,h2,h3,h4,λx hx=>?_,h5];have all:∀{l:List (List Key×V)}{m:List (List Key×Addr×Value)},KT H l m->∀x∈m,(tupleKind^ck P w).is h x.1 x.2.1:=by
  intro l m q;induction q with
  | nil=>intro x hx;show nomatch hx
  | @cons p q ps qs hq t ih =>
   intro x hx;rcases aH.mp hx with e|hx
   .subst e;show qV ok (by rw[<- hq.1];show hq.2.1)
   .show ih x hx
 show all r x hx
def Wq(ok:lX P w H h)(e:H a=some^.dT kvs):kvs.length<=sizeLine/\(a==sysModules)=false /\
  ∃xs,KT H kvs xs/\h.DictOfH (tupleKind^ck P w) a xs:=uv ok^.inl e
def pG(H:Hp)(a:Addr)(y:V)(r:Option V):Prop :=
 (∃kvs k,Rd H a^.dK kvs/\y=kV k/\r=fQ kvs k)\/∃kvs k b,Rd H a^.dT kvs/\y=.ref b/\H b=some^.tup^k.map kV/\r=fQ kvs k
def G1(H:Hp)(a:Addr)(y v:V)(H':Hp):Prop :=
 (∃kvs k,H a=some^.dK kvs/\y=kV k/\kvs.length<sizeLine/\H'=upd H a^.dK^putK kvs k v) \/
 ∃kvs k b,H a=some^.dT kvs/\y=.ref b/\H b=some^.tup^k.map kV/\kvs.length<sizeLine/\H'=upd H a^.dT^putK kvs k v
def G1.t{k:List Key}(e:H a=some^.dT kvs)(eb:H b=some^.tup^k.map kV)(hl:kvs.length<sizeLine):
  G1 H a (.ref b) v^upd H a^.dT^putK kvs k v:=.inr #[kvs,k,b,e,rfl,eb,hl,rfl]
section
variable {σ:St}{o:Option V}
def Inv.big(I:Inv X u5 σ H s):sysModules<s.heap.objs.size:=by have h:mainGlobals<s.heap.objs.size:=(I.mod.glob.keeps I.bk).lt;show Nat.lt_trans (by decide) h
def G2(hu:A.units+1<cLine)(I:Inv X u5 σ H s)(g:pG H a y^some v)(ry:RelV y u)(h:∀w' s',Inv X u5 σ H s'->RelV v w'->Q w' s'):
  wpAny (model X.prog X.w) A (getItem (.ref a) u) Q E s:=by rcases g with⟨kvs,k,e,ey,l⟩|⟨kvs,k,b,e,ey,eb,l⟩;subst ey;let#[z,hd,vs,rel,dd]:=uu I.hok e;let#[w',hw,rw']:=nS.some_of (v:=v) (o:=valueAt vs k) (by rw[l];show rel.val k);show wpAny_getItem_of (rR ry) dd.mapOf hw^h w' _ (I.tok _) rw';subst ey;cases(show u=Value.ref b from ry);let#[z,hd,xs,rel,dd]:=uv I.hok e;let#[w',hw,rw']:=nS.some_of (v:=v) (o:=(atKey xs k).map (·.2)) (by rw[l];show rel.val k);let#[p,hp,hp2]:=cE.mp hw;show wpAny_getItem_heap (tupleKind_room_in1 hu) (qV I.hok eb) dd hp ?_;rw[hp2];show h w' _ (I.tok _) rw'
def aaL(hu:A.units+1<cLine)(I:Inv X u5 σ H s)(g:pG H a y o)(ry:RelV y u)(h:∀s',Inv X u5 σ H s'->Q (.bool o.isSome) s'):
  wpAny (model X.prog X.w) A (compareOp .In u^.ref a) Q E s:=by rcases g with⟨kvs,k,e,ey,l⟩|⟨kvs,k,b,e,ey,eb,l⟩;subst ey;let#[z,hd,vs,rel,dd]:=uu I.hok e;show wpAny_in_of (rR ry) hd dd.mapOf ?_;rw[<- (rel.val k).jx,<- l];show h _^I.tok _;subst ey;cases(show u=Value.ref b from ry);let#[z,hd,xs,rel,dd]:=uv I.hok e;show wpAny_in_heap (tupleKind_room_in1 hu) (qV I.hok eb) hd dd ?_;have q:=(rel.val k).jx;rw[Option.isSome_map] at q;rw[<- q,<- l];show h _^I.tok _
def Ob(hu:A.units+1<cLine)(I:Inv X u5 σ H s)(g:pG H a y o)(ry:RelV y u)(h:∀s',Inv X u5 σ H s'->Q (.bool (!o.isSome)) s'):
  wpAny (model X.prog X.w) A (compareOp .NotIn u^.ref a) Q E s:=by rcases g with⟨kvs,k,e,ey,l⟩|⟨kvs,k,b,e,ey,eb,l⟩;subst ey;let#[z,hd,vs,rel,dd]:=uu I.hok e;show wpAny_notIn_of (rR ry) hd dd.mapOf ?_;rw[<- (rel.val k).jx,<- l];show h _^I.tok _;subst ey;cases(show u=Value.ref b from ry);let#[z,hd,xs,rel,dd]:=uv I.hok e;show wpAny_notIn_heap (tupleKind_room_in1 hu) (qV I.hok eb) hd dd ?_;have q:=(rel.val k).jx;rw[Option.isSome_map] at q;rw[<- q,<- l];show h _^I.tok _
def yv{ob:HO}(I:Inv X u5 σ H s)(mu:VN^H a)(hs:Heap.SameBut a s.heap h')(he:∃q,h'.get? a=some q)(new:dg X.prog X.w (upd H a ob) h' a ob):
  Inv X u5 σ (upd H a ob) { s with heap:=h',toks:=t' } :=
 I.write (x:=a) (e:=a) mu (.inl rfl) (λb q hb z=>(hs.2 b hb).trans z) he new
def SS{kvs:List (Key×V)}{vs:List (Key×Value)}(z:kvs.length<=sizeLine)(hd:(a==sysModules)=false)(rel:KV kvs vs)(dd:h'.DictOf (ck P w) a vs):
  dg P w H' h' a^.dK kvs:=#[z,hd,vs,rel,dd]
theorem G3{Q:Unit->Shared->Prop}(hu:A.units+1<cLine)(I:Inv X u5 σ H s)(g:G1 H a y v H')(ry:RelV y u)(rv:RelV v r)(h:∀s',Inv X u5 σ H' s'->Q () s'):
  wpAny (model X.prog X.w) A (setItem (.ref a) u r) Q E s:=by
 rcases g with⟨kvs,k,e,ey,l,eH⟩|⟨kvs,k,b,e,ey,eb,l,eH⟩
 .subst ey eH;let#[z,hd,vs,rel,dd]:=Wo I.hok e;have hz:vs.length<=sizeLine:=by rw[<- rel.length];show z
  have hl:(putK kvs k v).length<=sizeLine:=by have:=mG kvs k v;lia
  show wpAny_setItem_pairs (hsz:=hz) (rR ry) dd λh' VB hs=>h _ ?_;have he:∃q,h'.get? a=some q:=let⟨q,_,_,hq,_⟩:=VB;#[q,hq];show yv I (by rw[e];show g9) hs he^SS hl hd (rel.put k rv) VB
 .subst ey eH;cases(show u=Value.ref b from ry);let#[z,hd,xs,rel,dd]:=Wq I.hok e;have hz:xs.length<=sizeLine:=by rw[<- jV rel];show z
  have hl:(putK kvs k v).length<=sizeLine:=by have:=mG kvs k v;lia
  show wpAny_setItem_heap (hsz:=hz) (tupleKind_room_in1 hu) (qV I.hok eb) dd λh' VB hs=>h _ ?_;let#[q,es,ep,hq,h2,h3,h4,_,h5]:=VB;show yv I (by rw[e];show g9) hs #[q,hq] #[hl,hd,_,(rel.put k eb rv).keeps λc ys ec=>?_,q,es,ep,hq,h2,h3,h4,h5];rw[bH^uf ec e (λz=>nomatch z)];show ec
end
section
variable {σ:St}{kvs:List (Key×V)}{k:Key}
end
def J3(i:Expr):Prop:=∀ov iv,subscripted i false ov iv=operate [ov,iv]^getItem ov iv
def yw{env:Env}{slice:Expr}{id:String}
  (hl:typeLookup (.type T) "__getitem__" = pure^some^.builtin id)(hs:J3 slice)
  (h:wpAny (model prog w) A (eval value env) (λo s₁=>wpAny (model prog w) A (eval slice env) (λi s₂=>s₂.TypeIs o T/\wpAny (model prog w) A (getItem o i) Q E s₂) E s₁) E s):
  wpAny (model prog w) A (eval (.Subscript value slice pos) env) Q E s:=by
 show Subscript_ (wpAny_mono h (λo s₁ h₁=>wpAny_mono h₁ (λi s₂ h₂=>?_) λ_ _ x=>x) λ_ _ x=>x);let#[hT,h₂]:=h₂;unfold subscriptTail;show au ?_;rw[getitemInPython_of_ne hT.not_modules];show au^wpAny_specialOf hT hl ?_;have fin:wpAny (model prog w) A (subscripted slice false o i) (λr s₃=>wpAny (model prog w) A (letTemporaryGo value o r >>= λ_=>pure r) Q E s₃) E s₂:=by rw[hs o i];show wpAny_operating (wpAny_mono h₂ (λr s₃ h₃=>au^wpAny_letTemporaryGo^aN h₃) λ_ _ x=>x)
 first
  | show aN^au fin
  | show au^aN^au fin
  | show au fin
def z6{σ:St}(I:Inv X u5 σ H s)(g:pG H a y o):s.TypeIs (.ref a) "dict" := by rcases g with⟨kvs,k,e,_,_⟩|⟨kvs,k,b,e,_,_,_⟩;let#[_,_,vs,_,dd]:=uu I.hok e;show dd.typeIs;let#[_,_,xs,_,dd]:=uv I.hok e;show dd.typeIs
def QU(td ty:TE):TE:=λσ H Q=>td σ H λx H1=>ty σ H1 λy H2=>∃a v,x=.ref a/\pG H2 a y^some v/\Q v H2
def Wr(ty td:TE):TE:=λσ H Q=>ty σ H λy H1=>td σ H1 λx H2=>∃a o,x=.ref a/\pG H2 a y o/\Q (.bl o.isSome) H2
def EV(ty td:TE):TE:=λσ H Q=>ty σ H λy H1=>td σ H1 λx H2=>∃a o,x=.ref a/\pG H2 a y o/\Q (.bl (!o.isSome)) H2
def QV(td ty tv:TE):TS:=λD σ H=>tv σ H λv H1=>td σ H1 λx H2=>ty σ H2 λy H3=>∃a H4,x=.ref a/\G1 H3 a y v H4/\D.nx σ H4
section
variable {o i:Expr}{ty:TE}
def Oc(hu:X.A.units+1<cLine)(ho:PE X o td)(hi:PE X i ty)(hs:J3 i):PE X (.Subscript o i pos)^QU td ty:=by intro u5 s σ H Q I h;show yw PySem.F.slot_dict_getitem.lookup hs (c7 (ho u5 s σ H _ I h) λu s1 zq=>?_);let#[x,H1,I1,rx,q1]:=zq;show c7 (hi u5 s1 σ H1 _ I1 q1) λiv s2 zq=>?_;let#[y,H2,I2,ry,a,v,ex,g,q2]:=zq;subst ex;obtain rfl:u=Value.ref a:=rx;show#[z6 I2 g,G2 hu I2 g ry λw' s3 I3 rw'=>#[v,H2,I3,rw',q2]]
def J4(hu:X.A.units+1<cLine)(hi:PE X i ty)(ho:PE X o td):PC X .In i o^Wr ty td:=by intro u5 s σ H Q I h;show c7 (hi u5 s σ H _ I h) λiv s1 zq=>?_;let#[y,H1,I1,ry,q1]:=zq;show c7 (ho u5 s1 σ H1 _ I1 q1) λu s2 zq=>?_;let#[x,H2,I2,rx,a,ov,ex,g,q2]:=zq;subst ex;obtain rfl:u=Value.ref a:=rx;show aaL hu I2 g ry λs3 I3=>#[.bl ov.isSome,H2,I3,rfl,q2]
def G4(hu:X.A.units+1<cLine)(hi:PE X i ty)(ho:PE X o td):PC X .NotIn i o^EV ty td:=by intro u5 s σ H Q I h;show c7 (hi u5 s σ H _ I h) λiv s1 zq=>?_;let#[y,H1,I1,ry,q1]:=zq;show c7 (ho u5 s1 σ H1 _ I1 q1) λu s2 zq=>?_;let#[x,H2,I2,rx,a,ov,ex,g,q2]:=zq;subst ex;obtain rfl:u=Value.ref a:=rx;show Ob hu I2 g ry λs3 I3=>#[.bl (!ov.isSome),H2,I3,rfl,q2]
def EW(hu:X.A.units+1<cLine)(ho:PE X o td)(hi:PE X i ty)(hv:PE X value tv)(hs:swapsWith value (some^.Subscript o i pos') pos.line X.env=pure false):
  PS X (.Assign [.Subscript o i pos'] value pos)^QV td ty tv:=by intro u5 s σ H D I h;show wpAny_Assign_Subscript (c7 (hv u5 s σ H _ I h) λr s1 zq=>?_) hs;let#[v,H1,I1,rv,q1]:=zq;show c7 (ho u5 s1 σ H1 _ I1 q1) λu s2 zq=>?_;let#[x,H2,I2,rx,q2]:=zq;show c7 (hi u5 s2 σ H2 _ I2 q2) λiv s3 zq=>?_;let#[y,H3,I3,ry,a,H4,ex,g,q3]:=zq;subst ex;obtain rfl:u=Value.ref a:=rx;show G3 hu I3 g ry rv λs4 I4=>#[σ,H4,I4,q3]
end
def J5(h:Heap)(hb:sysModules<h.objs.size):dg P w H (h.push { cls:=.type "dict", data:=.dict #[] }) h.objs.size (.dK []) :=
 #[aI _,beq_eq_false_iff_ne.mpr^bz^aT hb,[],.nil,Heap.DictOf.new h]
def J6(h:Heap)(hb:sysModules<h.objs.size):dg P w H (h.push { cls:=.type "dict", data:=.dict #[] }) h.objs.size (.dT []) :=
 #[aI _,beq_eq_false_iff_ne.mpr^bz^aT hb,[],.nil,_,#[],0,iX _ rfl,#[rfl,rfl,rfl],rfl,rfl,kW]
def J7:TE:=λ_ H Q=>∀p,H p=none->Q (.ref p)^upd H p^.dK []
def J8:TE:=λ_ H Q=>∀p,H p=none->Q (.ref p)^upd H p^.dT []
def J9:PE X (.Dict [] [] pos) J7:=λu5 s σ H Q I h =>
 wpAny_Dict_empty #[.ref s.heap.objs.size,_,I.laid (a:=s.heap.objs.size) (o:=.dK []) (t':=s.toks) (λ_ _ q=>dH _ q) (ay _)^J5 s.heap I.big,rfl,h _^I.hok.fresh^ay _]
def Ka:PE X (.Dict [] [] pos) J8:=λu5 s σ H Q I h =>
 wpAny_Dict_empty #[.ref s.heap.objs.size,_,I.laid (a:=s.heap.objs.size) (o:=.dT []) (t':=s.toks) (λ_ _ q=>dH _ q) (ay _)^J6 s.heap I.big,rfl,h _^I.hok.fresh^ay _]
structure M2 (X:Cx) (o:Expr) (m:Str) (apos:Pos) (e f:Expr) (cpos:Pos):Prop where
 base:attributeBase o m X.env^eval o X.env=eval o X.env
 few:((backTo cpos^starEach [e,f] X.env).all (λx=>!x.1)&&(backToKw cpos^keywordEach [] X.env).all (λx=>x.1.isSome)
  && decide (([e,f]:List Expr).length+([]:List Keyword).length+(if([]:List Keyword).isEmpty then 0 else 1)<30))=true
 line:(apos.endLine==cpos.line)=true
 trees:backTo cpos^starEach [e,f] X.env=[(false,eval e X.env),(false,eval f X.env)]
def IsD(H:Hp)(a:Addr):Prop:=(∃kvs,Rd H a^.dK kvs)\/∃kvs,Rd H a^.dT kvs
def SV{σ:St}(I:Inv X u5 σ H s)(d:IsD H a):
  s.TypeIs (.ref a) "dict" /\ (∀b,Value.ref a=.ref b->∃ob,s.heap.get? b=some ob/\ob.dict=none)/\(a==sysModules)=false:=by rcases d with⟨kvs,e⟩|⟨kvs,e⟩;let#[_,hd,vs,_,dd]:=uu I.hok e;show#[dd.typeIs,λb q=>?_,hd];cases q;let#[ob,_,_,h1,h2,_]:=dd;show#[ob,h1,h2.2.1];let#[_,hd,xs,_,dd]:=uv I.hok e;show#[dd.typeIs,λb q=>?_,hd];cases q;let#[ob,_,_,h1,h2,_]:=dd;show#[ob,h1,h2.2.1]
section
variable {σ:St}{d:V}{o:Option V}
def SW(hu:A.units+1<cLine)(I:Inv X u5 σ H s)(g:pG H a y o)(ry:RelV y u)(rd:RelV d r)(h:∀w' s',Inv X u5 σ H s'->RelV (o.getD d) w'->Q w' s'):
  wpAny (model X.prog X.w) A (call (.builtin "dict.get") [.ref a,u,r]) Q E s:=by rcases g with⟨kvs,k,e,ey,l⟩|⟨kvs,k,b,e,ey,eb,l⟩;subst ey;let#[z,hd,vs,rel,dd]:=uu I.hok e;show call_meetsIn o4 dd.typeIs PySem.F.entry_dict_get (PySem.F.args_dict_get_3 _ _ _) (meets_dict_get_default (ck X.prog X.w) a (rR ry) hd r) #[_,dd.mapOf,h _ _ (I.tok _) ?_];rw[l];show(rel.val k).getD rd;subst ey;cases(show u=Value.ref b from ry);let#[z,hd,xs,rel,dd]:=uv I.hok e;show call_meetsIn o4 dd.typeIs PySem.F.entry_dict_get (PySem.F.args_dict_get_3 _ _ _) (meetsH_dict_get_default (tupleKind^ck X.prog X.w) a b hd r) #[tupleKind_room_in1 hu,k,xs,qV I.hok eb,dd,h _ _ (I.tok _) ?_];rw[l];show(rel.val k).getD rd
end
def Kc(td ty tx:TE):TE:=λσ H Q=>td σ H λx H1=>∃a,x=.ref a/\IsD H1 a/\ty σ H1 λy H2=>tx σ H2 λz H3=>∃o,pG H3 a y o/\Q (o.getD z) H3
section
variable {o f:Expr}{ty:TE}
def Kd(hu:X.A.units+1<cLine)(ho:PE X o td)(he:PE X e ty)(hf:PE X f tx)(m:M2 X o "get" apos e f cpos):PE X (.Call (.Attribute o "get" apos) [e,f] [] cpos)^Kc td ty tx:=by
 intro u5 s σ H Q I h;show wpAny_Call_method m.base m.few m.line PySem.F.plainAttrs_dict o4 PySem.F.type_dict_get (c7 (ho u5 s σ H _ I h) λu s1 zq=>?_);let#[x,H1,I1,rx,a,ex,d,q1]:=zq;subst ex;obtain rfl:u=Value.ref a:=rx;let#[t1,t2,_]:=SV I1 d;show#[t1,t2,?_];rw[m.trees];show tV rfl (Calls.evalArgs_plain (qF (c7 (he u5 s1 σ H1 _ I1 q1) λiv s2 ⟨y,H2,I2,ry,q2⟩ =>
  qF (c7 (hf u5 s2 σ H2 _ I2 q2) λfv s3 ⟨z,H3,I3,rz,ov,g,q3⟩=>Calls.spliced_nil ?_))))
 show SW hu I3 g ry rz λw' s4 I4 rw'=>#[_,H3,I4,rw',q3]
end
section
variable {σ:St}{kvs:List (Key×V)}
end
section
variable {σ:St}
end
end L2
namespace Att
open PySem PySem.W PySem.Calls PyProof.Rows
def sE{P:Params}:∀(ns:List Int)(vs:List Value),WellAll P h vs^ns.map WData.int->IntsAre vs ns:=by
 intro ns;induction ns with
 | nil =>
  intro vs w;rw[List.map_nil] at w;cases w;show .nil
 | cons n ns ih =>
  intro vs w;rw[cG] at w;cases w with
  | cons a b =>
   cases a;show .cons _ _^ih _ b
theorem G5{l:OpenLaw}(hn:l.most=some n){P:Params}{args:List WData}{vals:List Value}
  (hpre:l.row.toRowW.claim.pre args=true)(hwl:WellAll P h vals args):
  ∃a vs ns,vals=[Value.ref a]/\args=[WData.list^ns.map WData.int]/\h.get? a=some { cls:=.type "list", data:=.seq vs.toArray }/\IntsAre vs ns/\ns.length<=n:=by
 have hsh:WShape.hasAll [] args [.list .int]=true:=(pre_splitW hpre).1;have hc:l.pre.holds [] { args:=args }=true:=(pre_splitW hpre).2;let#[d,r,rfl,h1,h2]:=hasAllW_cons hsh;obtain rfl:=hasAllW_nil h2;let#[xs,rfl,h3]:=hasW_list h1;let#[ns,rfl]:=items_int h3;have hlen:ns.length<=n:=by
  unfold OpenLaw.pre at hc;have h4:(WTm.not^.lt (.lit^.int (n:Int))^.len^.arg 0).holds [] { args:=[.list^ns.map .int] }=true:=by have h4:=(holds_andW hc).1;rw[hn] at h4;show h4
  have h5:=condW_of h4^w_not^w_lt w_lit^w_len_list^w_arg rfl;rw[aq] at h5;show Nat.le_of_not_lt λq=>?_;have q':(n:Int)<((ns.length:Nat):Int):=∅
  first
   | (rw[decide_eq_true q'] at h5;show absurd h5^by decide)
   | (simp at h5;lia)
 cases hwl with
 | cons w1 w2 =>
  cases w2;cases w1 with
  | list ho hall=>show#[_,_,ns,rfl,rfl,ho,sE ns _ hall,hlen]
def G6(l:OpenLaw)(args:List WData):l.row.toRowW.claim.post args (.bool true) args=true :=
 postW_of (r:=l.row.toRowW) (X:=(true==true))
  (show WShape.has [] (.bool true) .bool=true by first|rfl|decide|simp[WShape.has,WShape.arms,WShape.armsAll])
  (show(WTm.eq .res^.lit^.bool true).value [] { args:=args,res:=some^.bool true,after:=args }=some^.bool (true==true) from w_eq_bool (w_res rfl) w_lit) rfl
def rS{l:OpenLaw}{q:Program}{loose:List Str}{XP:(Str->Option Value)->Heap->Prop}{YP:World->Heap->Prop}{d:DefRec}
  (hn:l.most=some n)(hdf:d.params.defaults=[])
  (call:∀(w:World)(s₀ s₁:Shared)(mg mb:Str->Option Value)(fa:Addr)(o:Obj)(pm cd doc:Value)(a:Addr)(vs:List Value)(ns:List Int),
   Ground q loose [] XP w s₀ mg mb s₁.heap->YP w s₁.heap ->
   s₁.heap.get? fa=some o->o.data=.func^docDef d.name d.params d.body d.scope pm cd doc->s₁.heap.CodeRec cd d.name->mg d.name=some (.ref fa) ->
   s₁.heap.get? a=some { cls:=.type "list", data:=.seq vs.toArray }->IntsAre vs ns->ns.length<=n->s₁.gens=#[] ->
   codeAny (model l.prog w) callerA (.call (.ref fa) #[[.ref a],[]]) (λr s'=>r=.ok^.ret^.bool true/\OldK s₁.heap s'.heap/\s'.os=s₁.os/\AllBare s'.gens) s₁):
  WalkO q loose XP YP l.row.toRowW d [] (λf vs=>PySem.call f vs):=by intro w s₀ s₁ mg mb G Y fa o pm cd doc dV kV ho hd hcd hD hmg hg args vals as hpre hlay hrd hwl hlo;obtain rfl:dV=.none:=Dflts.none hD hdf;obtain rfl:kV=.none:=Dflts.noKw hD;let#[a,vs,ns,rfl,rfl,hobj,hints,hlen]:=G5 hn hpre hwl;show enter_call (codeAny_mono (call w s₀ s₁ mg mb fa o pm cd doc a vs ns G Y ho (fd_plain hd) hcd hmg hobj hints hlen hg) λr s' hq=>?_);let#[rfl,h2,h3,h4]:=hq;show#[.inl #[.bool true,.bool true,[],rfl,λ_=>rfl,.bool true,G6 l _,λ_=>#[List.Pairwise.nil,λ_ hm=>(nomatch hm)]],h2,h3,h4]
section
variable {K:Frag}
end
end Att
namespace L2
theorem nC:∀{vs:List Value}{ns:List Int},IntsAre vs ns->Vals (ns.map V.int) vs
 | _,_,.nil=>.nil
 | _,_,.cons n t h=>.cons #[t,rfl]^nC h
def SX(H:Hp):Prop:=∀b,H b=none\/∃o xs,H b=some^.zI o^.lst xs
def Ke{mb:Str->Option Value}{CX:GZ}{fa:Addr}{s₁:Shared}
  (KX:K.In s₁.heap)(hns:s₁.heap.Ns mainGlobals mg)(hb:s₁.heap.Ns builtinsNs mb)(hbb:∀x:Str,x ≠ "__name__" -> mb x=bootBuiltins x)(hlim:s₁.heap.NoLimit)(hg:s₁.gens=#[])
  (ha:s₁.heap.get? a=some { cls:=.type "list", data:=.seq vs.toArray })(hi:IntsAre vs ns)(hl:ns.length<=sizeLine)(hr:iZ k callerA)
  (F:∀base:Heap,K.In base->base.Ns mainGlobals mg->bQ P w K mg base CX k fa fd [x] sp)(hbind:∀(s:Shared)(u:Value),BindsTo s fd #[[u],[]] [(x,u)])
  (CM:∀H:Hp,SX H->bB K H a^ns.map V.int->sp [.ref a] H (λv _=>v=.bl true) λ_ _ _=>False)
  (Ws:∀H e s',CX [] H s₁ (λ_ _ _=>False) e s'->False):
  codeAny (model P w) callerA (.call (.ref fa) #[[.ref a],[]]) (λr s'=>r=.ok^.ret^.bool true/\OldK s₁.heap s'.heap/\s'.os=s₁.os/\AllBare s'.gens) s₁:=by
 have rv:=nC hi;have aaP:=hi.length;have core:∀H:Hp,SX H->bB K H a^ns.map V.int->lX P w H s₁.heap->(∀b,H b≠none->b=a)->(H a≠none->K.lookup a=none) ->
   codeAny (model P w) callerA (.call (.ref fa) #[[.ref a],[]]) (λr s'=>r=.ok^.ret^.bool true/\OldK s₁.heap s'.heap/\s'.os=s₁.os/\AllBare s'.gens) s₁:=by
  intro H hO hS hok hA hK;have EX:∀{b:Addr}{o:Obj},s₁.heap.get? b=some o->H b=none->(qO s₁.heap H).get? b=some o:=λe n=>o7 e n;have Wd:∀{b:Addr}{o:Obj}{es:Array DictEntry}{ep:Nat},s₁.heap.get? b=some o->o.data=.dict es ep->H b=none:=λ{b o es ep} e d=>by
   cases q:H b with
   | none=>rfl
   | some u =>
    have e':b=a:=hA b (by rw[q];simp);subst e';rw[ha] at e;cases e;have d':Data.seq vs.toArray _=Data.dict es ep:=d;cases d'
  have Zc:∀{b:Addr}{m:Str->Option Value},s₁.heap.Ns b m->(qO s₁.heap H).Ns b m:=λ{b m} ⟨o,es,ep,e,d,r⟩=>#[o,es,ep,EX e^Wd e d,d,r];have hKb:K.In^qO s₁.heap H:=λb o e=>EX (KX b o e) (by
   cases q:H b with
   | none=>rfl
   | some u =>
    have e':b=a:=hA b (by rw[q];simp);subst e';rw[hK (by rw[q];simp)] at e;cases e)
  have hM:Mod K mg^qO s₁.heap H:=#[hKb,Zc hns,#[mb,Zc hb,hbb],let⟨mc,h1,h2⟩:=hlim;#[mc,Zc h1,h2]];have e0:JR P w K mg (qO s₁.heap H) callerA [] s₁ H:=#[rfl,hM,λb o e=>ED e,Nat.le_of_eq^wH _ _,trivial,λb hb=>absurd (show b∈([]:List Addr) from hb)^by simp,hok,.of_eq hg];show codeAny_mono ((F _ hKb^Zc hns).run callerA [] s₁ H #[[.ref a],[]] [.ref a] [.ref a] _ _ hr e0 (hbind s₁^.ref a) (.cons rfl .nil)^CM H hO hS) λr s' h=>?_;cases r with
  | error e=>show(Ws H e s' h).elim
  | ok fl =>
   cases fl with
   | next=>show False.elim h
   | brk=>show False.elim h
   | cont=>show False.elim h
   | ret u =>
    let#[v,H',os,bare,un,Od,r',q]:=h;have q':v=.bl true:=q;subst q';obtain rfl:u=Value.bool true:=r';show#[rfl,OldK.of_keep λb o e=>?_,os,bare];cases q:H b with
    | none=>show un.keep b o e q (by intro z;show absurd (show b∈([]:List Addr) from z)^by simp) (by simp)
    | some u =>
     rcases hO b with z|⟨ob,xs,z⟩;rw[q] at z;cases z;have z2:=un.v9 b ob _ z;let#[e1,_]:=hok b _ z;let#[e2,_]:=Od b _ z2;rw[e] at e1;cases e1;show e2
 cases hk:K.lookup a with
 | some o =>
  have e:=KX a o hk;rw[ha] at e;cases e;show core (λ_=>none) (λ_=>.inl rfl) (.inr #[_,vs.toArray,_,hk,rfl,rfl,rfl,by rw[aY,aaP];show hl,by simpa using rv]) (λb u z=>by have z':(none:Option HO)=some u:=z;cases z') (λb z=>absurd rfl z) λz=>absurd rfl z
 | none =>
  show core (λb=>if b=a then some (.zI { cls:=.type "list", data:=.seq vs.toArray } (.lst^ns.map V.int)) else none) (λb=>?_) (.inl^.inr #[{ cls:=.type "list", data:=.seq vs.toArray },if_pos rfl]) (λb u z=>?_) (λb z=>?_) λ_=>hk;by_cases hb:b=a;show .inr #[_,_,if_pos hb];show .inl^if_neg hb;by_cases hb:b=a;have z':=(if_pos hb).symm.trans z;cases z';subst hb;show#[ha,by rw[aq];show hl,vs,_,rv,ha];have z':=(if_neg hb).symm.trans z;cases z';by_cases hb:b=a;show hb;show absurd (if_neg hb) z
noncomputable abbrev KOf(_:K.In h):aF:=K
def Zd{l:PySem.W.OpenLaw}{q:Program}{loose:List Str}{XP:(Str->Option Value)->Heap->Prop}{YP:World->Heap->Prop}{d:DefRec}{K:Params->aF}{CX:World->GZ}{sp:World->Sp}
  (hn:l.most=some n)(hn2:n<=sizeLine)(hdf:d.params.defaults=[])(hr:iZ k callerA)
  (hY:∀(w:World)(h:Heap),YP w h->(K w.params).In h)
  (F:∀(w:World)(mg:Str->Option Value)(fa:Addr)(h:Heap),(K w.params).In h->h.Ns mainGlobals mg->mg d.name=some (.ref fa) ->
   ∃fd:FuncData,(∀(s:Shared)(u:Value),BindsTo s fd #[[u],[]] [(x,u)]) /\
    ∀base:Heap,(K w.params).In base->base.Ns mainGlobals mg->bQ l.prog w (K w.params) mg base (CX w) k fa fd [x]^sp w)
  (CM:∀(w:World)(H:Hp)(a:Addr)(ns:List Int),ns.length<=n->SX H->bB (K w.params) H a^ns.map V.int->sp w [.ref a] H (λv _=>v=.bl true) λ_ _ _=>False)
  (Ws:∀(w:World)(H:Hp)(s:Shared)(e:Value)(s':Shared),CX w [] H s (λ_ _ _=>False) e s'->False):
  PySem.W.WalkO q loose XP YP l.row.toRowW d [] (λf vs=>PySem.call f vs):=by show Att.rS hn hdf λw s₀ s₁ mg mb fa o pm cd doc a vs ns G Y ho hd hcd hmg hobj hints hlen hg=>?_;have KX:=hY w _ Y;let#[fd,hb,hF]:=F w mg fa _ KX G.T.g hmg;show Ke KX G.T.g G.T.b G.T.builtins G.T.nolimit hg hobj hints (bO hlen hn2) hr hF hb (λH hO hS=>CM w H a ns hlen hO hS) λH e s'=>Ws w H s₁ e s'
noncomputable def lq(s:Stmt):Arguments:=match s with
 | .FunctionDef _ a _ _ _ _ _ _ _ _=>a
 | _=>{ posonlyargs:=[],args:=[],vararg:=none,kwonlyargs:=[],kw_defaults:=[],kwarg:=none,defaults:=[] }
def jr(s:Stmt):List Stmt:=match s with
 | .FunctionDef _ _ b _ _ _ _ _ _ _=>b
 | _=>[]
noncomputable def aB(s:Stmt):Scope:=match s with
 | .FunctionDef _ _ _ _ _ _ sc _ _ _=>sc
 | _=>{ kind:=.function,names:=[],isGenerator:=false,isCoroutine:=false }
abbrev gj:GZ:=λ_ _ _ _ _ _=>False
abbrev E0:XK:=λ_ _ _=>False
def Wt:Passes gj X E0:=λ_ _ _ _ _ _ _ h=>h.elim
structure QW (K:aF) (x qual:Str) (st:Stmt) (f:Addr) (fd:FuncData):Prop where
 ex:∃(oc:Value)(od:Option Addr)(kV doc pm:Value)(an:Option Addr)(cdv ct:Value)(osl:Array^Option Value),
  fd=PySem.W.fnOf x qual (lq st) (jr st) (aB st) .none kV doc pm an cdv ct/\K.lookup f=some #[oc,od,.func fd,osl]/\PySem.W.codeIn K cdv qual=true
 kp:PySem.W.keepIn K^.ref f=true
def QW.ok{N ps:List Str}(F:QW K x qual st f fd)(S:aG N ps^aB st)(len:∀vs H Q E,sp vs H Q E->vs.length=ps.length)
  (hbody:∀(cdv:Value)(A:Around)(outer:List Env)(s:Shared)(H:Hp)(vs:List V)(Q:VK)(E:XK),iZ k^A.deeper^envOfC qual (aB st) s.heap.objs.size f cdv->sp vs H Q E ->
   ∃t,wI (zU gj P w K mg base N qual (aB st) f cdv A outer s H E).Sm (jr st) t/\t { nx:=λ_ H'=>Q .dD H',rt:=Q } (start N vs) H):bQ P w K mg base gj (k+1) f fd ps sp:=by let#[oc,od,kV,doc,pm,an,cdv,ct,osl,rfl,lk,hcd]:=F.ex;show QM lk hcd S len λA outer s H vs Q E hr CM=>?_;let#[t,h,q]:=hbody cdv A outer s H vs Q E hr CM;show#[t,h.Sm,q]
def QW.binds{ps:List Str}(F:QW K x qual st f fd)
  (h:∀(kV doc pm:Value)(an:Option Addr)(cdv ct:Value)(us:List Value),us.length=ps.length->bindArgs (PySem.W.fnOf x qual (lq st) (jr st) (aB st) .none kV doc pm an cdv ct) #[us,[]]=pure^ps.zip us):Binds K fd ps []:=by let#[oc,od,kV,doc,pm,an,cdv,ct,osl,rfl,lk,hcd]:=F.ex;show .all^h kV doc pm an cdv ct
def Kf{oc:Value}{od an:Option Addr}{osl:Array^Option Value}{kV doc cdv ct:Value}(l:K.lookup f=some #[oc,od,.func^PySem.W.fnOf x qual (lq st) (jr st) (aB st) .none kV doc pm an cdv ct,osl])
  (c:PySem.W.codeIn K cdv qual=true)(k:PySem.W.keepIn K^.ref f=true):QW K x qual st f^PySem.W.fnOf x qual (lq st) (jr st) (aB st) .none kV doc pm an cdv ct:=#[#[oc,od,kV,doc,pm,an,cdv,ct,osl,rfl,l,c],k]
def uw(hr:iZ k A):A.units+1<cLine:=Nat.lt_of_le_of_lt (Nat.add_le_add_left (by decide:1<=64) _) hr.units
def pv(i:Nat)(hN:X.N[i]?=some x:=by rfl)(hv:Y8 X.env.scope x:=by first|exact Or.inl rfl|exact Or.inr (Or.inl rfl)|exact Or.inr (Or.inr rfl))(hd:(x==("__debug__" : Str))=false:=by decide)
  (hcd:(x==("__classdict__" : Str))=false:=by decide):PE X (.Name x pos)^nT i:=Sl hN hv hd hcd
def aaQ{A B:Prop}(h:B):if false=true then A else B:=by rw[if_neg kq];show h
def SY{A B:Prop}(h:A):if true=true then A else B:=by rw[if_pos rfl];show h
def aC(H H':Hp):Prop:=∀b o,H b=some o->H' b=some o
def aC.refl(H:Hp):aC H H:=λ_ _ h=>h
def aC.trans{H1 H2:Hp}(a:aC H H1)(b:aC H1 H2):aC H H2:=λc o h=>b c o^a c o h
def aC.free(e:aC H H')(h:H' l=Option.none):H l=Option.none:=by
 cases q:H l with
 | none=>rfl
 | some o =>
  rw[e l o q] at h;cases h
def aC.seq(e:aC H H')(h:bB K H a xs):bB K H' a xs:=by rcases h with(h|⟨o,h⟩)|h;show .inl^.inl^e _ _ h;show .inl^.inr #[o,e _ _ h];show .inr h
section
variable {κ:Type} [DecidableEq κ]
end
end L2
namespace BT
open PySem
def dW:bootBuiltins "len" = some^.builtin "len":=by decide +kernel
def yx:bootBuiltins "isinstance" = some^.builtin "isinstance":=by decide +kernel
def z7:bootBuiltins "int" = some^.type "int":=by decide +kernel
def ux:bootBuiltins "list" = some^.type "list":=by decide +kernel
def EY:bootBuiltins "tuple" = some^.type "tuple":=by decide +kernel
def Dc:bootBuiltins "dict" = some^.type "dict":=by decide +kernel
def z8:bootBuiltins "set" = some^.type "set":=by decide +kernel
def Dd:bootBuiltins "reversed" = some^.type "reversed":=by decide +kernel
end BT
namespace L2
variable {px:Pos}{elt iter:Expr}{ifs:List Expr}
def S0(t u:TS):TS:=λD σ H=>∃J:St->Hp->Prop,t { D with nx:=J } σ H/\∀σ' H',J σ' H'->u D σ' H'
def jt{rest:List Stmt}{t u:TS}(h1:PS X st t)(h2:wI X rest u):wI X (st::rest)^S0 t u:=by
 intro u5 s σ H D I h;let#[J,h,k]:=h;show wpAny_execs_cons (c7 (h1 u5 s σ H _ I h) λf s1 q=>?_);cases f with
 | next =>
  let#[σ1,H1,I1,j]:=q;show h2 u5 s1 σ1 H1 D I1^k σ1 H1 j
 | brk=>show q
 | cont=>show q
 | ret u=>show q
def Wu(c:TT)(t u:TS):TS:=λD σ H=>∃Jt Jf:Hp->Prop,(c σ H λb H1=>if b=true then Jt H1 else Jf H1)/\(∀H1,Jt H1->t D σ H1)/\∀H1,Jf H1->u D σ H1
def Kg{a b:List Stmt}{tc:TT}{t u:TS}(hc:PT X c tc)(ha:wI X a t)(hb:wI X b u):PS X (.If c a b pos)^Wu tc t u:=by
 intro u5 s σ H D I h;let#[Jt,Jf,h,h1,h2]:=h;show wpAny_If (c7 (hc u5 s σ H _ I h) λv s1 zq=>?_);let#[H1,I1,q1]:=zq;cases v with
 | true=>show ha u5 s1 σ H1 D I1^h1 H1 q1
 | false=>show hb u5 s1 σ H1 D I1^h2 H1 q1
theorem yy{target:Expr}{it acc:Value}{env:Env}(I:Nat->Shared->Prop)
  (turn:∀n s,I n s->wpAny (model prog w) A (pyNext it) (λr s₁=>match r with
   | none=>R (.ok .next) s₁
   | some v=>wpAny (model prog w) A (letOwnedTupleGo target it v) (λ_ s₀=>wpAny (model prog w) A (assign target env v) (λ_ s₂ =>
     wpAny (model prog w) A (forIn ifs true λc r=>if r=true then do let ok <- isTrue c env (eval c env);pure^ForInStep.yield ok else pure^ForInStep.yield r) (λok s₃ =>
      if ok=true then wpAny (model prog w) A (eval elt env) (λx s₄ =>
       wpAny (model prog w) A (call (.builtin "list.append") [acc,x]) (λ_ s₅=>∃m,m<n/\I m s₅) (notedBy (model prog w) A env λe s'=>R (.error e) s') s₄) (notedBy (model prog w) A env λe s'=>R (.error e) s') s₃
      else ∃m,m<n/\I m s₃) (notedBy (model prog w) A env λe s'=>R (.error e) s') s₂) (notedBy (model prog w) A env λe s'=>R (.error e) s') s₀) (notedBy (model prog w) A env λe s'=>R (.error e) s') s₁) (notedBy (model prog w) A env λe s'=>R (.error e) s') s)
  (n:Nat)(h:I n s):
  codeAny (model prog w) A (.compLoop (.ListComp elt [#[target,iter,ifs,0]] scope pos) 0 it acc env) R s:=by
 show codeAny_loop rfl I (λn s hI=>?_) n h;change wpAny _ A ((compTurn (.ListComp elt [#[target,iter,ifs,0]] scope pos) 0 it acc env).onRaise (λx=>do noteFrame x env;theTreesLotGoes x)) _ _ s;show wpAny_noted ?_;rw[compTurn_list];show au^wpAny_standAt^au (wpAny_mono (turn n s hI) (λr s₁ h₁=>?_) λ_ _ h'=>h');cases r with
 | none=>show aN h₁
 | some v =>
  show au (wpAny_mono h₁ (λ_ s₀ h₀=>?_) λ_ _ h'=>h');show au (wpAny_mono h₀ (λ_ s₂ h₂=>au (wpAny_mono h₂ (λok s₃ h₃=>?_) λ_ _ h'=>h')) λ_ _ h'=>h');cases ok with
  | false=>show aN #[rfl,h₃]
  | true =>
   show au^au (wpAny_mono h₃ (λx s₄ h₄=>au (wpAny_mono h₄ (λ_ s₅ h₅=>aN^aN #[rfl,h₅]) λ_ _ h'=>h')) λ_ _ h'=>h')
noncomputable def uz(X:Cx)(N:List Str)(scope:Scope)(cl:List (Str×Addr))(C:Addr)(fp:List Addr)(s:Shared)(H:Hp):Cx where
 prog:=X.prog
 w:=X.w
 K:=X.K
 mg:=X.mg
 base:=X.base
 A:=X.A
 N:=N
 s₀:=s
 H₀:=H
 env:=compEnvC scope cl C X.env
 outer:=X.stack
 stack:=X.stack
 ex:=fp
 fn:=λ_=>false
 calm:=X.calm
 pn:=[]
 xe:=λ_ _=>False
structure bA (X:Cx) (scope:Scope) (cl:List (Str×Addr)) (x:Str) (fr:List Str) (ix:List Nat):Prop where
 calm:X.calm=true
 clos:closureFor scope X.env=pure cl
 cell:∀y∈scope.names,y.2≠.cell
 kind:scope.kind=.function
 names:∀y∈scope.names,y.2=.local->scope.names.lookup y.1=some .local
 loc:scope.names.lookup x=some .local
 nd:(x::fr).Nodup
 Kh:∀y c,cl.lookup y=some c->X.env.cells.lookup y=some c
 Oe:∀y,((relabel scope X.env).names.lookup y=some .cell\/(relabel scope X.env).names.lookup y=some .free)->∃c,cl.lookup y=some c
 fx:∀(j:Nat) y,fr[j]?=some y->∃i:Nat,ix[j]?=some i/\X.N[i]?=some y/\(X.env.kindOf y=some .cell\/X.env.kindOf y=some .free)/\((relabel scope X.env).names.lookup y=some .cell\/(relabel scope X.env).names.lookup y=some .free)
 len:fr.length=ix.length
def PF(X:Cx)(ifs:List Expr)(t:TT):Prop :=
 ∀(u5:List (Addr×Obj))(s:Shared)(σ:St)(H:Hp)(Q:Bool->Hp->Prop),Inv X u5 σ H s->t σ H Q ->
  wpAny (model X.prog X.w) X.A (forIn ifs true λc r=>if r=true then do let ok <- isTrue c X.env (eval c X.env);pure^ForInStep.yield ok else pure^ForInStep.yield r) (TP X u5 σ Q) X.xe s
def Of:TT:=λ_ H Q=>Q true H
def dG:PF X [] Of:=λ_ _ _ H _ I h=>wpAny_tests_nil #[H,I,h]
def lu{t:TT}(h:PT X c t):PF X [c] t:=λu5 s σ H Q I q=>wpAny_tests_one^h u5 s σ H Q I q
noncomputable def cut(ix:List Nat)(σ:St):St:=ix.map λi=>(σ[i]?).join
section
variable {σ:St}
def Inv.z9{D:Addr}{o:HO}(I:Inv X u5 σ H s)(f:gU X u5 H D)(new:dg X.prog X.w (upd H D o) s.heap D o):Inv X u5 σ (upd H D o) s:=by
 have hn:H D=none:=f.1;have ne:∀b u,H b=some u->b≠D:=λb u e=>aV e hn;have hok:lX X.prog X.w (upd H D o) s.heap:=λb u e=>by
  by_cases hb:b=D;subst hb;rw[eT] at e;cases e;show new
  .rw[bH hb] at e;show(I.hok b u e).stay (λ_ _ _ q=>q) (λc q=>by rw[bH^ne _ _ q];show q) λc xs q=>by rw[bH^ne _ _ q];show q
 show I.step (H':=upd H D o) (h':=s.heap) (g':=s.gens) (t':=s.toks) (d':=s.drawn) (ch:=[D]) (λb hb=>by
   have e:b=D:=by simpa using hb
   subst e;show#[f.2.2.2.1,f.2.1,f.2.2.2.2.1,f.2.2.2.2.2])
  (λb o _ _ _ e _=>e) (λb o _ _ _ e _=>#[o.slots,e]) (λb o hb e n=>by rw[bH (λz=>hb^by simp[z])];show n)
  (λb o _ e=>#[o,e]) (λb xs e=>by rw[bH^ne _ _ e];show e) (λb o u e=>by rw[bH^ne _ _ e];show e) (λb ps e=>#[#[],by rw[bH^ne _ _ e,e];simp])
  (λm hm=>hm) hok I.bare
structure iS (X:Cx) (scope:Scope) (cl:List (Str×Addr)) (xs fr:List Str) (ix:List Nat):Prop where
 calm:X.calm=true
 clos:closureFor scope X.env=pure cl
 cell:∀y∈scope.names,y.2≠.cell
 kind:scope.kind=.function
 names:∀y∈scope.names,y.2=.local->scope.names.lookup y.1=some .local
 nd:(xs++fr).Nodup
 Kh:∀y c,cl.lookup y=some c->X.env.cells.lookup y=some c
 Oe:∀y,((relabel scope X.env).names.lookup y=some .cell\/(relabel scope X.env).names.lookup y=some .free)->∃c,cl.lookup y=some c
 fx:∀(j:Nat) y,fr[j]?=some y->∃i:Nat,ix[j]?=some i/\X.N[i]?=some y/\(X.env.kindOf y=some .cell\/X.env.kindOf y=some .free)/\((relabel scope X.env).names.lookup y=some .cell\/(relabel scope X.env).names.lookup y=some .free)
 len:fr.length=ix.length
def iS.of{xs:List Str}(O:bA X scope cl x fr ix)(nd:(xs++fr).Nodup):iS X scope cl xs fr ix:=#[O.calm,O.clos,O.cell,O.kind,O.names,nd,O.Kh,O.Oe,O.fx,O.len]
theorem mH{xs:List Str}{RR:Value->Addr->Result->Shared->Prop}
  (O:iS X scope cl xs fr ix)(hg:∀C fp s H,PG (uz X (xs++fr) scope cl C fp s H) tg g)(ht:∀C fp s H,PF (uz X (xs++fr) scope cl C fp s H) ifs tt)(he:∀C fp s H,PE (uz X (xs++fr) scope cl C fp s H) elt te)
  {tn:Nat->Heap->Prop}{J:It}{H2:Hp}{s2:Shared}(I2:Inv X u5 σ H2 s2)(T:Turn X.prog X.w X.K tg J fp it tn)(st2:tn 0 s2.heap)(f2:∀b∈fp,gU X u5 H2 b)
  (Z:List V->Hp->Prop)(W:Nat->Nat->List V->St->Hp->Prop)(m0:Nat)(w0:W 0 m0 [] (List.replicate xs.length none++cut ix σ) H2)
  (turn:∀i m ys τ H,W i m ys τ H->(J.stop i H/\Z ys H)\/(J.go i H/\ys.length<sizeLine/\∃N:List V->St->Hp->Prop,(∀ys' τ' H',N ys' τ' H'->∃m',m'<m/\W (i+1) m' ys' τ' H') /\
   ∀v H',J.Jr i H v H'->g v τ H' λτ2 H2=>tt τ2 H2 λb H3=>if b=true then te τ2 H3 λy H4=>N (ys++[y]) τ2 H4 else N ys τ2 H3))
  (hRR:∀D C s' ys H',Inv X u5 σ (upd H' D^.lst ys) s'->(∃m,s'.heap.Ns C m)->gU X u5 (upd H' D^.lst ys) C->H' D=none->Z ys H'->RR (.ref D) C (.ok .next) s'):
  wpAny (model X.prog X.w) X.A (newList []) (λacc s₃=>wpAny (model X.prog X.w) X.A (newFunctionEnv scope X.env.globals cl [] X.env.qual none .none^some X.env) (λcenv s₄ =>
   codeAny (model X.prog X.w) X.A (.compStart (.ListComp elt [#[tg,iter,ifs,0]] scope pos) 0 (.ref it) acc { cenv with scope:=relabel scope X.env }) (RR acc cenv.locals) s₄) E s₃) E s2:=by
 show wpAny_newObj_type^wpAny_newFunctionEnv O.cell (by intro y hy;simp at hy) (λh₁ S1 Og=>?_) O.kind;dsimp only at S1 Og ⊢;generalize hG:s2.heap.push { cls:=.type "list", dict:=none,data:=.seq ([]:List Value).toArray }=G at S1 Og ⊢;have hC:G.objs.size=s2.heap.objs.size+1:=by rw[<- hG,iJ]
 have hDC:s2.heap.objs.size≠G.objs.size:=by rw[hC];show aT^jT _
 have S2:s2.heap.objs.size<=G.objs.size:=by rw[hC];show Nat.le_succ _
 have below:∀b,b<s2.heap.objs.size->b≠G.objs.size/\b≠s2.heap.objs.size:=λb hb=>#[by rw[hC];show aT^jS hb,aT hb];have old:∀b o,s2.heap.get? b=some o->h₁.get? b=some o:=λb o e=>Og.extBut b o (below b^aK e).1^dH _ (hG▸dH _ e);have hacc:h₁.get? s2.heap.objs.size=some { cls:=.type "list", data:=.seq ([]:List Value).toArray }:=Og.extBut _ _ hDC^dH _ (hG▸iX _ rfl);have hD2:H2 s2.heap.objs.size=none:=I2.hok.fresh^ay _;have hC2:H2 G.objs.size=none:=I2.hok.fresh S2;have fD:gU X u5 H2 s2.heap.objs.size:=I2.oF (ay _) hD2;have fC:gU X u5 H2 G.objs.size:=I2.oF S2 hC2;have S3:∀b∈fp,b<s2.heap.objs.size:=λb hb=>by let#[o,e,_]:=T.obj _ _ st2 b hb;show aK e
 have Kl:∀b∈frs X.stack,b∈X.env.locals::X.fs:=I2.yj;have mJ:=O.Kh;have ok:(uz X (xs++fr) scope cl G.objs.size fp s2 H2).Ok:=by show#[I2.ok.mod,O.kind,I2.ok.glob,I2.ok.blt,S2,λy z c h1 h2=>I2.ok.inj y z c (mJ y c h1)^mJ z c h2,λy hy=>O.Oe y hy,λy c h _=>absurd h kq,λh=>I2.ok.hd h,I2.ok.frames,.inl rfl,λb hb=>?_,I2.bs,bO I2.ok.NU I2.sz,λb o e hb=>?_,λb hb hs=>?_,I2.stack,I2.yk];show#[(below b^S3 b hb).1,λy c e=>(f2 b hb).2.2.2.2.1 y c^mJ y c e];rcases(f2 b hb).2.2.2.1 with z|z;show I2.ok.Jz b o e z;show absurd (bX (aK (I2.ok.bs b o e).1) z)^gK _;rcases aH.mp^Kl b hs with z|z;show(f2 b hb).2.1 z;show(f2 b hb).2.2.1 z
 have nfs:∀b,s2.heap.objs.size<=b->b∉frs X.stack:=λb hb hs=>by rcases aH.mp^Kl b hs with z|z;show absurd (bX I2.lt (z▸hb))^gK _;show I2.VQ hb z
 have Ic:Inv (uz X (xs++fr) scope cl G.objs.size fp s2 H2) [(s2.heap.objs.size,{ cls:=.type "list", data:=.seq ([]:List Value).toArray })] (List.replicate xs.length none++cut ix σ) H2 { s2 with heap:=h₁,toks:=s2.toks+([]:List (Str×Value)).length }:=by
  show#[ok,rfl,I2.bare,Un.kept old,#[_,S1,λi y v h1 h2 h3=>?_],λy c e=>?_,hC2,λy c e=>I2.jW y c^mJ y c e,λp hp=>?_,I2.hok.kept old,?_]
  .have hk:xs.length<=i:=by rcases bg i xs.length with q|q;rw[kT^by simpa using q,List.getElem?_replicate,if_pos q] at h2;cases h2;show q
   .obtain⟨j,rfl⟩:∃j,i=xs.length+j:=#[i-xs.length,∅];have h1:fr[j]?=some y:=by have h1:(xs++fr)[xs.length+j]?=some y:=h1;rwa [j4 ∅,Nat.add_sub_cancel_left] at h1
    have h2:(cut ix σ)[j]?=some^some v:=by rwa [j4^by simp,List.length_replicate,Nat.add_sub_cancel_left] at h2
    let#[i,e1,e2,k,kc]:=O.fx j y h1;let#[c,e3]:=O.Oe y kc;have e4:σ[i]?=some^some v:=by
     unfold cut at h2;rw[aW,e1] at h2;have h2:some ((σ[i]?).join)=some^some v:=h2;have h2:=Option.some.inj h2;cases q:σ[i]? with
     | none=>rw[q] at h2;cases h2
     | some z=>rw[q] at h2;show congrArg some h2
    let#[m,_,hl]:=I2.loc;let#[u,r,l]:=hl i y v e2 e4 (k.elim (λz=>.inr^.inl z) λz=>.inr^.inr z);show#[u,r,.inr #[kc,c,e3,?_]];rcases l with⟨l1,_⟩|⟨_,c',l2,l3⟩;rcases k with k|k<;>(rw[k] at l1;cases l1);have e5:=mJ y c e3;rw[l2] at e5;cases e5;let#[o,ho,hd]:=l3;show#[o,old _ _ ho,hd]
  .let#[v,o,ho,hd]:=I2.cell y c^mJ y c e;show#[v,o,old _ _ ho,hd]
  .have e:p=(s2.heap.objs.size,{ cls:=.type "list", data:=.seq ([]:List Value).toArray }):=by simpa[uz] using hp
   subst e;show#[hacc,hD2,hDC,nfs _^ay _,λv z=>by cases z]
  .change(List.replicate xs.length none++cut ix σ).length=(xs++fr).length;unfold cut;simp[O.len]
 have S4:∀b∈fp,b≠s2.heap.objs.size:=λb hb=>(below b^S3 b hb).2;have C0:∀{pl:List (Addr×Obj)}{H':Hp},(∀p∈pl,p.1=s2.heap.objs.size)->(∀b∈fp,H' b=none)->∀b∈fp,gU (uz X (xs++fr) scope cl G.objs.size fp s2 H2) pl H' b:=λ{pl H'} hp hn b hb =>
  #[hn b hb,(below b^S3 b hb).1,λhs=>ok.JA b hb hs,.inl hb,λy c e=>(f2 b hb).2.2.2.2.1 y c^mJ y c e,λp S5 z=>S4 b hb^z.symm.trans^hp p S5]
 have one:∀{o:Obj},∀p∈[(s2.heap.objs.size,o)],p.1=s2.heap.objs.size:=λp hp=>by have e:=aA.mp hp;rw[e]
 have loop:codeAny (model X.prog X.w) X.A (.compLoop (.ListComp elt [#[tg,iter,ifs,0]] scope pos) 0 (.ref it) (.ref s2.heap.objs.size)^compEnvC scope cl G.objs.size X.env) (RR (.ref s2.heap.objs.size) G.objs.size)
   { s2 with heap:=h₁,toks:=s2.toks+([]:List (Str×Value)).length }:=by
  show yy (λn s'=>∃(i:Nat)(ys:List V)(its:List Value)(c:Nat)(τ:St)(H':Hp),Inv (uz X (xs++fr) scope cl G.objs.size fp s2 H2) [(s2.heap.objs.size,{ cls:=.type "list", data:=.seq its.toArray c })] τ H' s'/\tn i s'.heap/\(∀b∈fp,H' b=none)/\Vals ys its/\ys.length<=sizeLine/\W i n ys τ H') ?_ m0
   #[0,[],[],0,_,H2,Ic,T.keep _ _ _ st2 (λb _ o e=>old b o e),λb hb=>(f2 b hb).1,.nil,aI _,w0]
  rintro n s3 ⟨i,ys,its,c,τ,H3,I3,st3,V5,rv,hl3,w3⟩;rcases turn i n ys τ H3 w3 with⟨stop,zz⟩|⟨go,hlt,N,hN,step⟩;show wpAny_mono (T.done (uz X (xs++fr) scope cl G.objs.size fp s2 H2) rfl rfl rfl O.calm i _ s3 _ H3 _ I3 (C0 one V5) st3 stop) (λr s4 h4=>?_) λ_ _ e=>e;let#[hr,I4]:=h4;subst hr;have pD:=I4.pin _^dZ _^aA.mpr rfl;have IX:Inv X u5 σ H3 s4:=I2.QB I4.os I4.base I4.hok I4.bare λb hb=>#[(f2 b hb).2.2.2.1,(f2 b hb).2.1,(f2 b hb).2.2.2.2.1,(f2 b hb).2.2.2.2.2];let#[mC,hmC,_]:=I4.loc;show hRR _ _ s4 ys H3 (IX.z9 #[pD.2.1,fD.2] #[hl3,its,c,rv,pD.1]) #[mC,hmC] #[by rw[bH^bz hDC];show I4.free,fC.2] pD.2.1 zz
  .show wpAny_mono (T.item (uz X (xs++fr) scope cl G.objs.size fp s2 H2) rfl rfl rfl O.calm i _ s3 _ H3 _ I3 (C0 one V5) st3 go) (λr s4 h4=>?_) λ_ _ e=>e;let#[u,hr,h4]:=h4;subst hr;show wpAny_mono h4 (λ_ s5 h5=>?_) λ_ _ e=>e;let#[v,H5,I5,r5,y5,NY,fr5]:=h5;have I5':=I5.pinned (C0 one fr5)^T.obj _ _ NY;show wpAny_mono (hg _ _ _ _ _ s5 τ H5 v u _ I5' r5^step v H5 y5) (λ_ s6 h6=>?_) λ_ _ f=>False.elim f;let#[τ2,H6,I6,q6]:=h6;show wpAny_mono (ht _ _ _ _ _ s6 _ H6 _ I6 q6) (λok s7 h7=>?_) λ_ _ f=>False.elim f;let#[H7,I7,q7]:=h7;cases ok with
   | true =>
    rw[if_pos rfl] at q7 ⊢;show wpAny_mono (he _ _ _ _ _ s7 _ H7 _ I7 q7) (λuy s8 h8=>?_) λ_ _ f=>False.elim f;let#[y,H8,I8,r8,n8]:=h8;have pD:=I8.pin _^dZ _^kU _^aA.mpr rfl;have rl:=rv.length;show append_at (hsz:=by rw[aY];lia) pD.1 λh9 hs9 hD9=>?_;let#[m',hm,w9]:=hN _ _ _ n8;have Ia:Inv (uz X (xs++fr) scope cl G.objs.size fp s2 H2) (qR fp s5.heap) τ2 H8 s8:=I8.sN λp hp=>I8.pin p^dZ _^dZ _ hp;have Ib:=Ia.turned (h':=h9) (t':=s8.toks) (it:=s2.heap.objs.size) (λb o hb e=>hs9.extBut b o hb e) pD.2.1 hDC (.inr^ay _) (λy c e=>fD.2.2.2.2.1 y c^mJ y c e)
     λp hp=>by let#[hb,_]:=wK (fp:=fp) (h:=s5.heap) (show p∈qR fp s5.heap from hp);show S4 p.1 hb
    show#[m',hm,i+1,ys++[y],its++[uy],c+1,τ2,H8,Ib.sN λp hp=>?_,T.keep _ _ _ NY λb hb o e=>?_,λb hb=>?_,rv.append^.cons r8 .nil,by rw[aO,ji];lia,w9]
    .have e:=aA.mp hp;subst e;show#[?_,pD.2.1,hDC,pD.2.2.2.1,λv z=>by cases z];have q:its.toArray.push uy=(its++[uy]).toArray:=by simp
     rw[<- q];show hD9
    .show hs9.extBut b o (S4 b hb) (I8.pin (b,o)^dZ _^dZ _^iM hb e).1
    .let#[o,e,d]:=T.obj _ _ NY b hb;show(I8.pin (b,o)^dZ _^dZ _^iM hb e).2.1
   | false =>
    rw[if_neg kq] at q7 ⊢;let#[m',hm,w9]:=hN _ _ _ q7;show#[m',hm,i+1,ys,its,c,τ2,H7,I7.o8,T.keep _ _ _ NY λb hb o e=>?_,λb hb=>?_,rv,hl3,w9];show(I7.pin (b,o)^dZ _^dZ _^iM hb e).1;let#[o,e,d]:=T.obj _ _ NY b hb;show(I7.pin (b,o)^dZ _^dZ _^iM hb e).2.1
 show codeAny_compStart_list loop^T.self _ 0 _ _ _ (T.keep _ _ _ st2 λb _ o e=>old b o e) loop
def uA{RR:Value->Addr->Result->Shared->Prop}
  (O:bA X scope cl x fr ix)(ht:∀C fp s H,PF (uz X (x::fr) scope cl C fp s H) ifs tt)(he:∀C fp s H,PE (uz X (x::fr) scope cl C fp s H) elt te)
  {tn:Nat->Heap->Prop}{J:It}{H2:Hp}{s2:Shared}(I2:Inv X u5 σ H2 s2)(T:Turn X.prog X.w X.K (.Name x px) J fp it tn)(st2:tn 0 s2.heap)(f2:∀b∈fp,gU X u5 H2 b)
  (Z:List V->Hp->Prop)(W:Nat->Nat->List V->Hp->Prop)(m0:Nat)(w0:W 0 m0 [] H2)
  (turn:∀i m ys H,W i m ys H->(J.stop i H/\Z ys H)\/(J.go i H/\ys.length<sizeLine/\∃N:List V->Hp->Prop,(∀ys' H',N ys' H'->∃m',m'<m/\W (i+1) m' ys' H') /\
   ∀v H',J.Jr i H v H'->tt (some v::cut ix σ) H' λb H3=>if b=true then te (some v::cut ix σ) H3 λy H4=>N (ys++[y]) H4 else N ys H3))
  (hRR:∀D C s' ys H',Inv X u5 σ (upd H' D^.lst ys) s'->(∃m,s'.heap.Ns C m)->gU X u5 (upd H' D^.lst ys) C->H' D=none->Z ys H'->RR (.ref D) C (.ok .next) s'):
  wpAny (model X.prog X.w) X.A (newList []) (λacc s₃=>wpAny (model X.prog X.w) X.A (newFunctionEnv scope X.env.globals cl [] X.env.qual none .none^some X.env) (λcenv s₄ =>
   codeAny (model X.prog X.w) X.A (.compStart (.ListComp elt [#[.Name x px,iter,ifs,0]] scope pos) 0 (.ref it) acc { cenv with scope:=relabel scope X.env }) (RR acc cenv.locals) s₄) E s₃) E s2:=by
 show mH (xs:=[x]) (g:=gQ 0) (iS.of O O.nd) (λC fp s H=>?_) ht he I2 T st2 f2 Z (λi m ys τ H=>(∃y,τ=y::cut ix σ)/\W i m ys H) m0 #[#[none,rfl],w0] (λi m ys τ H h=>?_) hRR;show EF O.nd rfl (.inl^lookup_relabel_local O.loc)^.inr^lookup_relabel_local O.loc
 .let#[#[y,rfl],h]:=h;rcases turn i m ys H h with h|⟨h1,h2,N,h3,h4⟩;show .inl h
  .show .inr #[h1,h2,λys τ H=>(∃y,τ=y::cut ix σ)/\N ys H,λys' τ' H' ⟨e,n⟩=>let⟨m',a,b⟩:=h3 ys' H' n;#[m',a,e,b],λv H' hy=>?_];have e:(∃z,some v::cut ix σ=z::cut ix σ)=True:=eq_true #[_,rfl];change tt (some v::cut ix σ) H' λb H3=>if b=true then te (some v::cut ix σ) H3 λy1 H4=>(∃z,some v::cut ix σ=z::cut ix σ)/\N (ys++[y1]) H4 else(∃z,some v::cut ix σ=z::cut ix σ)/\N ys H3
   erw[e,true_and];show h4 v H' hy
def Km(wi:TI)(tt:TT)(te:TE)(ix:List Nat):TE:=λσ H Q=>wi σ H λJ H1=>∃W:Nat->Nat->List V->Hp->Prop,(∃m,W 0 m [] H1)/\∀i m ys H,W i m ys H ->
 (J.stop i H/\∀p,H p=none->Q (.ref p)^upd H p^.lst ys)\/(J.go i H/\ys.length<sizeLine/\∃N:List V->Hp->Prop,(∀ys' H',N ys' H'->∃m',m'<m/\W (i+1) m' ys' H') /\
  ∀v H',J.Jr i H v H'->tt (some v::cut ix σ) H' λb H3=>if b=true then te (some v::cut ix σ) H3 λy H4=>N (ys++[y]) H4 else N ys H3)
def cT{wi:TI}(O:bA X scope cl x fr ix)(hi:PI X (.Name x px) iter wi)
  (ht:∀C fp s H,PF (uz X (x::fr) scope cl C fp s H) ifs tt)(he:∀C fp s H,PE (uz X (x::fr) scope cl C fp s H) elt te)
  (hs:∀v,foldedSetIterable iter X.env v=pure v:=by intro _;rfl):PE X (.ListComp elt [#[.Name x px,iter,ifs,0]] scope pos)^Km wi tt te ix:=by intro u5 s σ H Q I h;rw[eval_ListComp];show wpAny_comprehension_free (use:=none) rfl hs O.clos O.kind O.names (c7 (hi u5 s σ H _ I h) λv s1 h1=>c7 h1 λitv s2 h2=>?_);let#[it,fp,tn,J,H2,e,I2,T,st2,f2,W,#[m0,w0],turn]:=h2;subst e;show uA O ht he I2 T st2 f2 (λys H=>∀p,H p=none->Q (.ref p)^upd H p^.lst ys) W m0 w0 turn λD C s' ys H' I' hm fC hD z=>?_;let#[m,hm]:=hm;show#[m,hm,λh' hs'=>?_];show#[.ref D,_,I'.turned (t':=s'.toks) (it:=C) (λb o hb e=>hs'.extBut b o hb e) fC.1 fC.2.1 fC.2.2.2.1 fC.2.2.2.2.1 fC.2.2.2.2.2,rfl,z D hD]
def Kn(te:TE)(i:Nat):TS:=λD σ H=>te σ H λv H1=>D.nx (σ.set i^some v) H1
def ly{y:Str}{py spos:Pos}{wi:TI}(hN:X.N.Nodup)(hiy:X.N[i]?=some y)(hy:Loc X.env.scope y)
  (O:bA X scope cl x fr ix)(hi:PI X (.Name x px) iter wi)
  (ht:∀C fp s H,PF (uz X (x::fr) scope cl C fp s H) ifs tt)(he:∀C fp s H,PE (uz X (x::fr) scope cl C fp s H) elt te)
  (hsw:swapsWith (.ListComp elt [#[.Name x px,iter,ifs,0]] scope pos) (some^.Name y py) spos.line X.env=pure true:=by rfl)
  (hs:∀v,foldedSetIterable iter X.env v=pure v:=by intro _;rfl)(hf:X.fn y=true\/X.env.scope.names.lookup y=some .local:=by first|exact .inl rfl|exact .inr rfl|assumption):
  PS X (.Assign [.Name y py] (.ListComp elt [#[.Name x px,iter,ifs,0]] scope pos) spos)^Kn (Km wi tt te ix) i:=by
 intro u5 s σ H D I h;rw[exec_Assign_Name_used _ _ _ _ hsw];show au^wpAny_standAt^au ?_;change wpAny _ X.A (do let _ <- comprehension (.ListComp elt [#[.Name x px,iter,ifs,0]] scope pos) scope X.env _ (newList []) false (eval iter X.env) (some^assign (.Name y py) X.env)) _ _ s;show au (wpAny_mono (wpAny_comprehension_free (use:=some^assign (.Name y py) X.env) (Q:=λ_ s'=>SP X u5 D .next s') rfl hs O.clos O.kind O.names
  (c7 (hi u5 s σ H _ I h) λv s1 h1=>c7 h1 λitv s2 h2=>?_)) (λ_ s' hq=>aN^aN hq) λ_ _ e=>e)
 let#[it,fp,tn,J,H2,e,I2,T,st2,f2,W,#[m0,w0],turn]:=h2;subst e;show uA O ht he I2 T st2 f2 (λys H=>∀p,H p=none->D.nx (σ.set i^some^.ref p)^upd H p^.lst ys) W m0 w0 turn λL C s' ys H' I' hm fC hD z=>?_;let#[m,hm]:=hm;change wpAny _ X.A (assign (.Name y py) X.env^.ref L) _ _ _;show wpAny_assign_Name^qP I' hN hiy hy (v:=.ref L) rfl (λs'' I'' Ju=>?_) hf;let#[a,Ju,ha]:=Ju;have hCa:C≠a:=by rcases ha with z|z;rw[z];show fC.2.1;show bz^fC.2.2.2.2.1 _ _ z
 show#[m,hm.sameBut Ju hCa,λh' hs'=>?_];show#[_,_,I''.turned (t':=s''.toks) (it:=C) (λb o hb e=>hs'.extBut b o hb e) fC.1 fC.2.1 fC.2.2.2.1 fC.2.2.2.2.1 fC.2.2.2.2.2,z L hD]
def bA.plain(calm:X.calm=true)(cell:∀y∈scope.names,y.2≠.cell)(free:∀y∈scope.names,y.2≠.free)(kind:scope.kind=.function)
  (names:∀y∈scope.names,y.2=.local->scope.names.lookup y.1=some .local)(loc:scope.names.lookup x=some .local):bA X scope [] x [] [] where
 calm:=calm
 clos:=closureFor_none free
 cell:=cell
 kind:=kind
 names:=names
 loc:=loc
 nd:=by simp
 Kh:=λy c h=>by cases h
 Oe:=λy h=>by
  exfalso;have mem:∀{k:NameKind},(relabel scope X.env).names.lookup y=some k->∃z∈scope.names,(if(z.2==.free&&X.env.scope.kind==.function&&X.env.kindOf z.1==some .cell) then(z.1,NameKind.cell) else(z.1,z.2))=(y,k):=λ{k} e=>by have q:=g8 e;let#[z,hz,e]:=aD.mp q;show#[z,hz,e]
  rcases h with h|h
  .let#[z,hz,e]:=mem h;have n1:=free z hz;have n2:(z.2==NameKind.free)=false:=by cases hk:z.2<;>first|rfl|show absurd hk n1
   rw[n2,tU,tU,if_neg kq] at e;show cell z hz^congrArg Prod.snd e
  .let#[z,hz,e]:=mem h;have n1:=free z hz;have n2:(z.2==NameKind.free)=false:=by cases hk:z.2<;>first|rfl|show absurd hk n1
   rw[n2,tU,tU,if_neg kq] at e;show n1^congrArg Prod.snd e
 fx:=λj y h=>by cases j<;>cases h
 len:=rfl
end
def Ko:dU X (.builtin "isinstance") (λxs H Q=>∃x T t b,xs=[x,.ty T]/\oG X.K H x t/\PySem.W.kitOne X.K t^.type T=some b/\Q (.bl b) H):=by intro u5 s σ H xs us Q I r h;let#[x,T,t,b,rfl,ty,e,q]:=h;let#[u,u',rfl,r1,r2]:=vals2 r;cases r2;show GY I r1 ty e λtk=>#[.bl b,H,I.tok tk,rfl,q]
theorem wV{prog:Program}{w:World}{A:Around}{E:Value->Shared->Prop}{it t:Addr}{items:Array Value}(hne:t≠it):∀(n i:Nat)(s:Shared)(Q:List Value->Shared->Prop),s.heap.IsListIter it t i->s.heap.IsList t items->i+n<=items.size ->
  (∀h',h'.IsListIter it t (i+n)->Heap.SameBut it s.heap h'->Q ((items.toList.drop i).take n) { s with heap:=h' })->wpAny (model prog w) A (draw (.ref it) n) Q E s
 | 0,i,s,Q,hit,_,_,hQ=>by
  change wpAny _ _ (pure []) Q E s;show aN (by simpa using hQ s.heap hit (Heap.SameBut.refl ..))
 | n+1,i,s,Q,hit,ht,hle,hQ=>by
  have hlt:i<items.size:=∅;change wpAny _ _ (pyNext (.ref it) >>= _) Q E s;show au (wpAny_pyNext_list_item hit ht (x:=items[i]) (by simp[hlt]) λh₁ S6 hs₁=>?_);show au^wpAny_holding (wV hne n (i+1) _ _ S6 (ht.extBut hs₁.extBut hne) ∅ λh₂ aaV hs₂=>aN ?_);have hd:items.toList.drop i=items[i]::items.toList.drop (i+1):=by simp[List.drop_eq_getElem_cons,hlt]
  have:=hQ h₂ (by rw[show i+(n+1)=i+1+n by lia];show aaV)^hs₁.trans hs₂;rw[hd,List.take_succ_cons] at this;show this
theorem Aa{t:Addr}{items:Array Value}{targets:List (Bool×(Value->Sem Unit))}{Q:Unit->Shared->Prop}(hh:A.handled=none)(ht:s.heap.IsList t items)
  (hn:targets.length=items.size)(hstar:targets.findIdx? (·.1)=none)
  (h:∀h',Heap.ExtBut s.heap.objs.size s.heap h'->wpAny (model prog w) A (assignInOrder (targets.map (·.2)) items.toList) Q E { s with heap:=h' }):
  wpAny (model prog w) A (unpack (.ref t) targets) Q E s:=by
 have hlt:t≠s.heap.objs.size:=by let#[o,ho,_]:=ht;show aT^aK ho
 unfold unpack;rw[hn,hstar];show au^wpAny_holding ?_;unfold unpackItems;show au ?_;unfold notIterableAtAll;show au^wpAny_specialOf ht.typeIs F.slot_list_iter.lookup ?_;show aN ?_;erw[bW,if_false];show au^wpAny_holding^wpAny_pyIter_list ht ?_;show au^wpAny_holding (wV hlt items.size 0 _ _ #[_,iX _ rfl,rfl,rfl] (ht.push _) ∅ λh₁ S6 hs₁=>?_);have hall:List.take items.size^List.drop 0 items.toList=items.toList:=by rw[List.drop_zero];show List.take_of_length_le (by simp)
 rw[hall];rw[if_neg^by simp];have ht₁:h₁.IsList t items:=(ht.push _).extBut hs₁.extBut hlt;show au^wpAny_holding (wpAny_pyNext_list_end hh S6 ht₁ (by simp) λh₂ he₂=>?_);erw[Option.isSome_none,bW,if_false];show aN (h h₂ λb o hb e=>he₂ b o hb^hs₁.extBut b o hb^dH _ e)
def Wv(K:aF)(n:Nat)(t:GR):TG:=λv σ H Q=>∃a xs,v=.ref a/\bB K H a xs/\xs.length=n/\t xs σ H Q
def Kp{t:GR}(hc:X.calm=true)(h:Vz X es t)
  (hn:(assignEach es X.env).length=n:=by rfl)(hst:(assignEach es X.env).findIdx? (·.1)=none:=by rfl):PG X (.Tuple es k pos)^Wv X.K n t:=by intro u5 s σ H v u Q I r hw;let#[a,xs,e1,hq,hl,hw]:=hw;subst e1;cases r;let#[its,rv,pl,hz]:=I.list hq;rw[assign_Tuple];show au^wpAny_standAt (Aa (I.ok.hd hc) pl.isList (by simp[hn,<- hl,rv.length]) hst λh' hx=>?_);have I1:Inv X u5 σ H { s with heap:=h' }:=I.kept (t':=s.toks) λb o e=>hx b o (aT^aK e) e;show h u5 _ σ H xs _ Q I1 (by simpa using rv) hw
end L2
namespace RV
open PySem
section
variable {P:Nat->Value->Prop}{St:Nat->Heap->Prop}
end
end RV
namespace L2
variable {x:V}{i j:Int}{b:Bool}{tl:TA}{A B:Prop}{p:Addr}{o:HO}{R:It->Hp->Prop}{y x0 x1 x2 x3 x4 x5 x6 x7 x8 x9 Oh:Option V}
section
variable {nx bk ct:St->Hp->Prop}{σ:St}{P:Bool->Hp->Prop}{t u:TS}{c d:TT}
def aaW(h:nx σ H):QE #[nx,rt,bk,ct] σ H:=h
def rT(J:St->Hp->Prop)(h:t #[J,rt,bk,ct] σ H)(k:∀σ' H',J σ' H'->u #[nx,rt,bk,ct] σ' H'):S0 t u #[nx,rt,bk,ct] σ H:=#[J,h,k]
def aep(h:te σ H rt):VW te #[nx,rt,bk,ct] σ H:=h
def aaX(h:te σ H λ_ H1=>nx σ H1):QF te #[nx,rt,bk,ct] σ H:=h
def s_c(h:Q v H):tC v σ H Q:=h
def agn{r:R2}(h:ta σ H λx H1=>tb σ H1 λy H2=>r x y H2 Q):N1 r ta tb σ H Q:=h
def ago{r:V->Hp->VK->Prop}(h:ta σ H λx H1=>r x H1 Q):tUn r ta σ H Q:=h
def s_u{g:Int->V}(h:Q (g i) H):rU g (.int i) H Q:=#[i,rfl,h]
def qD(P:Bool->Hp->Prop):VK:=λx H=>∃k,x=.bl k/\P k H
def aeq(h:P b H):qD P (.bl b) H:=#[b,rfl,h]
def aaY(h:te σ H^qD P):EL te σ H P:=h
def s_b(h:te σ H^qD P):tB te σ H P:=h
def aer(h:c σ H λb H1=>if b=true then d σ H1 P else P false H1):VT c d σ H P:=h
def agp(h:c σ H λb H1=>if b=true then P true H1 else d σ H1 P):tOr c d σ H P:=h
def aes(h:c σ H λb H1=>P (!b) H1):VU c σ H P:=h
def aet(h:c σ H λb H1=>if b=true then ta σ H1 Q else tb σ H1 Q):tIf c ta tb σ H Q:=h
def aaZ(h:ta σ H (qD λb H1=>if b=true then tb σ H1 Q else Q (.bl false) H1)):QC ta tb σ H Q:=h
def aeu(h:ta σ H (qD λb H1=>if b=true then Q (.bl true) H1 else tb σ H1 Q)):VV ta tb σ H Q:=h
def Ze{r r':R2}(h:ta σ H λx H1=>tb σ H1 λy H2=>r x y H2 (qD λb H3=>if b=true then tc σ H3 (λz H4=>r' y z H4 Q) else Q (.bl false) H3)):JP r r' ta tb tc σ H Q:=h
def agq{g:Int->Int->V}(h:Q (g i j) H):JJ g (.int i) (.int j) H Q:=#[i,j,rfl,rfl,h]
def s_i{C:Int->Int->Prop}{g:Int->Int->V}(hc:C i j)(h:Q (g i j) H):rI C g (.int i) (.int j) H Q:=#[i,j,rfl,rfl,hc,h]
def aev(h:Q (.bl (decide (i=j))) H):rEq (.int i) (.int j) H Q:=#[rfl,by rw[show decide (V.int i=V.int j)=decide (i=j) by simp];show h]
def aew{i j:Str}(h:Q (.bl (decide (i=j))) H):rEq (.str i) (.str j) H Q:=#[rfl,by rw[show decide (V.str i=V.str j)=decide (i=j) by simp];show h]
def aex(h:Q (.bl (!decide (i=j))) H):rNe (.int i) (.int j) H Q:=#[rfl,by rw[show decide (V.int i=V.int j)=decide (i=j) by simp];show h]
def aey{i j:Str}(h:Q (.bl (!decide (i=j))) H):rNe (.str i) (.str j) H Q:=#[rfl,by rw[show decide (V.str i=V.str j)=decide (i=j) by simp];show h]
def s_call{E:XK}(h:tl σ H λvs H1=>sp vs H1 Q E):JS sp [] E tl σ H Q:=by change tl σ H λvs H1=>sp (vs++[]) H1 Q E;simpa only[fL] using h
def aez{R:List V->Hp->Prop}(h:R [] H):Wa σ H R:=h
def aa0{R:List V->Hp->Prop}(h:ta σ H λx H1=>tl σ H1 λxs H2=>R (x::xs) H2):QK ta tl σ H R:=h
def agr{r:List V->Hp->VK->Prop}(h:tl σ H λvs H1=>r vs H1 Q):tCB r tl σ H Q:=h
def aeA(h:te σ H λx H1=>g x σ H1 nx):NX te g #[nx,rt,bk,ct] σ H:=h
def EZ(h1:b=true->A)(h2:b=false->B):if b=true then A else B:=by cases b;rw[if_neg kq];show h2 rfl;rw[if_pos rfl];show h1 rfl
def De{p:Prop}[Decidable p](h1:p->A)(h2:¬p->B):if decide p=true then A else B:=EZ (λh=>h1^of_decide_eq_true h) λh=>h2^of_decide_eq_false h
def aa1{p:Prop}[Decidable p](hp:p)(h:A):if decide p=true then A else B:=De (λ_=>h) λn=>absurd hp n
def aa2{p:Prop}[Decidable p](hp:¬p)(h:B):if decide p=true then A else B:=De (λn=>absurd n hp) λ_=>h
def Df{p:Prop}[Decidable p](h1:¬p->A)(h2:p->B):if(!decide p)=true then A else B:=EZ (λh=>h1^by simpa using h) λh=>h2 (by simpa using h)
def aa3{p:Prop}[Decidable p](hp:¬p)(h:A):if(!decide p)=true then A else B:=Df (λ_=>h) λn=>absurd n hp
def aa4{p:Prop}[Decidable p](hp:p)(h:B):if(!decide p)=true then A else B:=Df (λn=>absurd hp n) λ_=>h
def aeB(h:B):if(!true)=true then A else B:=aaQ h
def aeC(h:A):if(!false)=true then A else B:=SY h
def eV(H:Hp)(p:Addr)(o:HO)(H':Hp):Prop:=H p=none/\H'=upd H p o
def qE(H:Hp)(p:Addr)(o:HO)(H':Hp):Prop:=H'=upd H p o
def eV.self(n:eV H p o H'):H' p=some o:=by rw[n.2];show eT
def eV.keep{v:HO}(n:eV H p o H')(h:H q=some v):H' q=some v:=by rw[n.2,bH^aV h n.1];show h
def eV.same(n:eV H p o H'):aC H H':=λ_ _ h=>n.keep h
theorem eV.none(n:eV H p o H')(h:H' q=Option.none):H q=Option.none:=n.same.free h
def eV.ne{v:HO}(n:eV H p o H')(h:H q=some v):q≠p:=aV h n.1
def qE.self(n:qE H p o H'):H' p=some o:=by rw[show H'=upd H p o from n];show eT
def qE.keep{v:HO}(n:qE H p o H')(ne:q≠p)(h:H q=some v):H' q=some v:=by rw[show H'=upd H p o from n,bH ne];show h
def Ww(xs:List V)(H:Hp)(Q:VK):Prop:=xs.length<=sizeLine/\∀p,H p=none->Q (.ref p)^upd H p^.tup xs
def Wx(xs:List V)(H:Hp)(Q:VK):Prop:=xs.length<=sizeLine/\∀p,H p=none->Q (.ref p)^upd H p^.lst xs
def aeD(h:tl σ H λxs H1=>Ww xs H1 Q):Wb tl σ H Q:=h
def aeE(h:tl σ H λxs H1=>Wx xs H1 Q):Wc tl σ H Q:=h
def aa5(hz:xs.length<=1000)(h:∀p H',eV H p (.tup xs) H'->Q (.ref p) H'):Ww xs H Q:=#[bO hz^by decide,λp hp=>h p _ #[hp,rfl]]
def aa6(hz:xs.length<=1000)(h:∀p H',eV H p (.lst xs) H'->Q (.ref p) H'):Wx xs H Q:=#[bO hz^by decide,λp hp=>h p _ #[hp,rfl]]
def cL(hS:bB K H p xs)(hv:qU xs i=some v)(h:Q v H):SM K (.ref p) (.int i) H Q:=#[p,xs,i,v,rfl,rfl,hS,hv,h]
def uB(hS:cY K H p xs)(hv:qU xs i=some v)(h:Q v H):SO K (.ref p) (.int i) H Q:=#[p,xs,i,v,rfl,rfl,hS,hv,h]
def QX{z:Str}{ch:Nat}(hz:z.length<=1000)(hv:qU z.cps.toList i=some ch)(h:Q (.str #[#v[ch]]) H):Wg (.str z) (.int i) H Q:=#[z,i,ch,rfl,rfl,bO hz^by decide,hv,h]
def aa7(hS:bB K H p xs\/cY K H p xs)(h1:kB x=true)(h2:xs.all kB=true)(h:Q (.bl^pF x xs) H):Wi K false x (.ref p) H Q:=#[p,xs,rfl,hS,h1,h2,h]
def aeF(hS:bB K H p xs\/cY K H p xs)(h1:kB x=true)(h2:xs.all kB=true)(h:Q (.bl (!pF x xs)) H):Wi K true x (.ref p) H Q:=#[p,xs,rfl,hS,h1,h2,h]
def ags{r:V->List V->Hp->VK->Prop}(h:ta σ H λx H1=>VA K T x H1/\tl σ H1 λxs H2=>r x xs H2 Q):tBM K T r ta tl σ H Q:=h
def aeG{r:V->List V->Hp->VK->Prop}(h:ta σ H λx H1=>VA K T x H1/\r x [] H1 Q):Wj K T r ta σ H Q:=h
def Wy{y:V}(hl:H l=some^.lst xs)(hz:xs.length<1000000)(h:∀H',qE H l (.lst (xs++[y])) H'->Q .dD H'):ET (.ref l) [y] H Q:=#[l,xs,y,rfl,rfl,hl,bX hz^by decide,h _ rfl]
def s_pop{y:V}(hl:H l=some^.lst xs)(hy:xs[xs.length-1]?=some y)(h:∀H',qE H l (.lst xs.dropLast) H'->Q y H'):Wl (.ref l) [] H Q:=#[l,xs,y,rfl,rfl,hl,hy,h _ rfl]
def Wz(K:aF)(R:It->Hp->Prop):V->Hp->Prop:=λx H=>∃a,x=.ref a/\(∃xs,bB K H a xs)/\R (NB K a) H
def WA(K:aF)(R:It->Hp->Prop):V->Hp->Prop:=λx H=>∃a,x=.ref a/\(∃xs,cY K H a xs)/\R (NC K a) H
def aa8{tl:TE}(h:tl σ H^Wz K R):JG K tl σ H R:=h
def Zf{tl:TE}(h:tl σ H^WA K R):V3 K tl σ H R:=h
def Kq(hb:b=true)(h:A):if b=true then A else B:=EZ (λ_=>h) λn=>by rw[hb] at n;cases n
def Kr(hb:b=false)(h:B):if b=true then A else B:=EZ (λn=>by rw[hb] at n;cases n) λ_=>h
def S7(K:aF):List V->Hp->VK->Prop:=λxs H Q=>∃p ys,xs=[.ref p]/\(bB K H p ys\/cY K H p ys)/\Q (.int ys.length) H
def bx:dU X (.builtin "len")^S7 X.K:=yq
def aeH{ys:List V}(hS:bB K H p ys\/cY K H p ys)(h:Q (.int ys.length) H):S7 K [.ref p] H Q:=#[p,ys,rfl,hS,h]
def QY:List V->Hp->VK->Prop:=λxs H Q=>(∃i,xs=[.int i]/\Q (.int i) H)\/∃k,xs=[.bl k]/\Q (.int (if k then 1 else 0)) H
def kE:dU X (.type "int") QY:=GW
def aa9(h:Q (.int (if b then 1 else 0)) H):QY [.bl b] H Q:=.inr #[b,rfl,h]
def S8(K:aF):List V->Hp->VK->Prop:=λxs H Q=>∃x T t b,xs=[x,.ty T]/\oG K H x t/\PySem.W.kitOne K t^.type T=some b/\Q (.bl b) H
def wW:dU X (.builtin "isinstance")^S8 X.K:=Ko
def aeI{ty:Value}(ht:oG K H x ty)(e:PySem.W.kitOne K ty^.type T=some b)(h:Q (.bl b) H):S8 K [x,.ty T] H Q:=#[x,T,ty,b,rfl,ht,e,h]
def E1(K:aF):List V->Hp->VK->Prop:=λxs H Q=>∃p ys,xs=[.ref p]/\(bB K H p ys\/cY K H p ys)/\∀l,H l=none->Q (.ref l)^upd H l^.lst ys
def oH:dU X (.type "list")^E1 X.K:=yr
def WB{ys:List V}(hS:bB K H p ys\/cY K H p ys)(h:∀l H',eV H l (.lst ys) H'->Q (.ref l) H'):E1 K [.ref p] H Q:=#[p,ys,rfl,hS,λl hl=>h l _ #[hl,rfl]]
def WC(R:It->Hp->Prop):List V->Hp->Prop:=λvs H=>∃j:Int,vs=[.int j] /\ -(2 ^ 62)<=j/\j<2 ^ 62/\R (oX 0 j.toNat) H
def WD(h:tl σ H^WC R):QH tl σ H R:=h
def aeJ(h1:-(2 ^ 62)<=j)(h2:j<2 ^ 62)(h:R (oX 0 j.toNat) H):WC R [.int j] H:=#[j,rfl,h1,h2,h]
def QZ(J:It)(g:TG)(tb:TS)(nx:St->Hp->Prop)(rt:VK)(σ:St)(H:Hp):Prop:=∃W:Nat->Nat->St->Hp->Prop,(∃m,W 0 m σ H)/\∀i m σ H,W i m σ H ->
 (J.stop i H/\nx σ H)\/(J.go i H/\∃N:St->Hp->Prop,(∀σ' H',N σ' H'->∃m',m'<m/\W (i+1) m' σ' H')/\∀x H',J.Jr i H x H'->g x σ H' λσ2 H2=>tb #[N,rt,nx,N] σ2 H2)
def aeK{wi:TI}{tb:TS}(h:wi σ H λJ H1=>QZ J g tb nx rt σ H1):V4 wi g tb #[nx,rt,bk,ct] σ H:=h
def pH{lo:Int}{tb:TS}(Pv:Nat->St->Hp->Prop)(h0:Pv 0 σ H)
  (hs:∀i σ H,i<n->Pv i σ H->g (.int (lo+i)) σ H λσ2 H2=>tb #[Pv (i+1),rt,nx,Pv (i+1)] σ2 H2)(hd:∀σ H,Pv n σ H->nx σ H):QZ (oX lo n) g tb nx rt σ H :=
 GU (D:=#[nx,rt,nx,nx]) Pv h0 hs hd
def f_list{tb:TS}(Pv:Nat->St->Hp->Prop)(h0:Pv 0 σ H)(hl:∀i σ H,i<=xs.length->Pv i σ H->bB K H a xs)
  (hs:∀i x σ H,xs[i]?=some x->Pv i σ H->g x σ H λσ2 H2=>tb #[Pv (i+1),rt,nx,Pv (i+1)] σ2 H2)(hd:∀σ H,Pv xs.length σ H->nx σ H):QZ (NB K a) g tb nx rt σ H :=
 JI (D:=#[nx,rt,nx,nx]) Pv h0 hl hs hd
def f_tup{tb:TS}(Pv:Nat->St->Hp->Prop)(h0:Pv 0 σ H)(hl:∀i σ H,i<=xs.length->Pv i σ H->cY K H a xs)
  (hs:∀i x σ H,xs[i]?=some x->Pv i σ H->g x σ H λσ2 H2=>tb #[Pv (i+1),rt,nx,Pv (i+1)] σ2 H2)(hd:∀σ H,Pv xs.length σ H->nx σ H):QZ (NC K a) g tb nx rt σ H :=
 NZ (D:=#[nx,rt,nx,nx]) Pv h0 hl hs hd
def aba{gs:GR}{R:St->Hp->Prop}(hS:cY K H a xs)(hn:xs.length=n)(h:gs xs σ H R):Sq K n gs (.ref a) σ H R:=#[a,xs,rfl,hS,hn,h]
def Zg{gs:GR}{vs:List V}{R:St->Hp->Prop}(h:g v σ H λσ' H'=>gs vs σ' H' R):QG g gs (v::vs) σ H R:=#[v,vs,rfl,h]
def abb{R:St->Hp->Prop}(h:R σ H):V0 [] σ H R:=#[rfl,h]
def Zh(hS:bB K H p xs)(h:R (NB K p) H):Wz K R (.ref p) H:=#[p,rfl,#[xs,hS],h]
def abc(hS:cY K H p xs)(h:R (NC K p) H):WA K R (.ref p) H:=#[p,rfl,#[xs,hS],h]
def agt{tb:TS}{m:Nat}{W:Nat->St->Hp->Prop}(h:tb #[λσ' H'=>∃m',m'<m/\W m' σ' H',rt,nx,λσ' H'=>∃m',m'<m/\W m' σ' H'] σ H):∃N:St->Hp->Prop,(∀σ' H',N σ' H'->∃m',m'<m/\W m' σ' H')/\tb #[N,rt,nx,N] σ H:=#[_,λ_ _ h=>h,h]
def nD{tb:TS}(W:Nat->St->Hp->Prop)(h0:∃m,W m σ H)(hs:∀m σ H,W m σ H->c σ H λb H1=>if b=true then ∃N:St->Hp->Prop,(∀σ' H',N σ' H'->∃m',m'<m/\W m' σ' H')/\tb #[N,rt,nx,N] σ H1 else nx σ H1):JF c tb #[nx,rt,bk,ct] σ H:=#[W,h0,hs]
def Q0(t u:TS):TS:=S0 t u
def mK{rest:List Stmt}(h1:PS X st t)(h2:wI X rest u):wI X (st::rest)^Q0 t u:=jt h1 h2
def S9(h:t #[λσ' H'=>σ'=σ/\H'=H,rt,bk,ct] σ H)(k:u #[nx,rt,bk,ct] σ H):Q0 t u #[nx,rt,bk,ct] σ H:=#[_,h,λ_ _ e=>by rw[e.1,e.2];show k]
def qE.same{H0:Hp}(n:qE H p o H')(e:aC H0 H)(hp:H0 p=Option.none):aC H0 H':=λb v q=>n.keep (aV q hp)^e b v q
def aeL(hS:bB K H p xs)(h:A):VA K "list" (.ref p) H/\A:=#[.inl #[rfl,_,hS],h]
def abd{r:St}(h:Q v H):nT 0 (some v::r) H Q:=#[v,rfl,h]
def agu{r:St}{R:St->Hp->Prop}(h:R (some v::r) H):gQ 0 v (y::r) H R:=h
def abe{r:St}(h:Q v H):nT 1 (x0::some v::r) H Q:=#[v,rfl,h]
def agv{r:St}{R:St->Hp->Prop}(h:R (x0::some v::r) H):gQ 1 v (x0::y::r) H R:=h
def abf{r:St}(h:Q v H):nT 2 (x0::x1::some v::r) H Q:=#[v,rfl,h]
def agw{r:St}{R:St->Hp->Prop}(h:R (x0::x1::some v::r) H):gQ 2 v (x0::x1::y::r) H R:=h
def abg{r:St}(h:Q v H):nT 3 (x0::x1::x2::some v::r) H Q:=#[v,rfl,h]
def abh{r:St}{R:St->Hp->Prop}(h:R (x0::x1::x2::some v::r) H):gQ 3 v (x0::x1::x2::y::r) H R:=h
def abi{r:St}(h:Q v H):nT 4 (x0::x1::x2::x3::some v::r) H Q:=#[v,rfl,h]
def agx{r:St}{R:St->Hp->Prop}(h:R (x0::x1::x2::x3::some v::r) H):gQ 4 v (x0::x1::x2::x3::y::r) H R:=h
def abj{r:St}(h:Q v H):nT 5 (x0::x1::x2::x3::x4::some v::r) H Q:=#[v,rfl,h]
def agy{r:St}{R:St->Hp->Prop}(h:R (x0::x1::x2::x3::x4::some v::r) H):gQ 5 v (x0::x1::x2::x3::x4::y::r) H R:=h
def abk{r:St}(h:Q v H):nT 6 (x0::x1::x2::x3::x4::x5::some v::r) H Q:=#[v,rfl,h]
def agz{r:St}{R:St->Hp->Prop}(h:R (x0::x1::x2::x3::x4::x5::some v::r) H):gQ 6 v (x0::x1::x2::x3::x4::x5::y::r) H R:=h
def abl{r:St}(h:Q v H):nT 7 (x0::x1::x2::x3::x4::x5::x6::some v::r) H Q:=#[v,rfl,h]
def agA{r:St}{R:St->Hp->Prop}(h:R (x0::x1::x2::x3::x4::x5::x6::some v::r) H):gQ 7 v (x0::x1::x2::x3::x4::x5::x6::y::r) H R:=h
def abm{r:St}(h:Q v H):nT 8 (x0::x1::x2::x3::x4::x5::x6::x7::some v::r) H Q:=#[v,rfl,h]
def agB{r:St}{R:St->Hp->Prop}(h:R (x0::x1::x2::x3::x4::x5::x6::x7::some v::r) H):gQ 8 v (x0::x1::x2::x3::x4::x5::x6::x7::y::r) H R:=h
def abn{r:St}(h:Q v H):nT 9 (x0::x1::x2::x3::x4::x5::x6::x7::x8::some v::r) H Q:=#[v,rfl,h]
def agC{r:St}{R:St->Hp->Prop}(h:R (x0::x1::x2::x3::x4::x5::x6::x7::x8::some v::r) H):gQ 9 v (x0::x1::x2::x3::x4::x5::x6::x7::x8::y::r) H R:=h
def Zi{r:St}(h:Q v H):nT 10 (x0::x1::x2::x3::x4::x5::x6::x7::x8::x9::some v::r) H Q:=#[v,rfl,h]
def aeM{r:St}{R:St->Hp->Prop}(h:R (x0::x1::x2::x3::x4::x5::x6::x7::x8::x9::some v::r) H):gQ 10 v (x0::x1::x2::x3::x4::x5::x6::x7::x8::x9::y::r) H R:=h
def Zj{r:St}(h:Q v H):nT 11 (x0::x1::x2::x3::x4::x5::x6::x7::x8::x9::Oh::some v::r) H Q:=#[v,rfl,h]
def aeN{r:St}{R:St->Hp->Prop}(h:R (x0::x1::x2::x3::x4::x5::x6::x7::x8::x9::Oh::some v::r) H):gQ 11 v (x0::x1::x2::x3::x4::x5::x6::x7::x8::x9::Oh::y::r) H R:=h
def Zk{Zl:Option V}{r:St}(h:Q v H):nT 12 (x0::x1::x2::x3::x4::x5::x6::x7::x8::x9::Oh::Zl::some v::r) H Q:=#[v,rfl,h]
def aeO{Zl:Option V}{r:St}{R:St->Hp->Prop}(h:R (x0::x1::x2::x3::x4::x5::x6::x7::x8::x9::Oh::Zl::some v::r) H):gQ 12 v (x0::x1::x2::x3::x4::x5::x6::x7::x8::x9::Oh::Zl::y::r) H R:=h
end
end L2
namespace ZP
open PySem
variable {Q:Value->Shared->Prop}
def Src(t:Bool)(h:Heap)(a:Addr)(xs:Array Value):Prop:=match t with
 | true=>h.IsTuple a xs
 | false=>h.IsList a xs
def oX(t:Bool)(h:Heap)(it a:Addr)(i:Nat):Prop:=match t with
 | true=>h.IsTupleIter it a i
 | false=>h.IsListIter it a i
noncomputable def pI(t:Bool)(a:Addr):Obj:=match t with
 | true=>{ cls:=.type "tuple_iterator", data:=.fields #v[.ref a,.int 0 0] }
 | false=>{ cls:=.type "list_iterator", data:=.fields #v[.ref a,.int 0 0] }
section
variable {t:Bool}{xs:Array Value}
def Src.at(x:Src t h a xs)(k:∀o,h.get? a=some o->h'.get? a=some o):Src t h' a xs:=by cases t;let#[o,e,r]:=x;show#[o,k o e,r];let#[o,e,r]:=x;show#[o,k o e,r]
def Src.here(x:Src t h a xs):∃o,h.get? a=some o:=by cases t;let#[o,e,r]:=x;show#[o,e];let#[o,e,r]:=x;show#[o,e]
theorem Src.push(x:Src t h a xs)(o:Obj):Src t (h.push o) a xs:=x.at λ_ e=>dH _ e
def oX.at(x:oX t h it a i)(k:∀o,h.get? it=some o->h'.get? it=some o):oX t h' it a i:=by cases t;let#[o,e,r]:=x;show#[o,k o e,r];let#[o,e,r]:=x;show#[o,k o e,r]
def oX.here(x:oX t h it a i):∃o,h.get? it=some o/\∃vs,o.data=.fields vs:=by cases t;let#[o,e,c,d]:=x;show#[o,e,_,d];let#[o,e,c,d]:=x;show#[o,e,_,d]
def oX.new(e:h.get? it=some^pI t a):oX t h it a 0:=by cases t;show#[_,e,rfl,rfl];show#[_,e,rfl,rfl]
end
section
variable {t:Bool}{xs:Array Value}
def E2(x:Src t s.heap a xs)(q:Q (.ref s.heap.objs.size) { s with heap:=s.heap.push (pI t a) }):wpAny (model prog w) A (pyIter^.ref a) Q E s:=by cases t;show wpAny_pyIter_list x q;show wpAny_pyIter_tuple x q
def alive{T:Addr}{o:Obj}{Q:Option Obj->Shared->Prop}(ho:s.heap.get? T=some o)(h:Q (some o) s):wpAny (model prog w) A (loadIfAlive T) Q E s:=by
 have h':Q (s.heap.get? T) s:=by rw[ho];show h
 show λ_ _ _=>h'
def next_item{x:Value}(hit:oX t s.heap it a i)(hs:Src t s.heap a xs)(hx:xs[i]?=some x)
  (hQ:∀h',oX t h' it a (i+1)->Heap.SameBut it s.heap h'->Q x { s with heap:=h' }):wpAny (model prog w) A (Builtin.SmallTypes.nextOf^.ref it) Q E s:=by cases t;show wpAny_nextOf_list_item hit hs hx hQ;have hit:s.heap.IsTupleIter it a i:=hit;let#[o,ho,hc,hd]:=id hit;let#[ol,Dg,_,nl,hdl]:=id hs;unfold Builtin.SmallTypes.nextOf;show au^wpAny_callSpecial?_slot (name:=Str.ofString "__next__") hit.typeIs ye^wpAny_call_entry ye hit.typeIs F.entry_tuple_iterator_next ?_^F.args_tuple_iterator_next_1 _;change wpAny _ _ (field (.ref it) 0 >>= _) _ _ s;show au^wpAny_field ho hd (x:=.ref a) rfl ?_;change wpAny _ _ (if(Value.ref a==Value.none)=true then _ else _) _ _ s;rw[if_neg^show ¬((Value.ref a==Value.none)=true) from kq];change wpAny _ _ (field (.ref it) 1 >>= _) _ _ s;show au^wpAny_field ho hd (x:=.int i 0) rfl ?_;change wpAny _ _ (seqItems? (.ref a) >>= _) _ _ s;show au^wpAny_seqItems Dg hdl ?_;erw[jg,hx];show au^wpAny_setField ho hd (by simp)^aN #[x,rfl,aN^hQ _ ?_ (kQ ..)];show#[_,gI _ ho^kY^fB hd _,(nu ..).trans hc,by rw[fB hd];simp[rawInt]]
def next_end(hh:A.handled=none)(hit:oX t s.heap it a i)(hs:Src t s.heap a xs)(hx:xs[i]?=none)
  (hE:∀h' e,Heap.ExtBut it s.heap h'->(∃o,h'.get? e=some o/\o.cls=.type "StopIteration")->E (.ref e) { s with heap:=h' }):wpAny (model prog w) A (Builtin.SmallTypes.nextOf^.ref it) Q E s:=by
 cases t;show wpAny_nextOf_list_end hh hit hs hx hE
 .have hit:s.heap.IsTupleIter it a i:=hit;let#[o,ho,hc,hd]:=id hit;let#[ol,Dg,_,nl,hdl]:=id hs;unfold Builtin.SmallTypes.nextOf;show au^wpAny_callSpecial?_slot (name:=Str.ofString "__next__") hit.typeIs ye^wpAny_call_entry ye hit.typeIs F.entry_tuple_iterator_next ?_^F.args_tuple_iterator_next_1 _;change wpAny _ _ (field (.ref it) 0 >>= _) _ _ s;show au^wpAny_field ho hd (x:=.ref a) rfl ?_;change wpAny _ _ (if(Value.ref a==Value.none)=true then _ else _) _ _ s;rw[if_neg^show ¬((Value.ref a==Value.none)=true) from kq];change wpAny _ _ (field (.ref it) 1 >>= _) _ _ s;show au^wpAny_field ho hd (x:=.int i 0) rfl ?_;change wpAny _ _ (seqItems? (.ref a) >>= _) _ _ s;show au^wpAny_seqItems Dg hdl ?_;erw[jg,hx];show au^wpAny_rule^au^wpAny_setField ho hd (by simp) ?_;change wpAny _ _ (newExc (.type "StopIteration") [] >>= _) _ _ _;show au ?_;erw[newExc,newTuple];show au (wpAny_newObj_type ?_^by size_fits);show au (m:=firstArgMember _ _)^wpAny_of_eq (a:=Value.none) (by first|rfl|(erw[firstArgMember];rfl)) ?_;show wpAny_newObj_type ?_ (by size_fits);erw[raiseNew];show au^wpAny_handled ?_
  first|rw[show A.in1.handled=none from hh]|rw[hh]
  show au^aN^wpAny_throw ?_;show hE _ _ (((kQ ..).extBut.push _).push _) #[_,iX _ rfl,rfl]
end
abbrev ZO(h:Heap)(z TI TO:Addr)(f0:Value)(f:Bool):Prop :=
 h.get? z=some { cls:=.type "zip", dict:=none,data:=.fields #v[f0,.bool f,.bool false,.ref TI,.ref TO],slots:=#[] }
structure Zs (t1 t2:Bool) (TI TO i1 i2 l1 l2:Addr) (i:Nat) (h:Heap):Prop where
 ti:IsPair h TI (.ref i1)^.ref i2
 to:∃a b,IsPair h TO a b
 a1:oX t1 h i1 l1 i
 a2:oX t2 h i2 l2 i
def Zs.keep{TI TO i1 i2:Addr}(x:Zs t1 t2 TI TO i1 i2 l1 l2 i h)(k:∀b,b=TI\/b=TO\/b=i1\/b=i2->∀o,h.get? b=some o->h'.get? b=some o):Zs t1 t2 TI TO i1 i2 l1 l2 i h' :=
 #[k _ (.inl rfl) _ x.ti,let⟨a,b,e⟩:=x.to;#[a,b,k _ (.inr^.inl rfl) _ e],x.a1.at λo e=>k _ (.inr^.inr^.inl rfl) o e,x.a2.at λo e=>k _ (.inr^.inr^.inr rfl) o e]
def Rest(z TO i1 i2:Addr)(h h':Heap):Prop:=∀c o,c≠z->c≠TO->c≠i1->c≠i2->h.get? c=some o->h'.get? c=some o
section
variable {TI TO i1 i2:Addr}{xs:Array Value}{x y:Value}
def Ks(D:ZipApart z TI TO i1 i2 l1 l2)(hz:ZO s.heap z TI TO .none false)(st:Zs t1 t2 TI TO i1 i2 l1 l2 i s.heap)(hl1:Src t1 s.heap l1 xs)(hl2:Src t2 s.heap l2 ys)(hx:xs[i]?=some x)(hy:ys[i]?=some y)
  (hQ:∀h',ZO h' z TI TO (rawInt s.heap.objs.size) false->Zs t1 t2 TI TO i1 i2 l1 l2 (i+1) h'->IsPair h' s.heap.objs.size x y->h'.objs.size=s.heap.objs.size+1->Rest z TO i1 i2 s.heap h'->Q (.ref s.heap.objs.size) { s with heap:=h' }):
  wpAny (model prog w) A (Builtin.«zip.__next__» #[[.ref z],[]]) (λfin s'=>∃v,fin=.done^.ret v/\Q v s') E s:=by
 let#[hTI,#[a,b,hTO],h1,h2]:=st;change wpAny _ _ (field (.ref z) 2 >>= _) _ _ _;show au^wpAny_field hz rfl (x:=.bool false) rfl ?_;change wpAny _ _ (field (.ref z) 3 >>= _) _ _ _;show au^wpAny_field hz rfl (x:=.ref TI) rfl ?_;show au^wpAny_seqItems hTI rfl ?_;change wpAny _ _ (Builtin.SmallTypes.ownedTupleIsFree (.ref z) >>= _) _ _ _;show au ?_;unfold Builtin.SmallTypes.ownedTupleIsFree;show au^wpAny_field hz rfl (x:=.none) rfl^aN ?_;erw[if_true];show au^wpAny_rule ?_;show au^wpAny_field hz rfl (x:=.ref TO) rfl ?_;show au (wpAny_setField_rec hz (by simp) λh₁ Oi hs₁=>?_);replace Oi:ZO h₁ z TI TO .ellipsis false:=Oi;show au ?_;erw[List.zipIdx_cons,List.zipIdx_nil,lY,qJ];show au^au^wpAny_onRaise ?_;change wpAny _ _ (Builtin.SmallTypes.nextOf (.ref i1) >>= _) _ _ _;show au (next_item (h1.at λo e=>hs₁.extBut _ o D.i1z e) (hl1.at λo e=>hs₁.extBut _ o D.l1z e) hx λh₂ Zm hs₂=>aN ?_);have Ku:IsPair h₂ TO a b:=hs₂.extBut _ _ D.TOi1^hs₁.extBut _ _ D.TOz hTO;show au^wpAny_seqItems Ku rfl ?_;show au (wpAny_updateSeq_pair Ku λh₃ Oj zJ=>?_);replace Oj:IsPair h₃ TO x b:=Oj;show au^wpAny_letGo^aN ?_;show au^au^wpAny_onRaise ?_;change wpAny _ _ (Builtin.SmallTypes.nextOf (.ref i2) >>= _) _ _ _;show au (next_item (h2.at λo e=>zJ.extBut _ o D.TOi2.symm^hs₂.extBut _ o D.i12.symm^hs₁.extBut _ o D.i2z e)
  (hl2.at λo e=>zJ.extBut _ o D.l2TO^hs₂.extBut _ o D.l2i1^hs₁.extBut _ o D.l2z e) hy λh₄ h2₄ Q2=>aN ?_)
 have WE:IsPair h₄ TO x b:=Q2.extBut _ _ D.TOi2 Oj;show au^wpAny_seqItems WE rfl ?_;show au (wpAny_updateSeq_pair WE λh₅ Ol Q3=>?_);replace Ol:IsPair h₅ TO x y:=Ol;show au^wpAny_letGo^aN^aN ?_;show au^wpAny_seqItems Ol rfl ?_;show au^wpAny_newTuple ?_;have hsz:h₅.objs.size=s.heap.objs.size:=by rw[Q3.1,Q2.1,zJ.1,hs₂.1,hs₁.1]
 have hz₅:ZO h₅ z TI TO .ellipsis false:=Q3.extBut _ _ D.TOz.symm^Q2.extBut _ _ D.i2z.symm^zJ.extBut _ _ D.TOz.symm^hs₂.extBut _ _ D.i1z.symm Oi;have hk₅:Rest z TO i1 i2 s.heap h₅:=λc o c1 c2 c3 c4 e=>Q3.extBut _ _ c2^Q2.extBut _ _ c4^zJ.extBut _ _ c2^hs₂.extBut _ _ c3^hs₁.extBut _ _ c1 e;have h1₅:oX t1 h₅ i1 l1 (i+1):=Zm.at λo e=>Q3.extBut _ o D.TOi1.symm^Q2.extBut _ o D.i12^zJ.extBut _ o D.TOi1.symm e;have h2₅:oX t2 h₅ i2 l2 (i+1):=h2₄.at λo e=>Q3.extBut _ o D.TOi2.symm e;have WG:z<h₅.objs.size:=aK hz₅;change wpAny _ _ (Builtin.SmallTypes.ownedTupleHandOut (.ref z) (.ref h₅.objs.size) >>= _) _ _ _;show au ?_;unfold Builtin.SmallTypes.ownedTupleHandOut;have hz₆:ZO (h₅.push { cls:=.type "tuple", data:=.seq #v[x,y] }) z TI TO .ellipsis false:=dH _ hz₅;show au (wpAny_setField_rec hz₆ (by simp) λh₇ hz₇ hs₇=>?_);replace hz₇:ZO h₇ z TI TO (rawInt h₅.objs.size) false:=hz₇;show wpAny_setField_rec hz₇ (by simp) λh₈ Zn hs₈=>?_;replace Zn:ZO h₈ z TI TO (rawInt h₅.objs.size) false:=Zn;have up:∀c o,c≠z->h₅.get? c=some o->h₈.get? c=some o:=λc o c1 e=>hs₈.extBut _ _ c1^hs₇.extBut _ _ c1^dH _ e;have hT₈:IsPair h₈ h₅.objs.size x y:=hs₈.extBut _ _ (jU WG)^hs₇.extBut _ _ (jU WG)^iX _ rfl;have hz8:h₈.objs.size=h₅.objs.size+1:=by rw[hs₈.1,hs₇.1,iJ]
 rw[hsz] at Zn hT₈ hz8;show aN #[_,rfl,?_];change Q (.ref h₅.objs.size) _;rw[hsz];show hQ h₈ Zn #[up _ _ D.TIz^hk₅ _ _ D.TIz D.TITO D.TIi1 D.TIi2 hTI,#[x,y,up _ _ D.TOz Ol],h1₅.at λo e=>up _ o D.i1z e,h2₅.at λo e=>up _ o D.i2z e] hT₈ hz8 λc o c1 c2 c3 c4 e=>up c o c1^hk₅ c o c1 c2 c3 c4 e
def Om{f:Bool}{f0:Value}{Q:Fin->Shared->Prop}(hf:f0=.none\/∃(T:Addr)(oT:Obj),f0=rawInt T/\s.heap.get? T=some oT)(hh:A.handled=none)(D:ZipApart z TI TO i1 i2 l1 l2)(hz:ZO s.heap z TI TO f0 f)(st:Zs t1 t2 TI TO i1 i2 l1 l2 i s.heap)(hl1:Src t1 s.heap l1 xs)(hl2:Src t2 s.heap l2 ys)
  (hend:xs[i]?=none\/ys[i]?=none)
  (hE:∀h' e,Rest z TO i1 i2 s.heap h'->(∃o,h'.get? e=some o/\o.cls=.type "StopIteration")->E (.ref e) { s with heap:=h' }):
  wpAny (model prog w) A (Builtin.«zip.__next__» #[[.ref z],[]]) Q E s:=by
 let#[hTI,#[a,b,hTO],h1,h2]:=st;change wpAny _ _ (field (.ref z) 2 >>= _) _ _ _;show au^wpAny_field hz rfl (x:=.bool false) rfl ?_;change wpAny _ _ (field (.ref z) 3 >>= _) _ _ _;show au^wpAny_field hz rfl (x:=.ref TI) rfl ?_;show au^wpAny_seqItems hTI rfl ?_;change wpAny _ _ (Builtin.SmallTypes.ownedTupleIsFree (.ref z) >>= _) _ _ _;show au ?_;unfold Builtin.SmallTypes.ownedTupleIsFree;rcases hf with rfl|⟨T,oT,rfl,hT⟩
 .show au^wpAny_field hz rfl (x:=.none) rfl^aN ?_;erw[if_true];show au^wpAny_rule ?_;show au^wpAny_field hz rfl (x:=.ref TO) rfl ?_;show au (wpAny_setField_rec hz (by simp) λh₁ Oi hs₁=>?_);replace Oi:ZO h₁ z TI TO .ellipsis f:=Oi;show au ?_;erw[List.zipIdx_cons,List.zipIdx_nil,lY,qJ];show au^au^wpAny_onRaise ?_;change wpAny _ _ (Builtin.SmallTypes.nextOf (.ref i1) >>= _) _ _ _;cases hx:xs[i]? with
  | none =>
   show au (next_end hh (h1.at λo e=>hs₁.extBut _ o D.i1z e) (hl1.at λo e=>hs₁.extBut _ o D.l1z e) hx λh₂ e hs₂ he=>?_);let#[oe,Tc,hce]:=he;have hz₂:ZO h₂ z TI TO .ellipsis f:=hs₂ _ _ D.i1z.symm Oi;have hez:e≠z:=λx=>by subst x;rw[hz₂] at Tc;cases Tc;simp at hce
   show wpAny_setField_rec hz₂ (by simp) λh₃ _ zJ=>hE h₃ e (λc o c1 _ c3 _ x=>zJ.extBut _ _ c1^hs₂ _ _ c3^hs₁.extBut _ _ c1 x) #[oe,zJ.extBut _ _ hez Tc,hce]
  | some x =>
   have hy:ys[i]?=none:=by rcases hend with h|h;rw[hx] at h;cases h;show h
   show au (next_item (h1.at λo e=>hs₁.extBut _ o D.i1z e) (hl1.at λo e=>hs₁.extBut _ o D.l1z e) hx λh₂ Zm hs₂=>aN ?_);have Ku:IsPair h₂ TO a b:=hs₂.extBut _ _ D.TOi1^hs₁.extBut _ _ D.TOz hTO;show au^wpAny_seqItems Ku rfl ?_;show au (wpAny_updateSeq_pair Ku λh₃ Oj zJ=>?_);show au^wpAny_letGo^aN ?_;show au^au^wpAny_onRaise ?_;change wpAny _ _ (Builtin.SmallTypes.nextOf (.ref i2) >>= _) _ _ _;show au (next_end hh (h2.at λo e=>zJ.extBut _ o D.TOi2.symm^hs₂.extBut _ o D.i12.symm^hs₁.extBut _ o D.i2z e)
    (hl2.at λo e=>zJ.extBut _ o D.l2TO^hs₂.extBut _ o D.l2i1^hs₁.extBut _ o D.l2z e) hy λh₄ e Q2 he=>?_)
   let#[oe,Tc,hce]:=he;have hz₄:ZO h₄ z TI TO .ellipsis f:=Q2 _ _ D.i2z.symm^zJ.extBut _ _ D.TOz.symm^hs₂.extBut _ _ D.i1z.symm Oi;have hez:e≠z:=λx=>by subst x;rw[hz₄] at Tc;cases Tc;simp at hce
   show wpAny_setField_rec hz₄ (by simp) λh₅ _ Q3=>hE h₅ e (λc o c1 c2 c3 c4 x=>Q3.extBut _ _ c1^Q2 _ _ c4^zJ.extBut _ _ c2^hs₂.extBut _ _ c3^hs₁.extBut _ _ c1 x) #[oe,Q3.extBut _ _ hez Tc,hce]
 .show au^wpAny_field hz rfl (x:=rawInt T) rfl ?_;change wpAny _ _ (loadIfAlive ((T:Int).toNat) >>= _) _ _ _;rw[jg];show au^alive hT ?_;erw[Option.isNone_some,bW,if_false];show au^wpAny_field hz rfl (x:=.bool f) rfl ?_;cases f
  .rw[if_pos^by decide];show au (wpAny_setField_rec hz (by simp) λh₁ Oi hs₁=>aN ?_);rw[if_neg^by decide];show au ?_;simp only[<- oZ,lY,qJ];show au^au^wpAny_holding ?_;change wpAny _ _ (Builtin.SmallTypes.nextOf (.ref i1) >>= _) _ _ _;cases hx:xs[i]? with
   | none=>show au (next_end hh (h1.at λo e=>hs₁.extBut _ o D.i1z e) (hl1.at λo e=>hs₁.extBut _ o D.l1z e) hx λh₂ e hs₂ he=>hE h₂ e (λc o c1 _ c3 _ x=>hs₂ _ _ c3^hs₁.extBut _ _ c1 x) he)
   | some x =>
    have hy:ys[i]?=none:=by rcases hend with h|h;rw[hx] at h;cases h;show h
    show au (next_item (h1.at λo e=>hs₁.extBut _ o D.i1z e) (hl1.at λo e=>hs₁.extBut _ o D.l1z e) hx λh₂ Zm hs₂=>aN ?_);show aN^au^au^wpAny_holding ?_;change wpAny _ _ (Builtin.SmallTypes.nextOf (.ref i2) >>= _) _ _ _;show au (next_end hh (h2.at λo e=>hs₂.extBut _ o D.i12.symm^hs₁.extBut _ o D.i2z e) (hl2.at λo e=>hs₂.extBut _ o D.l2i1^hs₁.extBut _ o D.l2z e) hy λh₃ e zJ he=>hE h₃ e (λc o c1 _ c3 c4 x=>zJ _ _ c4^hs₂.extBut _ _ c3^hs₁.extBut _ _ c1 x) he)
  .rw[if_neg^by decide];show aN ?_;let h₁:=s.heap;have hs₁:Heap.SameBut z s.heap s.heap:=Heap.SameBut.refl ..;rw[if_neg^by decide];show au ?_;simp only[<- oZ,lY,qJ];show au^au^wpAny_holding ?_;change wpAny _ _ (Builtin.SmallTypes.nextOf (.ref i1) >>= _) _ _ _;cases hx:xs[i]? with
   | none=>show au (next_end hh (h1.at λo e=>hs₁.extBut _ o D.i1z e) (hl1.at λo e=>hs₁.extBut _ o D.l1z e) hx λh₂ e hs₂ he=>hE h₂ e (λc o c1 _ c3 _ x=>hs₂ _ _ c3^hs₁.extBut _ _ c1 x) he)
   | some x =>
    have hy:ys[i]?=none:=by rcases hend with h|h;rw[hx] at h;cases h;show h
    show au (next_item (h1.at λo e=>hs₁.extBut _ o D.i1z e) (hl1.at λo e=>hs₁.extBut _ o D.l1z e) hx λh₂ Zm hs₂=>aN ?_);show aN^au^au^wpAny_holding ?_;change wpAny _ _ (Builtin.SmallTypes.nextOf (.ref i2) >>= _) _ _ _;show au (next_end hh (h2.at λo e=>hs₂.extBut _ o D.i12.symm^hs₁.extBut _ o D.i2z e) (hl2.at λo e=>hs₂.extBut _ o D.l2i1^hs₁.extBut _ o D.l2z e) hy λh₃ e zJ he=>hE h₃ e (λc o c1 _ c3 c4 x=>zJ _ _ c4^hs₂.extBut _ _ c3^hs₁.extBut _ _ c1 x) he)
def Oo{Q:Option Value->Shared->Prop}{Q':Value->Shared->Prop}(hT:s.TypeIs (.ref z) "zip")(h:wpAny (model prog w) A.in1 (Builtin.«zip.__next__» #[[.ref z],[]]) (λfin s'=>∃v,fin=.done^.ret v/\Q' v s') (λ_ _=>False) s)(q:∀v s',Q' v s'->Q (some v) s'):wpAny (model prog w) A (pyNext^.ref z) Q E s:=by unfold pyNext;show au^wpAny_attempt^wpAny_callSpecial?_slot (name:=Str.ofString "__next__") hT F.slot_zip_next^wpAny_call_entry F.slot_zip_next hT F.entry_zip_next (wpAny_mono h (λfin s' h'=>?_) λ_ _ h'=>h'.elim)^F.args_zip_next_1 _;let#[v,rfl,h']:=h';show#[v,rfl,aN^q v s' h']
def Td{Q:Option Value->Shared->Prop}(hT:s.TypeIs (.ref z) "zip")(h:wpAny (model prog w) A.in1 (Builtin.«zip.__next__» #[[.ref z],[]]) (λ_ _=>False) (λe s'=>∃a o,e=.ref a/\s'.heap.get? a=some o/\o.cls=.type "StopIteration" /\ Q none s') s):wpAny (model prog w) A (pyNext^.ref z) Q E s:=by unfold pyNext;show au^wpAny_attempt^wpAny_callSpecial?_slot (name:=Str.ofString "__next__") hT F.slot_zip_next^wpAny_call_entry F.slot_zip_next hT F.entry_zip_next (wpAny_mono h (λ_ _ h'=>h'.elim) λe s' h'=>?_)^F.args_zip_next_1 _;let#[a,o,rfl,ho,hc,q]:=h';show au^wpAny_isInstance (T := "StopIteration") (b:=true) #[o,ho,hc] isSubtype_stop ?_;show aN q
end
section
variable {xs:Array Value}
abbrev Zo(t1:Bool)(h:Heap)(l1:Addr):Heap:=h.push^pI t1 l1
noncomputable abbrev Zp(t1 t2:Bool)(h:Heap)(l1 l2:Addr):Heap:=(Zo t1 h l1).push^pI t2 l2
noncomputable abbrev Zq(t1 t2:Bool)(h:Heap)(l1 l2:Addr):Heap:=(Zp t1 t2 h l1 l2).push { cls:=.type "tuple", data:=.seq #v[.ref h.objs.size,.ref (Zo t1 h l1).objs.size] }
noncomputable abbrev Zr(t1 t2:Bool)(h:Heap)(l1 l2:Addr):Heap:=(Zq t1 t2 h l1 l2).push { cls:=.type "tuple", data:=.seq #v[.none,.none] }
noncomputable abbrev Te(t1 t2:Bool)(h:Heap)(l1 l2:Addr):Heap:=(Zr t1 t2 h l1 l2).push { cls:=.type "zip", data:=.fields #v[.none,.bool false,.bool false,.ref (Zp t1 t2 h l1 l2).objs.size,.ref (Zq t1 t2 h l1 l2).objs.size] }
def G7(t1 t2:Bool)(l1 l2:Addr)(xs ys:Array Value):
  Meets (Builtin.«zip.__new__» #[[.type "zip", .ref l1,.ref l2],[]]) (λ_ R s=>Src t1 s.heap l1 xs/\Src t2 s.heap l2 ys /\
   R (.ok^.ret^.ref (Zr t1 t2 s.heap l1 l2).objs.size) { s with heap:=Te t1 t2 s.heap l1 l2 }) :=
 .of_wp λprog w A R s h=>by
  let#[hp,g,d,tk,os]:=s;let#[hl1,hl2,h]:=h;have hsub:=sub_zip;have Tf:Src t1 (Shared.heap #[hp,g,d,tk,os]) l1 xs:=hl1;have Q4:Src t2 (Shared.heap #[hp.push^pI t1 l1,g,d,tk,os]) l2 ys:=Src.push hl2 _
  wp_walk using E2 Tf,E2 Q4
  show#[_,rfl,h]
def Kv(hl1:Src t1 s.heap l1 xs)(hl2:Src t2 s.heap l2 ys)
  (h:∀h',ZO h' (s.heap.objs.size+4) (s.heap.objs.size+2) (s.heap.objs.size+3) .none false->Zs t1 t2 (s.heap.objs.size+2) (s.heap.objs.size+3) s.heap.objs.size (s.heap.objs.size+1) l1 l2 0 h' ->
   h'.objs.size=s.heap.objs.size+5->(∀c o,s.heap.get? c=some o->h'.get? c=some o)->Q (.ref (s.heap.objs.size+4)) { s with heap:=h' }):
  wpAny (model prog w) A (call (.type "zip") [.ref l1,.ref l2]) Q E s:=by
 show callType_new F.called_zip (by decide) (F.typeCall_zip_2 _ _) (F.newCall_zip_2 _ _) (λobj=>F.args_object_init_3 obj _ _) F.entry_zip_new
  (G7 t1 t2 l1 l2 xs ys) #[hl1,hl2,?_]
 have z1:(Zo t1 s.heap l1).objs.size=s.heap.objs.size+1:=iJ ..;have z2:(Zp t1 t2 s.heap l1 l2).objs.size=s.heap.objs.size+2:=by rw[iJ,z1]
 have z3:(Zq t1 t2 s.heap l1 l2).objs.size=s.heap.objs.size+3:=by rw[iJ,z2]
 have z4:(Zr t1 t2 s.heap l1 l2).objs.size=s.heap.objs.size+4:=by rw[iJ,z3]
 have z5:(Te t1 t2 s.heap l1 l2).objs.size=s.heap.objs.size+5:=by rw[iJ,z4]
 have g5:(Te t1 t2 s.heap l1 l2).get? (Zr t1 t2 s.heap l1 l2).objs.size=some _:=iX _ rfl;have g4:(Te t1 t2 s.heap l1 l2).get? (Zq t1 t2 s.heap l1 l2).objs.size=some _:=dH _^iX _ rfl;have g3:(Te t1 t2 s.heap l1 l2).get? (Zp t1 t2 s.heap l1 l2).objs.size=some _:=dH _^dH _^iX _ rfl;have r2:(pI t2 l2).isFreed=false:=by cases t2<;>rfl
 have r1:(pI t1 l1).isFreed=false:=by cases t1<;>rfl
 have g2:(Te t1 t2 s.heap l1 l2).get? (Zo t1 s.heap l1).objs.size=some^pI t2 l2:=dH _^dH _^dH _^iX _ r2;have g1:(Te t1 t2 s.heap l1 l2).get? s.heap.objs.size=some^pI t1 l1:=dH _^dH _^dH _^dH _^iX _ r1;change _/\_;rw[z2,z3,z4] at g5;rw[z1,z2] at g3;rw[z3] at g4;rw[z1] at g2;rw[z4];show#[#[_,g5,rfl],h _ g5 #[g3,#[_,_,g4],oX.new g1,oX.new g2] z5 λc o x =>
  dH _^dH _^dH _^dH _^dH _ x]
end
section
variable {St:Heap->Prop}
end
end ZP
def BT.WH:PySem.bootBuiltins "zip" = some^.type "zip":=by decide +kernel
namespace L2
variable {p:Addr}{R:Option Int->Hp->Prop}{i:Int}
section
variable {σ:St}
def Inv.sO(I:Inv X u5 σ H s)(k:∀b o,b∉fp->s.heap.get? b=some o->h'.get? b=some o)(hf:∀b∈fp,gU X u5 H b):Inv X u5 σ H { s with heap:=h',toks:=t' }:=by
 have VS:∀b u,H b=some u->b∉fp:=λb u e z=>by rw[(hf b z).1] at e;cases e
 show I.step (g':=s.gens) (d':=s.drawn) (ch:=fp) (λb hb=>?_) (λb o _ _ hc e _=>k b o hc e) (λb o _ _ hc e _=>#[o.slots,k b o hc e]) (λ_ _ _ _ n=>n)
  (λb o hc e=>#[o,k b o hc e]) (λ_ _ e=>e) (λ_ _ _ e=>e) (λb ps e=>#[#[],by rw[e];simp]) (λm hm=>?_) (λb u e=>?_) I.bare
 .show#[(hf b hb).2.2.2.1,(hf b hb).2.1,(hf b hb).2.2.2.2.1,(hf b hb).2.2.2.2.2]
 .let#[o,es,ep,ho,r]:=hm;show#[o,es,ep,k _ o (λz=>(hf _ z).2.1 rfl) ho,r]
 .show(I.hok b u e).stay (λc v hc q=>k c v ?_ q) (λ_ q=>q) λ_ _ q=>q;rcases hc with z|z;rw[z];show VS b u e;show VS c _ z
def G8(t:Bool)(K:aF)(H:Hp)(a:Addr)(xs:List V):Prop:=match t with
 | true=>cY K H a xs
 | false=>bB K H a xs
def Inv.src{t:Bool}(I:Inv X u5 σ H s)(h:G8 t X.K H a xs):∃its:List Value,Vals xs its/\ZP.Src t s.heap a its.toArray/\xs.length<=sizeLine:=by cases t;let#[its,r,pl,z]:=I.list h;show#[its,r,pl.isList,z];let#[its,r,pl,z]:=I.tuple h;show#[its,r,pl,z]
theorem uC:j7 X (binaryOp .FloorDiv) (rI (λ_ j=>0<j/\j<18446744073709551616) λi j=>.int (i / j)):=Sv λi j _ _ _ _ _ hc q=>by have h1:(0:Int)<j:=hc.1;have h2:j<18446744073709551616:=hc.2;show floordiv_int ∅ (by rw[Int.fdiv_eq_ediv_of_nonneg i ∅];show q) (.inl^PyProof.noPylong_of_log2 ?_);have h3:j.natAbs.log2<64:=(Nat.log2_lt ∅).mpr ∅;lia
end
section
variable {nx bk ct:St->Hp->Prop}{σ:St}{t u:TS}
def Q5(R:Option Int->Hp->Prop):V->Hp->Prop:=λx H=>∃i,x=.int i/\R (some i) H
def abt(h:te σ H^Q5 R):QN te σ H R:=h
def Zt(h:R (some i) H):Q5 R (.int i) H:=#[i,rfl,h]
def WI(h:R none H):EO σ H R:=h
end
def wg{α:Type}(P:α->Prop):List α->Prop
 | []=>True
 | a::l=>P a/\wg P l
theorem wg.mem{α:Type}{P:α->Prop}:∀{l:List α},wg P l->∀a∈l,P a
 | [],_,a,h=>nomatch h
 | b::l,hl,a,h=>by rcases aH.mp h with e|h;rw[e];show hl.1;show wg.mem hl.2 a h
theorem bA.caps{nm:List Str}(calm:X.calm=true)(clos:closureFor scope X.env=pure cl)(cell:∀y∈scope.names,y.2≠.cell)(kind:scope.kind=.function)
  (names:∀y∈scope.names,y.2=.local->scope.names.lookup y.1=some .local)(loc:scope.names.lookup x=some .local)(nd:(x::fr).Nodup)
  (hcl:wg (λp=>X.env.cells.lookup p.1=some p.2) cl)(hnm:cl.map (·.1)=nm)(hfree:∀z∈scope.names,z.2=.free->z.1∈nm)(hlen:fr.length=ix.length)
  (hfx:wg (λp=>X.N[p.2]?=some p.1/\X.env.kindOf p.1=some .cell/\(relabel scope X.env).names.lookup p.1=some .cell)^fr.zip ix):bA X scope cl x fr ix where
 calm:=calm
 clos:=clos
 cell:=cell
 kind:=kind
 names:=names
 loc:=loc
 nd:=nd
 Kh:=λy c h=>hcl.mem (y,c) (g8 h)
 Oe:=λy h=>by
  have mem:∀{k:NameKind},(relabel scope X.env).names.lookup y=some k->∃z∈scope.names,(if(z.2==.free&&X.env.scope.kind==.function&&X.env.kindOf z.1==some .cell) then(z.1,NameKind.cell) else(z.1,z.2))=(y,k):=λ{k} e=>by have q:=g8 e;let#[z,hz,e]:=aD.mp q;show#[z,hz,e]
  have key:∃z∈scope.names,z.1=y/\z.2=.free:=by
   rcases h with h|h
   .let#[z,hz,e]:=mem h;show#[z,hz,?_];by_cases hf:(z.2==NameKind.free)=true
    .show#[?_,by cases hk:z.2<;>rw[hk] at hf<;>first|rfl|cases hf];split at e;show congrArg Prod.fst e;show congrArg Prod.fst e
    .exfalso;rw[Bool.not_eq_true] at hf;rw[hf,tU,tU,if_neg kq] at e;show cell z hz^congrArg Prod.snd e
   .let#[z,hz,e]:=mem h;show#[z,hz,?_];split at e;show absurd (congrArg Prod.snd e) (by intro q;cases q);show#[congrArg Prod.fst e,congrArg Prod.snd e]
  let#[z,hz,rfl,hk]:=key;have hm:=hfree z hz hk;rw[<- hnm] at hm;let#[p,hp,e]:=aD.mp hm;cases q:cl.lookup z.1 with
  | some c=>show#[c,rfl]
  | none =>
   exfalso;have:=List.lookup_eq_none_iff.mp q p hp;rw[e] at this;simp at this
 fx:=λj y h=>by
  have hj:j<fr.length:=(eX h).1;have hi:ix[j]?=some (ix[j]'∅):=by simp
  have hz:(y,ix[j]'∅)∈fr.zip ix:=eY (i:=j) (by rw[oz];show#[h,hi]);let#[a,b,c]:=hfx.mem _ hz;show#[_,hi,a,.inl b,.inl c]
 len:=hlen
section
variable {nx bk ct:St->Hp->Prop}{σ:St}{P:Bool->Hp->Prop}{t u:TS}
def Oq:R2:=λx y H Q=>y=.dD/\Q (.bl (decide (x=.dD))) H
def E3:R2:=λx y H Q=>y=.dD/\Q (.bl (!decide (x=.dD))) H
def yz:j7 X (compareOp .Is) Oq:=Sy
def pJ:j7 X (compareOp .IsNot) E3:=N4
def abu(h:Q (.bl true) H):Oq .dD .dD H Q:=#[rfl,h]
def abv(h:Q (.bl false) H):Oq (.ref a) .dD H Q:=#[rfl,h]
def abw(h:Q (.bl false) H):Oq (.int i) .dD H Q:=#[rfl,h]
def Zu(h:Q (.bl false) H):E3 .dD .dD H Q:=#[rfl,h]
def Zv(h:Q (.bl true) H):E3 (.ref a) .dD H Q:=#[rfl,h]
def Zw(h:Q (.bl true) H):E3 (.int i) .dD H Q:=#[rfl,h]
def Kw(K:aF):List V->Hp->VK->Prop:=λxs H Q=>∃p ys,xs=[.ref p]/\((bB K H p ys/\∀l,H l=none->Q (.ref l)^upd H l^.tup ys)\/(cY K H p ys/\Q (.ref p) H))
def wX:dU X (.type "tuple")^Kw X.K:=we
def abx{ys:List V}(hS:bB K H p ys)(h:∀l H',eV H l (.tup ys) H'->Q (.ref l) H'):Kw K [.ref p] H Q:=#[p,ys,rfl,.inl #[hS,λl hl=>h l _ #[hl,rfl]]]
def aby{gs:GR}{R:St->Hp->Prop}(hS:bB K H a xs)(hn:xs.length=n)(h:gs xs σ H R):Wv K n gs (.ref a) σ H R:=#[a,xs,rfl,hS,hn,h]
def aeV{zs:List V}(h1:H l=some^.lst xs)(h2:H b=some^.lst zs)(hz:xs.length+zs.length<=1000000)(h:∀p H',eV H p (.lst (xs++zs)) H'->Q (.ref p) H'):Wm (.ref l) (.ref b) H Q :=
 #[l,b,xs,zs,rfl,rfl,h1,h2,bO hz^by decide,λp hp=>h p _ #[hp,rfl]]
def WJ{zs:List V}(h1:H l=some^.lst xs)(h2:H b=some^.lst zs)(hz:xs.length+zs.length<=16000000)(h:∀H',qE H l (.lst (xs++zs)) H'->Q .dD H'):EU (.ref l) [.ref b] H Q :=
 #[l,b,xs,zs,rfl,rfl,h1,h2,bO hz^by decide,h _ rfl]
def WL(K:aF)(P:Bool->Hp->Prop):VK:=λx H=>∃k,N5 K x H k/\P k H
def WM(K:aF)(ta:TE):TT:=λσ H Q=>ta σ H λx H'=>∃k,N5 K x H' k/\Q k H'
def qW{a:Expr}(ha:PE X a ta)(he:∀whole,isTrue a X.env whole=(do let v <- whole;standAt a.pos;holding [v]^truthy v)):PT X a^WM X.K ta:=JQ ha he
def aeW(h:ta σ H^WL K P):WM K ta σ H P:=h
def abz(hS:bB K H p xs)(h:P (!xs.isEmpty) H):WL K P (.ref p) H:=#[_,.inl #[xs,hS,rfl],h]
def agH{r:V->Option Int->Option Int->Hp->VK->Prop}{tl th:TO}(h:te σ H λx H1=>tl σ H1 λl H2=>th σ H2 λu H3=>r x l u H3 Q):tSl r te tl th σ H Q:=h
def aeX{lo hi:Option Int}(hS:bB K H a xs)(h:∀p H',eV H p (.lst^gW xs lo hi) H'->Q (.ref p) H'):Wh K (.ref a) lo hi H Q:=#[a,xs,rfl,hS,λp hp=>h p _ #[hp,rfl]]
def abA{i:Nat}(e:σ[i]?=some^some v)(h:Q v H):nT i σ H Q:=#[v,e,h]
def abB{i:Nat}(h:te σ H λv H1=>gQ i v σ H1 nx):Kn te i #[nx,rt,bk,ct] σ H:=h
def E4{c:TT}(Jt Jf:Hp->Prop)(h:c σ H λb H1=>if b=true then Jt H1 else Jf H1)(h1:∀H1,Jt H1->t #[nx,rt,bk,ct] σ H1)(h2:∀H1,Jf H1->u #[nx,rt,bk,ct] σ H1):Wu c t u #[nx,rt,bk,ct] σ H:=#[Jt,Jf,h,h1,h2]
def abC{to ti:TE}{ts:NW}{R:St->Hp->Prop}(h:to σ H λo H1=>ti σ H1 λi H2=>ts o i v H2 λH3=>R σ H3):V1 to ti ts v σ H R:=h
def uD{k:Int}{R:Hp->Prop}(hl:H p=some^.lst xs)(hj:Js xs.length k=some j)(h:∀H',qE H p (.lst^xs.set j v) H'->R H'):QS (.ref p) (.int k) v H R:=#[p,xs,k,j,rfl,rfl,hl,hj,h _ rfl]
def Ab(x y:Str):(x++y).length=x.length+y.length:=by change(x.cps++y.cps).size=x.cps.size+y.cps.size;simp
def Q6(h:P true H):Of σ H P:=h
def Dh(J:It)(tt:TT)(te:TE)(τ:St)(Q:VK)(H:Hp):Prop:=∃W:Nat->Nat->List V->Hp->Prop,(∃m,W 0 m [] H)/\∀i m ys H,W i m ys H ->
 (J.stop i H/\∀p,H p=none->Q (.ref p)^upd H p^.lst ys)\/(J.go i H/\ys.length<sizeLine/\∃N:List V->Hp->Prop,(∀ys' H',N ys' H'->∃m',m'<m/\W (i+1) m' ys' H') /\
  ∀v H',J.Jr i H v H'->tt (some v::τ) H' λb H3=>if b=true then te (some v::τ) H3 λy H4=>N (ys++[y]) H4 else N ys H3)
def abD{wi:TI}(h:wi σ H λJ H1=>Dh J tt te (cut ix σ) Q H1):Km wi tt te ix σ H Q:=h
theorem iT{lo:Int}{τ:St}(Pv:Nat->List V->Hp->Prop)(h0:Pv 0 [] H)
  (hs:∀i ys H,i<n->Pv i ys H->ys.length<sizeLine/\tt (some^.int (lo+i)::τ) H λb H3=>if b=true then te (some^.int (lo+i)::τ) H3 λy H4=>Pv (i+1) (ys++[y]) H4 else Pv (i+1) ys H3)
  (hd:∀ys H,Pv n ys H->∀p H',eV H p (.lst ys) H'->Q (.ref p) H'):Dh (oX lo n) tt te τ Q H:=by show#[λi m ys H=>m=n-i/\i<=n/\Pv i ys H,#[n,by simp,aI _,h0],?_];rintro i m ys H ⟨rfl,hi,p⟩;by_cases hlt:i<n;let#[hz,q]:=hs i ys H hlt p;show .inr #[hlt,hz,Pv (i+1),λσ' H' p'=>#[n-(i+1),∅,rfl,hlt,p'],λx H' y=>?_];let#[e,y]:=y;subst e y;show q;have e:i=n:=∅;subst e;show .inl #[ay _,λq hq=>hd ys H p q _ #[hq,rfl]]
theorem ig{τ:St}(Pv:Nat->List V->Hp->Prop)(h0:Pv 0 [] H)(hl:∀i ys H,i<=xs.length->Pv i ys H->bB K H a xs)
  (hs:∀i x ys H,xs[i]?=some x->Pv i ys H->ys.length<sizeLine/\tt (some x::τ) H λb H3=>if b=true then te (some x::τ) H3 λy H4=>Pv (i+1) (ys++[y]) H4 else Pv (i+1) ys H3)
  (hd:∀ys H,Pv xs.length ys H->∀p H',eV H p (.lst ys) H'->Q (.ref p) H'):Dh (NB K a) tt te τ Q H:=by
 show#[λi m ys H=>m=xs.length-i/\i<=xs.length/\Pv i ys H,#[xs.length,by simp,aI _,h0],?_];rintro i m ys H ⟨rfl,hi,p⟩;have q:=hl i ys H hi p;by_cases hlt:i<xs.length
 .have hx:xs[i]?=some xs[i]:=by simp[hlt]
  let#[hz,q']:=hs i _ ys H hx p;show .inr #[#[xs,xs[i],q,hx],hz,Pv (i+1),λσ' H' p'=>#[xs.length-(i+1),∅,rfl,hlt,p'],λx H' y=>?_];let#[e,y]:=y;subst e;have e2:x=xs[i]:=Option.some.inj^(y xs q).symm.trans hx;subst e2;show q'
 .have e:i=xs.length:=∅;subst e;show .inl #[#[xs,q,ay _],λr hr=>hd ys H p r _ #[hr,rfl]]
end
section
variable {σ:St}
def Di(wi:TI)(g:TG)(tt:TT)(te:TE)(ix:List Nat)(k:Nat):TE:=λσ H Q=>wi σ H λJ H1=>∃W:Nat->Nat->List V->St->Hp->Prop,(∃m,W 0 m [] (List.replicate k none++cut ix σ) H1)/\∀i m ys τ H,W i m ys τ H ->
 (J.stop i H/\∀p,H p=none->Q (.ref p)^upd H p^.lst ys)\/(J.go i H/\ys.length<sizeLine/\∃N:List V->St->Hp->Prop,(∀ys' τ' H',N ys' τ' H'->∃m',m'<m/\W (i+1) m' ys' τ' H') /\
  ∀v H',J.Jr i H v H'->g v τ H' λτ2 H2=>tt τ2 H2 λb H3=>if b=true then te τ2 H3 λy H4=>N (ys++[y]) τ2 H4 else N ys τ2 H3)
def Ac{elt iter:Expr}{xs:List Str}{ifs:List Expr}{wi:TI}(O:iS X scope cl xs fr ix)(hi:PI X tg iter wi)(hg:∀C fp s H,PG (uz X (xs++fr) scope cl C fp s H) tg g)
  (ht:∀C fp s H,PF (uz X (xs++fr) scope cl C fp s H) ifs tt)(he:∀C fp s H,PE (uz X (xs++fr) scope cl C fp s H) elt te)
  (hs:∀v,foldedSetIterable iter X.env v=pure v:=by intro _;rfl):PE X (.ListComp elt [#[tg,iter,ifs,0]] scope pos)^Di wi g tt te ix xs.length:=by intro u5 s σ H Q I h;rw[eval_ListComp];show wpAny_comprehension_free (use:=none) rfl hs O.clos O.kind O.names (c7 (hi u5 s σ H _ I h) λv s1 h1=>c7 h1 λitv s2 h2=>?_);let#[it,fp,tn,J,H2,e,I2,T,st2,f2,W,#[m0,w0],turn]:=h2;subst e;show mH O hg ht he I2 T st2 f2 (λys H=>∀p,H p=none->Q (.ref p)^upd H p^.lst ys) W m0 w0 turn λD C s' ys H' I' hm fC hD z=>?_;let#[m,hm]:=hm;show#[m,hm,λh' hs'=>?_];show#[.ref D,_,I'.turned (t':=s'.toks) (it:=C) (λb o hb e=>hs'.extBut b o hb e) fC.1 fC.2.1 fC.2.2.2.1 fC.2.2.2.2.1 fC.2.2.2.2.2,rfl,z D hD]
end
end L2
def BT.Ad:PySem.bootBuiltins "enumerate" = some^.type "enumerate":=by decide +kernel
namespace L2
variable {ys:List V}{R:It->Hp->Prop}
noncomputable def WN(K:aF)(t1 t2:Bool)(l1 l2:Addr)(xs ys:List V):It :=
 #[λi H=>G8 t1 K H l1 xs/\G8 t2 K H l2 ys/\i<min xs.length ys.length,
  λi H v H'=>∃p x y,xs[i]?=some x/\ys[i]?=some y/\v=.ref p/\eV H p (.tup [x,y]) H',
  λi H=>G8 t1 K H l1 xs/\G8 t2 K H l2 ys/\min xs.length ys.length<=i]
theorem Kx{TI TO i1 i2:Addr}(D:ZipApart z TI TO i1 i2 l1 l2):
  Turn P w K (.Tuple es k pos) (WN K t1 t2 l1 l2 xs ys) [z,TI,TO,i1,i2] z (λi h=>ZP.ZO h z TI TO .none false/\ZP.Zs t1 t2 TI TO i1 i2 l1 l2 i h) where
 mem:=by simp
 obj:=λi h st b hb=>by let#[hz,hs]:=st;let#[a,c,hTO]:=hs.to;erw[aH,g7,or_false] at hb;rcases hb with e|e|e|e|e<;>rw[e];show#[_,hz,λv q=>by cases q];show#[_,hs.ti,λv q=>by cases q];show#[_,hTO,λv q=>by cases q];let#[o,e1,vs,d]:=hs.a1.here;show#[o,e1,λv q=>by rw[d] at q;cases q];let#[o,e1,vs,d]:=hs.a2.here;show#[o,e1,λv q=>by rw[d] at q;cases q]
 keep:=λi h h' st kk=>#[kk z (by simp) _ st.1,st.2.keep λb hb o e=>kk b (by rcases hb with q|q|q|q<;>simp[q]) o e]
 item:=by
  intro X hP hw hK hc i u5 s σ H E I hf st hg;subst hP hw hK;let#[q1,q2,hlt]:=hg;let#[Ky,v1,G9,z1]:=I.src q1;let#[its2,v2,Hf,z2]:=I.src q2;have hx:xs[i]?=some (xs[i]'∅):=by simp
  have hy:ys[i]?=some (ys[i]'∅):=by simp
  generalize xs[i]'∅=x at hx;generalize ys[i]'∅=y at hy;let#[u,hu,ru]:=v1.get hx;let#[v,hv,rv]:=v2.get hy;let#[hz,hs]:=st;show ZP.Oo #[_,hz,rfl] (ZP.Ks (Q:=λr s'=>r=.ref s.heap.objs.size/\∃h',s'={ s with heap:=h' }/\ZP.ZO h' z TI TO (rawInt s.heap.objs.size) false/\ZP.Zs t1 t2 TI TO i1 i2 l1 l2 (i+1) h'/\IsPair h' s.heap.objs.size u v/\ZP.Rest z TO i1 i2 s.heap h')
   D hz hs G9 Hf (by simpa using hu) (by simpa using hv) λh' a1 a2 a3 _ a5=>#[rfl,h',rfl,a1,a2,a3,a5]) λr s' q=>?_
  let#[rfl,h',rfl,hz',st',S5,hr]:=q;show#[_,rfl,wpAny_letOwnedTupleGo_zip hz' λh2 hz2 hs2=>?_];have hTl:z≠s.heap.objs.size:=aT^aK hz;have hr2:∀b o,b∉[z,TO,i1,i2]->s.heap.get? b=some o->h2.get? b=some o:=λb o hb e =>
   hs2.extBut b o (λq=>hb^by simp[q])^hr b o (λq=>hb^by simp[q]) (λq=>hb^by simp[q]) (λq=>hb^by simp[q]) (λq=>hb^by simp[q]) e
  have I1:Inv X u5 σ H { s with heap:=h2,toks:=s.toks }:=I.sO (fp:=[z,TO,i1,i2]) hr2 λb hb=>hf b (by
   erw[aH,g7,or_false] at hb ⊢;rcases hb with h|h|h|h<;>simp[h])
  have hfr:H s.heap.objs.size=none:=I.hok.fresh^ay _;have I2:=I1.z9 (I.oF (ay _) hfr) (o:=.tup [x,y]) #[by change 2<=sizeLine;decide,[u,v],.cons ru^.cons rv .nil,#[_,hs2.extBut _ _ (bz hTl) S5,rfl,_,rfl]];let#[a,c,hTO]:=st'.to;show#[.ref s.heap.objs.size,_,I2,rfl,#[_,x,y,hx,hy,rfl,hfr,rfl],#[hz2,st'.keep λb hb o e=>hs2.extBut b o ?_ e],λb hb=>?_];rcases hb with q|q|q|q<;>rw[q];show D.TIz;show D.TOz;show D.i1z;show D.i2z
  .rw[bH ?_];show(hf b hb).1;let#[a0,c0,abE]:=hs.to;let#[o1,e1,_]:=hs.a1.here;let#[o2,e2,_]:=hs.a2.here;have lt:∀{b:Addr}{o:Obj},s.heap.get? b=some o->b≠s.heap.objs.size:=λe=>aT^aK e;erw[aH,g7,or_false] at hb;rcases hb with h|h|h|h|h<;>rw[h];show lt hz;show lt hs.ti;show lt abE;show lt e1;show lt e2
 done:=by
  intro X hP hw hK hc i u5 s σ H E I hf st hg;subst hP hw hK;let#[q1,q2,hge]:=hg;let#[Ky,v1,G9,z1]:=I.src q1;let#[its2,v2,Hf,z2]:=I.src q2;let#[hz,hs]:=st;have e1:=v1.length;have e2:=v2.length;show ZP.Td #[_,hz,rfl] (ZP.Om (.inl rfl) (I.ok.hd hc) D hz hs G9 Hf ?_ λh' e hr he=>?_);rcases Nat.le_total xs.length ys.length with hle|hle;show .inl ?_;erw[lZ];show j5 ∅;show .inr ?_;erw[lZ];show j5 ∅
  .let#[o,ho,hcl]:=he;show#[e,o,rfl,ho,hcl,rfl,?_];show I.sO (t':=s.toks) (fp:=[z,TO,i1,i2]) (λb o hb e=>hr b o (λq=>hb^by simp[q]) (λq=>hb^by simp[q]) (λq=>hb^by simp[q]) (λq=>hb^by simp[q]) e) λb hb=>hf b (by
    erw[aH,g7,or_false] at hb ⊢;rcases hb with h|h|h|h<;>simp[h])
 self:=λA i s Q E st q=>wpAny_pyIter_zip st.1 q
def Tg(K:aF)(R:It->Hp->Prop):List V->Hp->Prop:=λvs H=>∃t1 t2 a b xs ys,vs=[.ref a,.ref b]/\G8 t1 K H a xs/\G8 t2 K H b ys/\R (WN K t1 t2 a b xs ys) H
def WO(K:aF)(ta:TA):TI:=λσ H R=>ta σ H^Tg K R
def Dj{a b:Expr}{ta:TA}(hg:Gl X "zip")(hm:X.mg "zip" = none)(ha:PA X [a,b] ta)
  (he:starEach [a,b] X.env=(false,eval a X.env)::starEach [b] X.env:=by rfl)(hpl:(backTo pos^starEach [b] X.env).any (·.1)=false:=by rfl):PI X (.Tuple es k tpos) (.Call (.Name "zip" p) [a,b] [] pos)^WO X.K ta:=by intro u5 s σ H R I h;show wpAny_Call_Name_kw^jF I hg hm BT.WH ?_;show kZ (c7 (ha pos u5 s σ H _ I h) λus s1 zq=>?_) he hpl;let#[vs,H1,I1,rv,q1]:=zq;let#[t1,t2,pa,pb,xs,ys,rfl,hx,hy,q]:=q1;let#[u,u',rfl,r1,r2]:=vals2 rv;cases r1;cases r2;let#[Ky,v1,G9,z1]:=I1.src hx;let#[its2,v2,Hf,z2]:=I1.src hy;let#[o1,e1]:=G9.here;let#[o2,e2]:=Hf.here;show ZP.Kv G9 Hf λh' hz st hsz hk=>?_;have I2:Inv X u5 σ H1 { s1 with heap:=h',toks:=s1.toks }:=I1.kept hk;show wpAny_pyIter_zip hz #[_,_,_,_,H1,rfl,I2,Kx^zipApart_new (aK e1)^aK e2,#[hz,st],λb hb=>?_,q];have fr:∀b,s1.heap.objs.size<=b->gU X u5 H1 b:=λb hb=>I1.oF hb^I1.hok.fresh hb;show fr b ?_;erw[aH,g7,or_false] at hb;rcases hb with h|h|h|h|h<;>rw[h];show oE _ _;show oE _ _;show oE _ _;show ay _;show oE _ _
def WQ(K:aF)(l:Addr)(xs:List V):It :=
 #[λi H=>bB K H l xs/\i<xs.length,λi H v H'=>∃p x,xs[i]?=some x/\v=.ref p/\eV H p (.tup [.int i,x]) H',λi H=>bB K H l xs/\xs.length<=i]
theorem Hg{e:Addr}(hei:e≠it):
  Turn P w K (.Tuple es k pos) (WQ K l xs) [e,it] e (λi h=>(∃old,IsEnum h e it i old)/\h.IsListIter it l i) where
 mem:=by simp
 obj:=λi h st b hb=>by let#[#[old,he],o,e1,c,d]:=st;erw[aH,g7,or_false] at hb;rcases hb with q|q<;>rw[q];show#[_,he,λv q=>by cases q];show#[o,e1,λv q=>by rw[d] at q;cases q]
 keep:=λi h h' st kk=>#[let⟨old,he⟩:=st.1;#[old,kk e (by simp) _ he],let⟨o,e1,r⟩:=st.2;#[o,kk it (by simp) o e1,r]]
 item:=by
  intro X hP hw hK hc i u5 s σ H E I hf st hg;subst hP hw hK;let#[q1,hlt]:=hg;let#[Ky,v1,pl,z1]:=I.list q1;have hx:xs[i]?=some (xs[i]'∅):=by simp
  generalize xs[i]'∅=x at hx;let#[u,hu,ru]:=v1.get hx;let#[#[old,he],hit]:=st;have hT1:e≠s.heap.objs.size:=aT^aK he;have hT2:it≠s.heap.objs.size:=by let#[o,e1,_]:=hit;show aT^aK e1
  show wpAny_pyNext_enum_item he hit pl.isList (by simpa using hu) hei λh' ho Ae hT hsz hk=>#[_,rfl,?_];show wpAny_letOwnedTupleGo_enum ho λh2 Zx hs2=>?_;have hfr:H s.heap.objs.size=none:=I.hok.fresh^ay _;have I1:Inv X u5 σ H { s with heap:=h2,toks:=s.toks+1 }:=I.sO (fp:=[e,it]) (λb o hb e1=>hs2.extBut b o (λq=>hb^by simp[q])^hk b o (λq=>hb^by simp[q]) (λq=>hb^by simp[q]) e1) λb hb=>hf b hb;have I2:=I1.z9 (I.oF (ay _) hfr) (o:=.tup [.int i,x]) #[by change 2<=sizeLine;decide,[.int i s.toks,u],.cons #[_,rfl]^.cons ru .nil,#[_,hs2.extBut _ _ (bz hT1) hT,rfl,_,rfl]];show#[.ref s.heap.objs.size,_,I2,rfl,#[_,x,hx,rfl,hfr,rfl],#[#[_,by simpa using Zx],Ae.extBut hs2.extBut^bz hei],λb hb=>?_];rw[bH ?_];show(hf b hb).1
  .erw[aH,g7,or_false] at hb;rcases hb with h|h<;>rw[h];show hT1;show hT2
 done:=by intro X hP hw hK hc i u5 s σ H E I hf st hg;subst hP hw hK;let#[q1,hge]:=hg;let#[Ky,v1,pl,z1]:=I.list q1;let#[#[old,he],hit]:=st;have e1:=v1.length;show wpAny_pyNext_enum_end (I.ok.hd hc) he hit pl.isList ?_ λh' hx=>#[rfl,?_];erw[lZ];show j5 ∅;show I.sO (t':=s.toks) (fp:=[e,it]) (λb o hb e1=>hx b o (λq=>hb^by simp[q]) e1) λb hb=>hf b hb
 self:=λA i s Q E st q=>let⟨old,he⟩:=st.1;wpAny_pyIter_enum he q
def Th(K:aF)(R:It->Hp->Prop):List V->Hp->Prop:=λvs H=>∃a xs,vs=[.ref a]/\bB K H a xs/\R (WQ K a xs) H
def Q7(K:aF)(ta:TA):TI:=λσ H R=>ta σ H^Th K R
def lz{a:Expr}{ta:TA}(hg:Gl X "enumerate")(hm:X.mg "enumerate" = none)(ha:PA X [a] ta)
  (he:starEach [a] X.env=(false,eval a X.env)::starEach [] X.env:=by rfl)(hpl:(backTo pos^starEach [] X.env).any (·.1)=false:=by rfl):PI X (.Tuple es k tpos) (.Call (.Name "enumerate" p) [a] [] pos)^Q7 X.K ta:=by intro u5 s σ H R I h;show wpAny_Call_Name_kw^jF I hg hm BT.Ad ?_;show kZ (c7 (ha pos u5 s σ H _ I h) λus s1 zq=>?_) he hpl;let#[vs,H1,I1,rv,q1]:=zq;let#[pa,xs,rfl,hx,q]:=q1;let#[u,rfl,r1]:=vals1 rv;cases r1;let#[Ky,v1,pl,z1]:=I1.list hx;show call_enumerate_list pl.isList λh' hE hI hsz hk=>?_;have I2:Inv X u5 σ H1 { s1 with heap:=h',toks:=s1.toks }:=I1.kept hk;show wpAny_pyIter_enum hE #[_,_,_,_,H1,rfl,I2,Hg^Nat.succ_ne_self _,#[#[_,hE],hI],λb hb=>?_,q];have fr:∀b,s1.heap.objs.size<=b->gU X u5 H1 b:=λb hb=>I1.oF hb^I1.hok.fresh hb;show fr b ?_;erw[aH,g7,or_false] at hb;rcases hb with h|h<;>rw[h];show oE _ _;show ay _
mutual
inductive RD (K:aF) (H:Hp):V->PyData->Prop
 | dD:RD K H .dD .none
 | bl (b:Bool):RD K H (.bl b)^.bool b
 | int (i:Int):RD K H (.int i)^.int i
 | str (x:Str):RD K H (.str x)^.str x
 | lst {a:Addr} {xs:List V} {ds:List PyData}:bB K H a xs->Kz K H xs ds->RD K H (.ref a)^.list ds
 | tup {a:Addr} {xs:List V} {ds:List PyData}:cY K H a xs->Kz K H xs ds->RD K H (.ref a)^.tuple ds
inductive Kz (K:aF) (H:Hp):List V->List PyData->Prop
 | nil:Kz K H [] []
 | cons {x:V} {d:PyData} {xs:List V} {ds:List PyData}:RD K H x d->Kz K H xs ds->Kz K H (x::xs) (d::ds)
end
section
variable {σ:St}
mutual
theorem RD.reads(I:Inv X u5 σ H s):∀{x:V}{d:PyData}{u:Value},RD X.K H x d->RelV x u->∃as,Reads s.heap u d as
 | _,_,_,.dD,r=>by cases r;show#[[],.none]
 | _,_,_,.bl b,r=>by cases r;show#[[],.bool b]
 | _,_,_,.int i,r=>by let#[t,rfl]:=r;show#[[],.int i t]
 | _,_,_,.str x,r=>by let#[t,rfl]:=r;show#[[],.str x t]
 | _,_,_,.lst h rs,r=>by
  cases r;let#[its,rv,#[o,n,e,hc,hd,hs],z]:=I.list h;let#[as,q]:=Kz.reads I rs rv;show#[_,.list e hc hs^by simpa using q]
 | _,_,_,.tup h rs,r=>by cases r;let#[its,rv,#[o,e,hc,n,hs],z]:=I.tuple h;let#[as,q]:=Kz.reads I rs rv;show#[_,.tuple e hc hs^by simpa using q]
theorem Kz.reads(I:Inv X u5 σ H s):∀{xs:List V}{ds:List PyData}{us:List Value},Kz X.K H xs ds->Vals xs us->∃as,ReadsAll s.heap us ds as
 | _,_,_,.nil,r=>by cases r;show#[[],.nil]
 | _,_,_,.cons h rs,r=>by
  cases r with
  | cons r1 r2 =>
   let#[as,q]:=RD.reads I h r1;let#[bs,q']:=Kz.reads I rs r2;show#[_,.cons q q']
end
end
def Sh(k:Nat)(d:PyData):Prop:=d.canLay0=true/\d.depth<=k
theorem Sh.shaped{d:PyData}(h:Sh k d)(hk:k<=64):SeqAt.shaped d=true:=by unfold SeqAt.shaped;rw[h.1,decide_eq_true^bO h.2 hk];rfl
theorem Sh.int(i:Int):Sh k^.int i:=#[rfl,aI _]
theorem Sh.str(h:PyData.strOk x=true):Sh k^.str x:=#[h,aI _]
theorem Sh.all:∀{ds:List PyData},(∀d∈ds,Sh k d)->PyData.canLayAll0 ds=true/\PyData.depthAll ds<=k
 | [],_=>#[rfl,aI _]
 | d::ds,h=>by have h1:=h d (by simp);have h2:=Sh.all (ds:=ds) λe he=>h e^cX _ he;show#[?_,?_];change(PyData.canLay0 d&&PyData.canLayAll0 ds)=true;rw[h1.1,h2.1];rfl;change max (PyData.depth d)^PyData.depthAll ds<=k;show Nat.max_le.mpr #[h1.2,h2.2]
theorem Sh.list{ds:List PyData}(h:∀d∈ds,Sh k d):Sh (k+1)^.list ds:=#[(Sh.all h).1,Nat.succ_le_succ (Sh.all h).2]
def Sh.tup{k:Nat}{ds:List PyData}(h:∀d∈ds,Sh k d):Sh (k+1)^.tuple ds:=#[(Sh.all h).1,Nat.succ_le_succ (Sh.all h).2]
def KA(K:aF):R2:=λx y H Q=>∃d e,RD K H x d/\RD K H y e/\SeqAt.shaped d=true/\SeqAt.shaped e=true/\Q (.bl^PyData.eqv d e) H
def Ti(K:aF):R2:=λx y H Q=>∃d e,RD K H x d/\RD K H y e/\SeqAt.shaped d=true/\SeqAt.shaped e=true/\Q (.bl (!PyData.eqv d e)) H
def uE(hu:X.A.units+64<cLine):j7 X (compareOp .Eq)^KA X.K:=by intro u5 s σ H x y v u Q I rx ry h;let#[d,e,hd,he,sd,se,q]:=h;let#[as,ra]:=hd.reads I rx;let#[bs,rb]:=he.reads I ry;show eq_dataH ra rb sd se hu #[.bl _,H,I,rfl,q]
def Tj(hu:X.A.units+64<cLine):j7 X (compareOp .NotEq)^Ti X.K:=by intro u5 s σ H x y v u Q I rx ry h;let#[d,e,hd,he,sd,se,q]:=h;let#[as,ra]:=hd.reads I rx;let#[bs,rb]:=he.reads I ry;show ne_dataH ra rb sd se hu #[.bl _,H,I,rfl,q]
section
variable {nx bk ct:St->Hp->Prop}{σ:St}{P:Bool->Hp->Prop}{t u:TS}
def Tn{x:V}(d:PyData)(k:Nat)(hk:k<=64)(hx:RD K H x d)(hy:RD K H y d)(hs:Sh k d)(h:Q (.bl true) H):KA K x y H Q:=#[d,d,hx,hy,hs.shaped hk,hs.shaped hk,by rw[SeqAt.eqv_refl d hs.1];show h]
def To{x:V}(d:PyData)(k:Nat)(hk:k<=64)(hx:RD K H x d)(hy:RD K H y d)(hs:Sh k d)(h:Q (.bl false) H):Ti K x y H Q:=#[d,d,hx,hy,hs.shaped hk,hs.shaped hk,by rw[SeqAt.eqv_refl d hs.1];show h]
def jH{lo hi:Option Int}(hS:cY K H a xs)(hw:¬(HT.dM xs.length 0 lo=0/\HT.dM xs.length xs.length hi=xs.length))(h:∀p H',eV H p (.tup^gW xs lo hi) H'->Q (.ref p) H'):We K (.ref a) lo hi H Q:=#[a,xs,rfl,hS,hw,λp hp=>h p _ #[hp,rfl]]
theorem Af{k:Int}(hl:H l=some^.lst xs)(h1:-(2 ^ 62)<=k)(h2:k<2 ^ 62)(hz:xs.length*k.toNat<=1000000)(h:∀p H',eV H p (.lst (List.replicate k.toNat xs).flatten) H'->Q (.ref p) H'):Wn (.ref l) (.int k) H Q :=
 #[l,k,xs,rfl,rfl,hl,∅,∅,bO hz^by decide,λp hp=>h p _ #[hp,rfl]]
def abF{tl:TA}(h:tl σ H^Tg K R):WO K tl σ H R:=h
def E5(hx:G8 t1 K H a xs)(hy:G8 t2 K H b ys)(h:R (WN K t1 t2 a b xs ys) H):Tg K R [.ref a,.ref b] H:=#[t1,t2,a,b,xs,ys,rfl,hx,hy,h]
def Zy{tl:TA}(h:tl σ H^Th K R):Q7 K tl σ H R:=h
def aeY(hS:bB K H a xs)(h:R (WQ K a xs) H):Th K R [.ref a] H:=#[a,xs,rfl,hS,h]
theorem uF{tb:TS}(Pv:Nat->St->Hp->Prop)(h0:Pv 0 σ H)(hl:∀i σ H,i<=xs.length->Pv i σ H->bB K H a xs)
  (hs:∀i x p σ H H',xs[i]?=some x->Pv i σ H->eV H p (.tup [.int i,x]) H'->g (.ref p) σ H' λσ2 H2=>tb #[Pv (i+1),rt,nx,Pv (i+1)] σ2 H2)(hd:∀σ H,Pv xs.length σ H->nx σ H):QZ (WQ K a xs) g tb nx rt σ H:=by show#[λi m σ H=>m=xs.length-i/\i<=xs.length/\Pv i σ H,#[xs.length,by simp,aI _,h0],?_];rintro i m σ H ⟨rfl,hi,p⟩;have q:=hl i σ H hi p;by_cases hlt:i<xs.length;show .inr #[#[q,hlt],Pv (i+1),λσ' H' p'=>#[xs.length-(i+1),∅,rfl,hlt,p'],λx H' y=>?_];let#[pa,x',hx,rfl,n]:=y;show hs i x' pa σ H H' hx p n;have e:i=xs.length:=∅;subst e;show .inl #[#[q,ay _],hd σ H p]
theorem WR{tb:TS}(Pv:Nat->St->Hp->Prop)(h0:Pv 0 σ H)(hl:∀i σ H,i<=min xs.length ys.length->Pv i σ H->G8 t1 K H a xs/\G8 t2 K H b ys)
  (hs:∀i x y p σ H H',xs[i]?=some x->ys[i]?=some y->Pv i σ H->eV H p (.tup [x,y]) H'->g (.ref p) σ H' λσ2 H2=>tb #[Pv (i+1),rt,nx,Pv (i+1)] σ2 H2)(hd:∀σ H,Pv (min xs.length ys.length) σ H->nx σ H):QZ (WN K t1 t2 a b xs ys) g tb nx rt σ H:=by show#[λi m σ H=>m=min xs.length ys.length-i/\i<=min xs.length ys.length/\Pv i σ H,#[min xs.length ys.length,by simp,aI _,h0],?_];rintro i m σ H ⟨rfl,hi,p⟩;have q:=hl i σ H hi p;by_cases hlt:i<min xs.length ys.length;show .inr #[#[q.1,q.2,hlt],Pv (i+1),λσ' H' p'=>#[min xs.length ys.length-(i+1),∅,rfl,hlt,p'],λx H' y=>?_];let#[pa,x',y',hx,hy,rfl,n]:=y;show hs i x' y' pa σ H H' hx hy p n;have e:i=min xs.length ys.length:=∅;rw[e] at p;show .inl #[#[q.1,q.2,∅],hd σ H p]
def KC(J:It)(g:TG)(tt:TT)(te:TE)(τ0:St)(Q:VK)(H:Hp):Prop:=∃W:Nat->Nat->List V->St->Hp->Prop,(∃m,W 0 m [] τ0 H)/\∀i m ys τ H,W i m ys τ H ->
 (J.stop i H/\∀p,H p=none->Q (.ref p)^upd H p^.lst ys)\/(J.go i H/\ys.length<sizeLine/\∃N:List V->St->Hp->Prop,(∀ys' τ' H',N ys' τ' H'->∃m',m'<m/\W (i+1) m' ys' τ' H') /\
  ∀v H',J.Jr i H v H'->g v τ H' λτ2 H2=>tt τ2 H2 λb H3=>if b=true then te τ2 H3 λy H4=>N (ys++[y]) τ2 H4 else N ys τ2 H3)
def Zz{wi:TI}(h:wi σ H λJ H1=>KC J g tt te (List.replicate k none++cut ix σ) Q H1):Di wi g tt te ix k σ H Q:=h
theorem KD{τ0:St}(Pv:Nat->List V->St->Hp->Prop)(h0:Pv 0 [] τ0 H)(hl:∀i zs τ H,i<=min xs.length ys.length->Pv i zs τ H->G8 t1 K H a xs/\G8 t2 K H b ys/\zs.length<=i)(hz:xs.length<=1000000)
  (hs:∀i x y p zs τ H H',xs[i]?=some x->ys[i]?=some y->Pv i zs τ H->eV H p (.tup [x,y]) H'->g (.ref p) τ H' λτ2 H2=>tt τ2 H2 λb H3=>if b=true then te τ2 H3 λy H4=>Pv (i+1) (zs++[y]) τ2 H4 else Pv (i+1) zs τ2 H3)
  (hd:∀zs τ H,Pv (min xs.length ys.length) zs τ H->∀p H',eV H p (.lst zs) H'->Q (.ref p) H'):KC (WN K t1 t2 a b xs ys) g tt te τ0 Q H:=by show#[λi m zs τ H=>m=min xs.length ys.length-i/\i<=min xs.length ys.length/\Pv i zs τ H,#[min xs.length ys.length,by simp,aI _,h0],?_];rintro i m zs τ H ⟨rfl,hi,p⟩;let#[q1,q2,q3]:=hl i zs τ H hi p;by_cases hlt:i<min xs.length ys.length;show .inr #[#[q1,q2,hlt],bX (show zs.length<1000001 by lia)^by decide,Pv (i+1),λzs' τ' H' p'=>#[min xs.length ys.length-(i+1),∅,rfl,hlt,p'],λx H' y=>?_];let#[pa,x',y',hx,hy,rfl,n]:=y;show hs i x' y' pa zs τ H H' hx hy p n;have e:i=min xs.length ys.length:=∅;rw[e] at p;show .inl #[#[q1,q2,∅],λr hr=>hd zs τ H p r _ #[hr,rfl]]
theorem E6{τ0:St}(Pv:Nat->List V->St->Hp->Prop)(h0:Pv 0 [] τ0 H)(hl:∀i zs τ H,i<=xs.length->Pv i zs τ H->bB K H a xs/\zs.length<=i)(hz:xs.length<=1000000)
  (hs:∀i x p zs τ H H',xs[i]?=some x->Pv i zs τ H->eV H p (.tup [.int i,x]) H'->g (.ref p) τ H' λτ2 H2=>tt τ2 H2 λb H3=>if b=true then te τ2 H3 λy H4=>Pv (i+1) (zs++[y]) τ2 H4 else Pv (i+1) zs τ2 H3)
  (hd:∀zs τ H,Pv xs.length zs τ H->∀p H',eV H p (.lst zs) H'->Q (.ref p) H'):KC (WQ K a xs) g tt te τ0 Q H:=by show#[λi m zs τ H=>m=xs.length-i/\i<=xs.length/\Pv i zs τ H,#[xs.length,by simp,aI _,h0],?_];rintro i m zs τ H ⟨rfl,hi,p⟩;let#[q1,q3]:=hl i zs τ H hi p;by_cases hlt:i<xs.length;show .inr #[#[q1,hlt],bX (show zs.length<1000001 by lia)^by decide,Pv (i+1),λzs' τ' H' p'=>#[xs.length-(i+1),∅,rfl,hlt,p'],λx H' y=>?_];let#[pa,x',hx,rfl,n]:=y;show hs i x' pa zs τ H H' hx p n;have e:i=xs.length:=∅;rw[e] at p;show .inl #[#[q1,∅],λr hr=>hd zs τ H p r _ #[hr,rfl]]
end
def Ag(w:World)(K:aF)(a:Addr)(kvs:List (Key×V)):Prop:=(a==sysModules)=false/\∀(P:Program)(h:Heap),K.In h->∃vs,KV kvs vs/\h.DictOf (ck P w) a vs
noncomputable def entriesOf(w:World):List (Str×Tok×Value)->List DictEntry
 | []=>[]
 | (k,t,v)::r=>{ hash:=PyData.keyHash w.params k,key:=.str k t,val:=v }::entriesOf w r
theorem lA{P:Program}{w:World}:∀(es:List (Str×Tok×Value)),(∀e∈entriesOf w es,∃k,(ck P w).is k e.key=true/\e.hash=(ck P w).hash k)/\Pairs (ck P w) (entriesOf w es) (es.map λe=>(Sum.inr e.1,e.2.2))
 | []=>by
  show#[λe h=>?_,?_];simp[entriesOf] at h;show Pairs.nil
 | (k,t,v)::r=>by let#[h1,h2]:=lA (P:=P) (w:=w) r;show#[λe he=>?_,.cons (mq P w k t) rfl h2];rcases aH.mp he with q|q;subst q;show#[.inr k,mq P w k t,rfl];show h1 e q
def Ag.mk'{es:List (Str×Tok×Value)}(l:K.lookup a=some #[.type "dict", none,.dict (entriesOf w es).toArray n,#[]])(hd:(a==sysModules)=false)(nd:(es.map (·.1)).Nodup)
  (hv:KV kvs (es.map λe=>((Sum.inr e.1:Key),e.2.2))):Ag w K a kvs:=by
 show#[hd,λP h Vy=>#[_,hv,_,_,_,Vy a _ l,#[rfl,rfl,rfl],rfl,?_,?_,?_]];intro e he;show(lA es).1 e (by simpa using he);simpa using(lA (P:=P) (w:=w) es).2
 .have q:((es.map λe=>((Sum.inr e.1:Key),e.2.2)).map (·.1))=(es.map (·.1)).map (λx=>(Sum.inr x:Key)):=by simp[gq,Function.comp_def]
  rw[q];show jj.mpr^List.Pairwise.imp (λh e=>h^Sum.inr.inj e) nd
section
variable {o i f:Expr}{ty:TE}
def KH(a:Addr)(kvs:List (Key×V))(td ty:TE):TE:=λσ H Q=>td σ H λx H1=>ty σ H1 λy H2=>∃k v,x=.ref a/\y=kV k/\fQ kvs k=some v/\Q v H2
def Ah(C:Ag X.w X.K a kvs)(ho:PE X o td)(hi:PE X i ty)(hs:J3 i):PE X (.Subscript o i pos)^KH a kvs td ty:=by intro u5 s σ H Q I h;show yw PySem.F.slot_dict_getitem.lookup hs (c7 (ho u5 s σ H _ I h) λu s1 zq=>?_);let#[x,H1,I1,rx,q1]:=zq;show c7 (hi u5 s1 σ H1 _ I1 q1) λiv s2 zq=>?_;let#[y,H2,I2,ry,k,v,ex,ey,l,q2]:=zq;subst ex ey;obtain rfl:u=Value.ref a:=rx;let#[vs,rel,dd]:=C.2 X.prog s2.heap I2.yi;let#[w',hw,rw']:=nS.some_of (v:=v) (o:=valueAt vs k) (by rw[<- l];show rel.val k);show#[dd.typeIs,wpAny_getItem_of (rR ry) dd.mapOf hw #[v,H2,I2.tok _,rw',q2]]
end
section
variable {nx bk ct:St->Hp->Prop}{σ:St}{ty:TE}
def rDK(a:Addr)(kvs:List (Key×V)):R2:=λx y H Q=>∃k v,x=.ref a/\y=kV k/\fQ kvs k=some v/\Q v H
def ZA(h:td σ H λx H1=>ty σ H1 λy H2=>rDK a kvs x y H2 Q):KH a kvs td ty σ H Q:=h
def WS(hv:fQ kvs^.inr x=some v)(h:Q v H):rDK a kvs (.ref a) (.str x) H Q:=#[.inr x,v,rfl,rfl,hv,h]
end
def i6(K:aF)(a:Addr)(xs:List V):Prop:=∀H:Hp,cY K H a xs
def i6.sq(c:i6 K a xs):cY K H a xs:=c H
def i6.mk'{od:Option Addr}{its:Array Value}{sl:Array^Option Value}(l:K.lookup a=some #[.type "tuple", od,.seq its n,sl])(r:Vals xs its.toList)(hz:its.size<=1000):i6 K a xs :=
 λ_=>.inr #[_,its,n,l,rfl,rfl,bO hz^by decide,r]
def gr(e:X.K=K):SK X^SM K:=e▸bN
def pK(e:X.K=K):SK X^SO K:=e▸aZ
def lB(e:X.K=K):dU X (.builtin "len")^S7 K:=e▸bx
def Tp(e:X.K=K):dU X (.builtin "isinstance")^S8 K:=e▸wW
def Ot(e:X.K=K)(hu:X.A.units+64<cLine):j7 X (compareOp .Eq)^KA K:=e▸uE hu
def sP{t:GR}(e:X.K=K)(hc:X.calm=true)(h:Vz X es t)
  (hn:(assignEach es X.env).length=n:=by rfl)(hst:(assignEach es X.env).findIdx? (·.1)=none:=by rfl):PG X (.Tuple es k pos)^Sq K n t:=e▸k7 hc h hn hst
def KI{l:Expr}(e:X.K=K)(hl:PE X l tl):PI X tg l^JG K tl:=e▸bP hl
def KJ{α:Type}(x:α)(xs:List α):qU (x::xs) 0=some x:=cR (j:=0) rfl
end L2
def BT.Q8:PySem.bootBuiltins "min" = some^.builtin "min":=by decide +kernel
def BT.KL:PySem.bootBuiltins "max" = some^.builtin "max":=by decide +kernel
namespace L2
variable {i:Int}
section
variable {nx bk ct:St->Hp->Prop}{σ:St}{P:Bool->Hp->Prop}{ty:TE}{t u:TS}
def rDG:R2:=λx y H Q=>∃a v,x=.ref a/\pG H a y^some v/\Q v H
def abG(h:td σ H λx H1=>ty σ H1 λy H2=>rDG x y H2 Q):QU td ty σ H Q:=h
def WT(hd:H a=some^.dK kvs)(hv:fQ kvs^.inl i=some v)(h:Q v H):rDG (.ref a) (.int i) H Q:=#[a,v,rfl,.inl #[kvs,.inl i,.inl hd,rfl,hv.symm],h]
def rDI:R2:=λy x H Q=>∃a o,x=.ref a/\pG H a y o/\Q (.bl o.isSome) H
def WU:R2:=λy x H Q=>∃a o,x=.ref a/\pG H a y o/\Q (.bl (!o.isSome)) H
def ae2(h:ty σ H λy H1=>td σ H1 λx H2=>rDI y x H2 Q):Wr ty td σ H Q:=h
def abH(h:ty σ H λy H1=>td σ H1 λx H2=>WU y x H2 Q):EV ty td σ H Q:=h
def rD2(ty tx:TE)(σ:St)(Q:VK):V->Hp->Prop:=λx H1=>∃a,x=.ref a/\IsD H1 a/\ty σ H1 λy H2=>tx σ H2 λz H3=>∃o,pG H3 a y o/\Q (o.getD z) H3
def WV(a:Addr):V->V->Hp->VK->Prop:=λy z H3 Q=>∃o,pG H3 a y o/\Q (o.getD z) H3
def ZC(h:td σ H^rD2 ty tx σ Q):Kc td ty tx σ H Q:=h
def agJ(hd:H a=some^.dK kvs)(h:ty σ H λy H2=>tx σ H2 λz H3=>WV a y z H3 Q):rD2 ty tx σ Q (.ref a) H:=#[a,rfl,.inl #[kvs,.inl hd],h]
def ae4{z:V}(hd:H a=some^.dK kvs)(h:Q ((fQ kvs^.inl i).getD z) H):WV a (.int i) z H Q:=#[_,.inl #[kvs,.inl i,.inl hd,rfl,rfl],h]
def rDP(v x y:V)(H3:Hp)(R:Hp->Prop):Prop:=∃a H4,x=.ref a/\G1 H3 a y v H4/\R H4
def abJ(h:tv σ H λv H1=>td σ H1 λx H2=>ty σ H2 λy H3=>rDP v x y H3 λH4=>nx σ H4):QV td ty tv #[nx,rt,bk,ct] σ H:=h
def ae5{R:Hp->Prop}(hd:H a=some^.dK kvs)(hz:kvs.length<1000000)(h:∀H',qE H a (.dK^putK kvs (.inl i) v) H'->R H'):rDP v (.ref a) (.int i) H R:=#[a,_,rfl,.inl #[kvs,.inl i,hd,rfl,bX hz^by decide,rfl],h _ rfl]
def abK(h:∀p H',eV H p (.dK []) H'->Q (.ref p) H'):J7 σ H Q:=λp hp=>h p _ #[hp,rfl]
def ZD(hl:H l=some^.lst xs)(h:∀H',qE H l (.lst []) H'->Q .dD H'):JZ (.ref l) [] H Q:=#[l,xs,rfl,rfl,hl,h _ rfl]
def fT{ys:List V}(ha:cY K H a xs)(hb:cY K H b ys)(hx:xs≠[])(hy:ys≠[])(hz:xs.length+ys.length<=1000000)(h:∀p H',eV H p (.tup (xs++ys)) H'->Q (.ref p) H'):QO K (.ref a) (.ref b) H Q :=
 #[a,b,xs,ys,rfl,rfl,ha,hb,hx,bO hz^by decide,λe=>absurd e hy,λ_ p hp=>h p _ #[hp,rfl]]
def Q9:List V->Hp->VK->Prop:=λxs H Q=>∃i j,xs=[.int i,.int j]/\Q (.int (if j<i then j else i)) H
def uG(hc:X.calm=true):dU X (.builtin "min") Q9:=GV hc
def abL{j:Int}(h:Q (.int (if j<i then j else i)) H):Q9 [.int i,.int j] H Q:=#[i,j,rfl,h]
def Ai{i:Nat}{y:Str}{py spos:Pos}{elt iter:Expr}{xs:List Str}{ifs:List Expr}{wi:TI}(hN:X.N.Nodup)(hiy:X.N[i]?=some y)(hy:Loc X.env.scope y)
  (O:iS X scope cl xs fr ix)(hi:PI X tg iter wi)(hg:∀C fp s H,PG (uz X (xs++fr) scope cl C fp s H) tg g)
  (ht:∀C fp s H,PF (uz X (xs++fr) scope cl C fp s H) ifs tt)(he:∀C fp s H,PE (uz X (xs++fr) scope cl C fp s H) elt te)
  (hsw:swapsWith (.ListComp elt [#[tg,iter,ifs,0]] scope pos) (some^.Name y py) spos.line X.env=pure true:=by rfl)
  (hs:∀v,foldedSetIterable iter X.env v=pure v:=by intro _;rfl)(hf:X.fn y=true\/X.env.scope.names.lookup y=some .local:=by first|exact .inl rfl|exact .inr rfl|assumption):
  PS X (.Assign [.Name y py] (.ListComp elt [#[tg,iter,ifs,0]] scope pos) spos)^Kn (Di wi g tt te ix xs.length) i:=by
 intro u5 s σ H D I h;rw[exec_Assign_Name_used _ _ _ _ hsw];show au^wpAny_standAt^au ?_;change wpAny _ X.A (do let _ <- comprehension (.ListComp elt [#[tg,iter,ifs,0]] scope pos) scope X.env _ (newList []) false (eval iter X.env) (some^assign (.Name y py) X.env)) _ _ s;show au (wpAny_mono (wpAny_comprehension_free (use:=some^assign (.Name y py) X.env) (Q:=λ_ s'=>SP X u5 D .next s') rfl hs O.clos O.kind O.names
  (c7 (hi u5 s σ H _ I h) λv s1 h1=>c7 h1 λitv s2 h2=>?_)) (λ_ s' hq=>aN^aN hq) λ_ _ e=>e)
 let#[it,fp,tn,J,H2,e,I2,T,st2,f2,W,#[m0,w0],turn]:=h2;subst e;show mH O hg ht he I2 T st2 f2 (λys H=>∀p,H p=none->D.nx (σ.set i^some^.ref p)^upd H p^.lst ys) W m0 w0 turn λL C s' ys H' I' hm fC hD z=>?_;let#[m,hm]:=hm;change wpAny _ X.A (assign (.Name y py) X.env^.ref L) _ _ _;show wpAny_assign_Name^qP I' hN hiy hy (v:=.ref L) rfl (λs'' I'' Ju=>?_) hf;let#[a,Ju,ha]:=Ju;have hCa:C≠a:=by rcases ha with z|z;rw[z];show fC.2.1;show bz^fC.2.2.2.2.1 _ _ z
 show#[m,hm.sameBut Ju hCa,λh' hs'=>?_];show#[_,_,I''.turned (t':=s''.toks) (it:=C) (λb o hb e=>hs'.extBut b o hb e) fC.1 fC.2.1 fC.2.2.2.1 fC.2.2.2.2.1 fC.2.2.2.2.2,z L hD]
end
section
variable {nx bk ct:St->Hp->Prop}{σ:St}{P:Bool->Hp->Prop}{ty:TE}{t u:TS}
def Ra(R:It->Hp->Prop):List V->Hp->Prop:=λvs H1=>∃i j:Int,vs=[.int i,.int j]/\(-(2 ^ 62)<=i/\i<2 ^ 62 /\ -(2 ^ 62)<=j/\j<2 ^ 62)/\R (oX i (j-i).toNat) H1
def WW{tl:TA}{R:It->Hp->Prop}(h:tl σ H^Ra R):QI tl σ H R:=h
def abM{j:Int}{R:It->Hp->Prop}(h1:-(2 ^ 62)<=i/\i<2 ^ 62 /\ -(2 ^ 62)<=j/\j<2 ^ 62)(h:R (oX i (j-i).toNat) H):Ra R [.int i,.int j] H:=#[i,j,rfl,h1,h]
theorem WX{τ:St}(Pv:Nat->List V->Hp->Prop)(h0:Pv 0 [] H)(hl:∀i ys H,i<=xs.length->Pv i ys H->cY K H a xs)
  (hs:∀i x ys H,xs[i]?=some x->Pv i ys H->ys.length<sizeLine/\tt (some x::τ) H λb H3=>if b=true then te (some x::τ) H3 λy H4=>Pv (i+1) (ys++[y]) H4 else Pv (i+1) ys H3)
  (hd:∀ys H,Pv xs.length ys H->∀p H',eV H p (.lst ys) H'->Q (.ref p) H'):Dh (NC K a) tt te τ Q H:=by
 show#[λi m ys H=>m=xs.length-i/\i<=xs.length/\Pv i ys H,#[xs.length,by simp,aI _,h0],?_];rintro i m ys H ⟨rfl,hi,p⟩;have q:=hl i ys H hi p;by_cases hlt:i<xs.length
 .have hx:xs[i]?=some xs[i]:=by simp[hlt]
  let#[hz,q']:=hs i _ ys H hx p;show .inr #[#[xs,xs[i],q,hx],hz,Pv (i+1),λσ' H' p'=>#[xs.length-(i+1),∅,rfl,hlt,p'],λx H' y=>?_];let#[e,y]:=y;subst e;have e2:x=xs[i]:=Option.some.inj^(y xs q).symm.trans hx;subst e2;show q'
 .have e:i=xs.length:=∅;subst e;show .inl #[#[xs,q,ay _],λr hr=>hd ys H p r _ #[hr,rfl]]
theorem Tq{τ:St}(f:V->V)(hS:cY K H a xs)(hz:xs.length<=1000000)(he:∀x∈xs,∀Q:VK,Q (f x) H->te (some x::τ) H Q)(h:∀p H',eV H p (.lst^xs.map f) H'->Q (.ref p) H'):Dh (NC K a) Of te τ Q H:=by show WX (xs:=xs) (λi ys H'=>H'=H/\ys=(xs.take i).map f) #[rfl,rfl] ?_ ?_ ?_;rintro i ys H' hi ⟨rfl,_⟩;show hS;rintro i x ys H' hx ⟨rfl,rfl⟩;have hi:i<xs.length:=(eX hx).1;show#[bX (show((xs.take i).map f).length<1000001 by rw[aq,cB];lia)^by decide,?_];show Q6^SY ?_;show he x (eY hx) _ #[rfl,?_];rw[bS,hx,bG];rfl;rintro ys H' ⟨rfl,rfl⟩ p H2 n2;rw[cg] at n2;show h p H2 n2
end
end L2
namespace ZP
end ZP
def F.gE:PySem.entryFor PySem.table "dict.update.loop" = some PySem.Builtin.«dict.update.loop»:=PySem.entryFor_of_tree (by kernel_rfl)
def F.cO:PySem.plainId "dict.update.loop" = true:=by decide +kernel
namespace L2
noncomputable def jl(ks:Nat->Key)(vs:Nat->V):Nat->List (Key×V)
 | 0=>[]
 | i+1=>putK (jl ks vs i) (ks i)^vs i
theorem oJ(ks:Nat->Key)(vs:Nat->V):∀i,(jl ks vs i).length<=i
 | 0=>ay _
 | i+1=>by have h1:=mG (jl ks vs i) (ks i)^vs i;have h2:=oJ ks vs i;change(putK (jl ks vs i) (ks i)^vs i).length<=i+1;lia
section
variable {vs:Nat->V}{St:Nat->Heap->Prop}
end
section
variable {vs:Nat->V}{St:Nat->Heap->Prop}
end
end L2
namespace ZP
end ZP
namespace L2
section
variable {σ:St}
end
section
variable {nx bk ct:St->Hp->Prop}{σ:St}{P:Bool->Hp->Prop}{ty:TE}{t u:TS}
def ae6{ti:VZ}{x:V}(e:σ[i]?=some^some x)(h:te σ H λy H1=>ti x y H1 λz H2=>gQ i z σ H2 nx):V2 i te ti #[nx,rt,bk,ct] σ H:=#[x,e,h]
def ae7{f:Int->Int->Int}{i j:Int}(h:Q (.int^f i j) H):ipI f (.int i) (.int j) H Q:=#[i,j,rfl,rfl,h]
end
section
variable {nx bk ct:St->Hp->Prop}{σ:St}{ta:TA}
end
end L2
namespace HT
end HT
namespace L2
section
variable {nx bk ct:St->Hp->Prop}{σ:St}
end
section
variable {nx bk ct:St->Hp->Prop}{σ:St}{t:TA}{fs fs':List (Str×V)}{f:Str}{z:V}{E:XK}
def Tr{i j:Int}(h:Q (.int (i-j)) H):V9 (.int i) (.int j) H Q:=#[i,j,rfl,rfl,h]
end
section
variable {co si pl mk wd se an st x:V}
end
section
variable {σ:St}{t:TA}
end
end L2
namespace ZP
def wj:entryFor table "list.__getattribute__" = some Builtin.«object.__getattribute__»:=entryFor_alias (id' := "object.__getattribute__") (by kernel_rfl) (by decide +kernel) (by decide +kernel) (by kernel_rfl)
def yC:typeLookup (.type "list") "__getattr__" = pure none:=by rw[typeLookup_type,builtinLookup_eq_fast];kernel_rfl
def yD:typeLookup (.type "list") "keys" = pure none:=by rw[typeLookup_type,builtinLookup_eq_fast];kernel_rfl
def wk(x:Addr)(its:Array Value)(n:Nat)(sl:Array^Option Value)(u:Tok):
  Meets (Builtin.«object.__getattribute__» #[[.ref x,.str "keys" u],[]]) (λA R s=>s.heap.get? x=some { cls:=.type "list", dict:=none,data:=.seq its n,slots:=sl }/\raisesAttr (.ref x) "keys" A R s):=by
 show Meets.of_wp λprog w A R s q=>?_;let#[h0,g0,d0,t0,o0]:=s;let#[hx,q]:=q;have hT:(#[h0,g0,d0,t0,o0]:Shared).TypeIs (.ref x) "list" := #[_,hx,rfl];have hmiss:=yD;unfold Builtin.«object.__getattribute__»
 repeat (any_goals (first|assumption|wp_step))
 show wpAny_raiseAttrError q.1 q.2 (attrMsg_fits (by decide +kernel)^by size_fits)
def E7{x:Addr}{its:Array Value}{sl:Array^Option Value}{Q:Option Value->Shared->Prop}(hx:s.heap.get? x=some { cls:=.type "list", dict:=none,data:=.seq its n,slots:=sl })(hA:A.handled=none)
  (q:∀h' tk,(∀b o,s.heap.get? b=some o->h'.get? b=some o)->Q none { s with heap:=h',toks:=tk }):wpAny (model prog w) A (getAttr? (.ref x) "keys") Q E s:=by
 let#[h0,g0,d0,t0,o0]:=s;have hT:∀tk',(#[h0,g0,d0,tk',o0]:Shared).TypeIs (.ref x) "list" := λ_=>#[_,hx,rfl];have e1:=sub_AttributeError;have e2:=F.slot_list_getattribute.lookup;have e3:=F.slot_list_getattribute.bind^.ref x;have e4:=yC;unfold getAttr? getAttrBy? getAttrBy
 repeat (any_goals (first|assumption|show hT _|((with_reducible show wpAny _ _ (call (Value.builtin "list.__getattribute__") _ _) _ _ _);show call_meets F.slot_list_getattribute (hT _) wj (F.args_list_getattribute_2 _ _) (wk x its n sl _) #[hx,hA,λh' tk' e he=>?_])|wp_step))
 let#[t',u',Dk]:=he.there;change wpAny _ _ (getattributeRaised _ _ _ _ _ _ _) _ _ _;unfold getattributeRaised
 repeat (any_goals (first|assumption|wp_step))
 show q _ _ he.keeps
end ZP
namespace L2
theorem Dl{s0:Shared}{its:Array Value}{vs:Nat->V}(hd:d≠it)(hdl:d≠l)(hli:l≠it)(hh:A.in1.handled=none)(hn:n<=sizeLine)(hsz:its.size=n)
  (hp:∀i,i<n->∃(T:Addr)(u v:Value)(o:Obj)(c:Nat),its[i]?=some^.ref T/\s0.heap.get? T=some o/\o.cls=.type "tuple" /\ o.data=.seq #v[u,v] c/\T≠it/\T≠d/\RelV (kV^ks i) u/\RelV (vs i) v)
  (hl:s0.heap.IsList l its)
  (hR:∀h' tk rs,(∀b o,b≠it->b≠d->s0.heap.get? b=some o->h'.get? b=some o)->h'.DictOf (ck prog w) d rs->KV (jl ks vs n) rs->R (.ok^.ret .none) { s0 with heap:=h',toks:=tk }):
  ∀(k i:Nat)(h:Heap)(t:Nat)(rs:List (Key×Value))(c:Tok),n-i=k->i<=n->(∀b o,b≠it->b≠d->s0.heap.get? b=some o->h.get? b=some o)->h.IsListIter it l i->h.DictOf (ck prog w) d rs->KV (jl ks vs i) rs ->
   codeAny (model prog w) A (.builtin "dict.update.loop" #[[.ref d,.ref it,.int i c,.none],[]]) R { s0 with heap:=h,toks:=t }:=by
 have lst:∀h:Heap,(∀b o,b≠it->b≠d->s0.heap.get? b=some o->h.get? b=some o)->h.IsList l its:=λh kp=>let⟨o,q,r⟩:=hl;#[o,kp l o hli (bz hdl) q,r];intro k;induction k with
 | zero =>
  intro i h t rs c hk hi kp hit dd rel;have e:i=n:=∅;subst e;show codeAny_builtin F.gE ?_;rw[gY F.cO _];change wpAny _ A.in1 (pyNext (.ref it) >>= _) _ _ _;show au (wpAny_pyNext_list_end (s:={ s0 with heap:=h,toks:=t }) hh hit (lst h kp) (rN ∅) λh' k'=>?_);change wpAny _ A.in1 (Builtin.Dict.addKeywords d [] >>= _) _ _ _;show au^aN^aN ?_;show hR h' t rs (λb o b1 b2 q=>k' b o b1^kp b o b1 b2 q) (let⟨o,es,ep,q,r⟩:=dd;#[o,es,ep,k' d o hd q,r]) rel
 | succ k ih =>
  intro i h t rs c hk hi kp hit dd rel;have hlt:i<n:=∅;let#[T,u,v,o,cc,hx,hT,hTc,hTd,n1,n2,ru,rv]:=hp i hlt;show codeAny_builtin F.gE ?_;rw[gY F.cO _];change wpAny _ A.in1 (pyNext (.ref it) >>= _) _ _ _;show au (wpAny_pyNext_list_item (s:={ s0 with heap:=h,toks:=t }) hit (lst h kp) hx λh1 Tt Rb=>?_);have k1:∀b o,b≠it->h.get? b=some o->h1.get? b=some o:=λb o b1 q=>Rb.extBut b o b1 q;have ht:h1.get? T=some o:=k1 T o n1^kp T o n1 n2 hT;have d1:h1.DictOf (ck prog w) d rs:=let⟨o,es,ep,q,r⟩:=dd;#[o,es,ep,k1 d o hd q,r];have tyT:({ s0 with heap:=h1,toks:=t }:Shared).TypeIs (.ref T) "tuple" := #[_,ht,hTc];change wpAny _ A.in1 (holding [Value.ref T] _ >>= _) _ _ _;show au^wpAny_holding ?_;show au^wpAny_tryCatch ?_;unfold Builtin.Dict.pairItems;show au^wpAny_typeOf tyT ?_;change wpAny _ _ (seqItems? (.ref T) >>= _) _ _ _;show au^wpAny_seqItems ht hTd^aN ?_;change wpAny _ _ (holding [u,v]^dictSet d u v) _ _ _;show wpAny_holding (wpAny_dictSet_pairs (hsz:=?_) (rR ru) d1 λh2 d2 sb=>?_);show aN #[plainId_quiet F.cO _,?_];show ih (i+1) h2 _ (stored rs (ks i) v) 0 ∅ hlt (λb o b1 b2 q=>?_) ?_ d2 (rel.put (ks i) rv);show sb.extBut b o b2^k1 b o b1^kp b o b1 b2 q;let#[oi,zK,ri]:=Tt;show#[oi,sb.extBut it oi (bz hd) zK,ri];rw[<- rel.length];show bO (oJ ks vs i)^bO (jE hlt) hn
def Dm{its:Array Value}{vs:Nat->V}{Q:Value->Shared->Prop}(hx:PlainL s.heap l its)(hh:A.in1.in1.handled=none)(hn:n<=sizeLine)(hsz:its.size=n)
  (hp:∀i,i<n->∃(T:Addr)(u v:Value)(o:Obj)(c:Nat),its[i]?=some^.ref T/\s.heap.get? T=some o/\o.cls=.type "tuple" /\ o.data=.seq #v[u,v] c/\RelV (kV^ks i) u/\RelV (vs i) v)
  (q:∀h' tk rs,(∀b o,s.heap.get? b=some o->h'.get? b=some o)->h'.DictOf (ck prog w) s.heap.objs.size rs->KV (jl ks vs n) rs->Q (.ref s.heap.objs.size) { s with heap:=h',toks:=tk }):
  wpAny (model prog w) A (call (.type "dict") [.ref l]) Q E s:=by
 show callType_codes (Q₁:=λx s1=>x=.ref s.heap.objs.size/\s1={ s with heap:=s.heap.push { cls:=.type "dict", data:=.dict #[] } }) F.kt_called_dict (F.kt_typeCall_dict_1 _) F.entry_dict_init (kt_code_dict_new _ #[rfl,rfl]) ?_;rintro _ _ ⟨rfl,rfl⟩;have dd:(s.heap.push { cls:=.type "dict", data:=.dict #[] }).DictOf (ck prog w) s.heap.objs.size []:=Heap.DictOf.new s.heap;have hx1:PlainL (s.heap.push { cls:=.type "dict", data:=.dict #[] }) l its:=hx.keeps λb o e=>dH _ e;show#[dd.typeIs,F.args_dict_init_2 _ _,?_];unfold Builtin.«dict.__init__»;show au ?_;unfold Builtin.Dict.selfAndRest;show au^wpAny_notOrdered_dict dd.typeIs ?_;show aN (a:=(s.heap.objs.size,[Value.ref l])) ?_;change wpAny _ _ (Builtin.Dict.updateFrom "dict.__init__" s.heap.objs.size (.ref l) [] .none) _ _ _;unfold Builtin.Dict.updateFrom;let#[#[cls,dc,da,sl],c,e0,e1,e2,e3]:=hx1;simp only at e1 e2 e3;subst e1 e2 e3;show au^wpAny_typeOf (T := "list") #[_,e0,rfl] ?_;rw[if_pos^by decide];show au (ZP.E7 e0 hh λh1 t1 k1=>?_);change wpAny _ _ (rule _ >>= _) _ _ _;show au^wpAny_rule ?_;have hl1:h1.IsList l its:=#[_,k1 _ _ e0,rfl,c,rfl];show au^wpAny_pyIter_list (s:={ s with heap:=h1,toks:=t1 }) hl1 ?_;show aN #[plainId_quiet F.cO _,?_];have sz:∀b o,s.heap.get? b=some o->b≠s.heap.objs.size:=λb o e=>aT^aK e;have k0:∀b o,s.heap.get? b=some o->h1.get? b=some o:=λb o e=>k1 b o^dH _ e;have k2:∀b o,h1.get? b=some o->(h1.push { cls:=.type "list_iterator", data:=.fields #v[.ref l,.int 0 0] }).get? b=some o:=λb o e=>dH _ e;have Ou:∀b o,h1.get? b=some o->b≠h1.objs.size:=λb o e=>aT^aK e;have dd1:h1.DictOf (ck prog w) s.heap.objs.size []:=let⟨o,es,ep,x,r⟩:=dd;#[o,es,ep,k1 _ _ x,r];have hdi:s.heap.objs.size≠h1.objs.size:=by let#[o,_,_,x,_]:=dd1;show Ou _ _ x
 let#[ol,nl,Dg,_]:=hx;show Dl (s0:={ s with heap:=h1.push { cls:=.type "list_iterator", data:=.fields #v[.ref l,.int 0 0] },toks:=t1 }) (it:=h1.objs.size) (l:=l) (d:=s.heap.objs.size) (its:=its) (n:=n) (ks:=ks) (vs:=vs) hdi (bz^sz _ _ Dg) (Ou _ _^k0 _ _ Dg) hh hn hsz (λi hi=>?_) (let⟨o,a,r⟩:=hl1;#[o,k2 _ _ a,r]) (λh' tk rs k' d' rel=>?_) _ 0 _ t1 [] 0 rfl (aI _) (λb o _ _ e=>e) #[_,iX _ rfl,rfl,rfl] (let⟨o,es,ep,x,r⟩:=dd1;#[o,es,ep,k2 _ _ x,r]) .nil;let#[T,u,v,o,c,a1,a2,a3,a4,a5,a6]:=hp i hi;show#[T,u,v,o,c,a1,k2 _ _^k0 _ _ a2,a3,a4,Ou _ _^k0 _ _ a2,sz _ _ a2,a5,a6];show#[rfl,q h' tk rs (λb o e=>k' b o (Ou _ _^k0 _ _ e) (sz _ _ e)^k2 _ _^k0 _ _ e) d' rel]
noncomputable def yE(ps:List (Key×V)):List (Key×V):=jl (λi=>(ps.getD i (.inl 0,.dD)).1) (λi=>(ps.getD i (.inl 0,.dD)).2) ps.length
def uH(H:Hp):List V->List (Key×V)->Prop:=Paired λu p=>∃t,u=.ref t/\H t=some^.tup [kV p.1,p.2]
def WY(K:aF):List V->Hp->VK->Prop:=λvs H Q=>∃a us ps,vs=[.ref a]/\bB K H a us/\uH H us ps/\∀p,H p=none->Q (.ref p)^upd H p^.dK^yE ps
theorem wY{H:Hp}:∀{us:List V}{ps:List (Key×V)},uH H us ps->us.length=ps.length/\∀i,i<ps.length->∃t,us[i]?=some^.ref t/\H t=some (.tup [kV (ps.getD i (.inl 0,.dD)).1,(ps.getD i (.inl 0,.dD)).2])
 | _,_,.nil=>#[rfl,λi h=>absurd h^fZ _]
 | _,_,.cons h t=>by
  let#[e,k]:=wY t;show#[by simp[e],λi hi=>?_];cases i with
  | zero =>
   let#[z,rfl,hz]:=h;show#[z,rfl,hz]
  | succ i =>
   let#[z,h1,h2]:=k i (by simpa using hi);show#[z,by simpa using h1,by simpa[List.getD] using h2]
theorem Aj(hc:X.calm=true):dU X (.type "dict")^WY X.K:=by
 intro u5 s σ H xs us Q I r h;let#[l,ul,ps,rfl,hS,hP,q]:=h;let#[u,rfl,r1]:=vals1 r;cases r1;let#[its,rv,pl,hz]:=I.list hS;let#[e1,hk]:=wY hP;have hA:X.A.in1.in1.handled=none:=I.ok.hd hc;have big:@LT.lt Nat _ sysModules s.heap.objs.size:=I.big;have n6:@Ne Nat s.heap.objs.size sysModules:=∅;have hl:=rv.length;show Dm (n:=ps.length) (ks:=λi=>(ps.getD i (.inl 0,.dD)).1) (vs:=λi=>(ps.getD i (.inl 0,.dD)).2) pl hA ∅ (by rw[aY];lia) (λi hi=>?_) λh' tk rs k' d' rel=>?_
 .let#[t,ht,htt]:=hk i hi;let#[w,hw,rw']:=rv.get ht;cases rw';let#[its2,rv2,pt,_]:=I.tuple^cY.of htt;let#[o,ho,hc',n,hd]:=pt;cases rv2 with
  | cons a1 b1 =>
   cases b1 with
   | cons a2 b2 =>
    cases b2;show#[t,_,_,o,n,by simpa using hw,ho,hc',hd,a1,a2]
 .have I3:Inv X u5 σ H { s with heap:=h',toks:=tk }:=I.kept k';have fd:gU X u5 H s.heap.objs.size:=I.oF (ay _)^I.hok.fresh^ay _;have I4:=I3.z9 fd (o:=.dK^yE ps) #[bO (oJ _ _ _) ∅,beq_eq_false_iff_ne.mpr n6,rs,rel,d'];show#[.ref _,_,I4,rfl,q _ fd.1]
def WZ{us:List V}{ps:List (Key×V)}(hS:bB K H a us)(hP:uH H us ps)(h:∀p H',eV H p (.dK^yE ps) H'->Q (.ref p) H'):WY K [.ref a] H Q:=#[a,us,ps,rfl,hS,hP,λp hp=>h p _ #[hp,rfl]]
def ae9{x:Int}(hd:H a=some^.dK kvs)(h:Q (.bl (fQ kvs^.inl x).isSome) H):rDI (.int x) (.ref a) H Q:=#[a,_,rfl,.inl #[kvs,.inl x,.inl hd,rfl,rfl],h]
theorem mL(f:Nat->Int):∀n,argBest (λi j=>decide (f i>f j)) n<=n/\∀i,i<=n->f i<=f (argBest (λi j=>decide (f i>f j)) n)
 | 0=>#[ay _,λi h=>by rw[Nat.le_zero.mp h];show j3 _]
 | n+1=>by
  let#[h1,h2]:=mL f n;by_cases h:f (n+1)>f^argBest (λi j=>decide (f i>f j)) n
  .have e:argBest (λi j=>decide (f i>f j)) (n+1)=n+1:=by erw[argBest];rw[if_pos^decide_eq_true h]
   rw[e];show#[ay _,λi hi=>?_];rcases bg i (n+1) with hl|hl
   .have:=h2 i ∅;lia
   .rw[show i=n+1 by lia];show j3 _
  .have e:argBest (λi j=>decide (f i>f j)) (n+1)=argBest (λi j=>decide (f i>f j)) n:=by erw[argBest];rw[if_neg^by simpa using h]
   rw[e];show#[∅,λi hi=>?_];rcases bg i (n+1) with hl|hl;show h2 i ∅
   .rw[show i=n+1 by lia];lia
theorem wZ:∀{xs:List Int}{its:List Value},Vals (xs.map V.int) its->∃ps:List (Int×Tok),its=ps.map (λp=>.int p.1 p.2)/\ps.map (·.1)=xs
 | [],_,.nil=>#[[],rfl,rfl]
 | x::xs,_,.cons r t=>by let#[u,rfl]:=r;let#[ps,rfl,e]:=wZ t;show#[(x,u)::ps,rfl,by simp[e]]
section
variable {σ:St}
def Tu{x:V}(d e:PyData)(k:Nat)(hk:k<=64)(hx:RD K H x d)(hy:RD K H y e)(hs:Sh k d)(hs':Sh k e)(h:Q (.bl^PyData.eqv d e) H):KA K x y H Q:=#[d,e,hx,hy,hs.shaped hk,hs'.shaped hk,h]
def Tv{x:V}(d e:PyData)(k:Nat)(hk:k<=64)(hx:RD K H x d)(hy:RD K H y e)(hs:Sh k d)(hs':Sh k e)(h:Q (.bl (!PyData.eqv d e)) H):Ti K x y H Q:=#[d,e,hx,hy,hs.shaped hk,hs'.shaped hk,h]
end
section
variable {σ:St}
end
section
variable {σ:St}
end
section
variable {nx bk ct:St->Hp->Prop}{σ:St}
end
section
variable {nx:St->Hp->Prop}{σ:St}{tb:TS}
end
section
variable {τ:St}
end
section
variable {nx bk ct:St->Hp->Prop}{σ:St}{t u:TS}
def E8(t u:TS):TS:=Sn t u
def abT{D:Ends}(h:E8 t u D σ H):Sn t u D σ H:=h
def Tw(h:∀nx':St->Hp->Prop,(∀σ H,u #[nx,rt,λ_ _=>False,λ_ _=>False] σ H->nx' σ H)->t #[nx',rt,λ_ _=>False,λ_ _=>False] σ H):E8 t u #[nx,rt,λ_ _=>False,λ_ _=>False] σ H:=h _ λ_ _ x=>x
def Dp(h:∀nx':St->Hp->Prop,(∀σ H,u #[nx,rt,bk,ct] σ H->nx' σ H)->t #[nx',rt,bk,ct] σ H):E8 t u #[nx,rt,bk,ct] σ H:=h _ λ_ _ x=>x
def Tz(h:∀no bk' ct':St->Hp->Prop,(∀σ H,nx σ H->no σ H)->(∀σ H,bk σ H->bk' σ H)->(∀σ H,ct σ H->ct' σ H)->∀nx':St->Hp->Prop,(∀σ H,u #[no,rt,bk',ct'] σ H->nx' σ H)->t #[nx',rt,bk',ct'] σ H):E8 t u #[nx,rt,bk,ct] σ H:=h _ _ _ (λ_ _ x=>x) (λ_ _ x=>x) (λ_ _ x=>x) _ λ_ _ x=>x
def W2{c:TT}(h:∀kt kf:Hp->Prop,(∀H,t #[nx,rt,bk,ct] σ H->kt H)->(∀H,u #[nx,rt,bk,ct] σ H->kf H)->c σ H λb H1=>if b=true then kt H1 else kf H1):VX c t u #[nx,rt,bk,ct] σ H:=h _ _ (λ_ x=>x) λ_ x=>x
end
end L2
namespace SN
open PySem
variable {xs:Array Nat}
theorem KN(hs:xs.toList.Pairwise (· < ·)):∀(fuel lo hi:Nat),hi-lo<=fuel->lo<=hi->hi<=xs.size->(∀i v,i<lo->xs[i]?=some v->v<j)->(∀i v,hi<=i->xs[i]?=some v->j<=v) ->
  ∀p,SetTable.below.go xs j fuel lo hi=p->p<=xs.size/\(∀i v,i<p->xs[i]?=some v->v<j)/\∀i v,p<=i->xs[i]?=some v->j<=v:=by
 have mono:∀{i k:Nat}{v u:Nat},i<k->xs[i]?=some v->xs[k]?=some u->v<u:=λ{i k v u} hik hi hk=>by rw[<- gh] at hi hk;let#[h1,e1]:=eX hi;let#[h2,e2]:=eX hk;rw[<- e1,<- e2];show kX.mp hs i k h1 h2 hik
 intro fuel;induction fuel with
 | zero =>
  intro lo hi hf hlh hsz h1 h2 p e;unfold SetTable.below.go at e;subst e;have:lo=hi:=∅;show#[∅,h1,λi v hi'=>h2 i v ∅]
 | succ fuel ih =>
  intro lo hi hf hlh hsz h1 h2 p e;unfold SetTable.below.go at e;by_cases hlt:lo<hi
  .rw[if_pos hlt] at e;dsimp only at e;have hm:(lo+hi) / 2<xs.size:=∅;have hg:xs[(lo+hi) / 2]?=some xs[(lo+hi) / 2]:=gf hm;have hgd:xs.getD ((lo+hi) / 2) j=xs[(lo+hi) / 2]:=by simp[Array.getD,hm]
   rw[hgd] at e;by_cases hc:xs[(lo+hi) / 2]<j
   .rw[if_pos hc] at e;show ih ((lo+hi) / 2+1) hi ∅ ∅ hsz (λi v hi' hv=>?_) h2 p e;rcases bg i ((lo+hi) / 2) with hl|hg'
    .have:=mono hl hv hg;lia
    .have:i=(lo+hi) / 2:=∅;subst this;rw[hg] at hv;cases hv;show hc
   .rw[if_neg hc] at e;show ih lo ((lo+hi) / 2) ∅ ∅ ∅ h1 (λi v hi' hv=>?_) p e;rcases bg ((lo+hi) / 2) i with hl|hg'
    .have:=mono hl hg hv;lia
    .have:i=(lo+hi) / 2:=∅;subst this;rw[hg] at hv;cases hv;lia
  .rw[if_neg hlt] at e;subst e;show#[∅,h1,λi v hi'=>h2 i v ∅]
theorem lC(hs:xs.toList.Pairwise (· < ·))(j:Nat):SetTable.below xs j<=xs.size/\(∀i v,i<SetTable.below xs j->xs[i]?=some v->v<j)/\∀i v,SetTable.below xs j<=i->xs[i]?=some v->j<=v :=
 KN hs xs.size 0 xs.size ∅ ∅ (ay _) (λi v h=>absurd h^fZ _) (λi v h hv=>by
  have:=(nU.mp hv).1;lia) _ rfl
theorem Dq(hs:xs.toList.Pairwise (· < ·)):SetTable.below xs 0=0:=by let#[h1,h2,_]:=lC hs 0;rcases Nat.eq_zero_or_pos^SetTable.below xs 0 with e|hp;show e;have:=h2 0 xs[0] hp (gf ∅);lia
theorem Dr(hs:xs.toList.Pairwise (· < ·)){v:Nat}(hv:xs[i]?=some v):SetTable.below xs (v+1)=i+1:=by
 let#[h1,h2,h3]:=lC hs (v+1);have hi:=(nU.mp hv).1;have mono:∀{i k:Nat}{v u:Nat},i<k->xs[i]?=some v->xs[k]?=some u->v<u:=λ{i k v u} hik hi hk=>by rw[<- gh] at hi hk;let#[h1,e1]:=eX hi;let#[h2,e2]:=eX hk;rw[<- e1,<- e2];show kX.mp hs i k h1 h2 hik
 rcases nk (SetTable.below xs (v+1)) (i+1) with hl|he|hg;have:=h3 i v ∅ hv;lia;show he;have hk:i+1<xs.size:=∅;have hu:=gf hk;have h4:=h2 (i+1) _ hg hu;have h5:=mono (jT i) hv hu;lia
theorem nV(hs:xs.toList.Pairwise (· < ·))(hj:∀(i:Nat)(v:Nat),xs[i]?=some v->v≠j):(SetTable.insertAt xs (SetTable.below xs j) j).toList.Pairwise (· < ·):=by
 let#[h1,h2,h3]:=lC hs j;rw[SetTable.toList_insertAt];have hmt:∀v∈xs.toList.take^SetTable.below xs j,v<j:=λv hv=>by
  let#[i,hi]:=fM.mp hv;have hlt:i<SetTable.below xs j:=by have:=(eX hi).1;rw[cB] at this;lia
  rw[tX hlt,gh] at hi;show h2 i v hlt hi
 have hmd:∀v∈xs.toList.drop^SetTable.below xs j,j<v:=λv hv=>by let#[i,hi]:=fM.mp hv;rw[List.getElem?_drop,gh] at hi;have h4:=h3 _ v (oE _ _) hi;have h5:=hj _ v hi;lia
 rw[List.pairwise_append];show#[hs.sublist (List.take_sublist ..),?_,λa ha b hb=>?_];rw[qM];show#[hmd,hs.sublist (List.drop_sublist ..)]
 .have:=hmt a ha;rcases aH.mp hb with e|hb;lia
  .have:=hmd b hb;lia
end SN
namespace SG
open PySem
variable {es:Array (Int×Value)}{t:SetTable}{tp:Addr}{o:Obj}{Q:Value->Shared->Prop}{ys:List Nat}
structure Tab (led:Bool) (es:Array (Int×Value)) (t:SetTable):Prop where
 led:t.led=led
 Hh:t.dummies=#[]
 up:t.place.toList.Pairwise (· < ·)
 fits:t.fits es.size=true
def Tab.sz(T:Tab led es t):t.place.size=es.size:=by have:=T.fits;unfold SetTable.fits at this;erw[rO,beq_iff_eq] at this;show this.1
def pL(h:t.dummies=#[])(j:Nat):SetTable.has t.dummies j=false:=by unfold SetTable.has;rw[h];simp
theorem oK(hs:t.place.toList.Pairwise (· < ·))(h:t.slot j=.empty):∀(i:Nat)(v:Nat),t.place[i]?=some v->v≠j:=by
 intro i v hv e;subst e;let#[h1,h2,h3]:=SN.lC hs v;have hi:SetTable.below t.place v<=i:=by rcases bg i^SetTable.below t.place v with hl|hg;show absurd (h2 i v hl hv)^gK _;show hg
 have hlt:=(nU.mp hv).1;have hb:SetTable.below t.place v<t.place.size:=Nat.lt_of_le_of_lt hi hlt;have hg:=gf hb;have h4:=h3 _ _ (ay _) hg;have hi2:SetTable.below t.place v=i:=by rcases bg (SetTable.below t.place v) i with hl|hge;rw[<- gh] at hv hg;let#[a1,e1]:=eX hg;let#[a2,e2]:=eX hv;have:=kX.mp hs _ _ a1 a2 hl;rw[e1,e2] at this;lia;lia
 unfold SetTable.slot at h;dsimp only at h;rw[hi2,hv] at h;simp at h
def Ak(hd:t.dummies=#[])(f:Nat->Int)(x:Int):∀(fuel:Nat)(p:SetTable.Probe)(j:Nat)(dm:Option Nat),p.dummy=none->SetTable.probe.go t f x fuel p=some^.empty j dm->dm=none/\t.slot j=.empty:=by
 intro fuel;induction fuel with
 | zero=>intro p j dm _ h;cases h
 | succ fuel ih =>
  intro p j dm hp h;have adv:(t.advance p).dummy=none:=by unfold SetTable.advance;split<;>show hp
  unfold SetTable.probe.go at h;cases hs:t.slot p.j with
  | empty =>
   rw[hs] at h;cases h;show#[hp,hs]
  | dummy =>
   exfalso;unfold SetTable.slot at hs;dsimp only at hs;rw[pL hd] at hs;split at hs<;>cases hs
  | live i =>
   rw[hs] at h;dsimp only at h;split at h;cases h;show ih _ j dm adv h
def Hi(hd:t.dummies=#[]){x:Int}{b:Bool}(h:t.freeSlot x=some (j,b)):b=false/\t.slot j=.empty:=by
 unfold SetTable.freeSlot at h;cases e:t.probe (λ_=>x+1) x^t.probeStart x with
 | none=>rw[e] at h;cases h
 | some m =>
  cases m with
  | candidate _ _ _=>rw[e] at h;cases h
  | empty k dm =>
   rw[e] at h;let#[rfl,h2]:=Ak hd _ _ _ _ k dm rfl e;cases h;show#[rfl,h2]
def pM(n:Nat):(Array.range n).toList.Pairwise (· < ·):=by rw[Array.toList_range];show yg
def Tab.lay(T:Tab led es t)(h:Int)(x:Value):
  ∃es1 t1 gv,layNew t es h x=(es1,t1,false,gv)/\Tab led es1 t1/\es1.toList.Perm (es.toList++[(h,x)]):=by
 have hp:=layNew_perm t es h x;have hf:=layNew_fits t es h x;rw[Array.toList_push] at hp;cases e:t.freeSlot h with
 | none =>
  have el:layNew t es h x=(es.push (h,x),t.standIn (es.size+1),false,true):=by unfold layNew;rw[e]
  rw[el] at hp hf;show#[_,_,_,el,#[T.led,rfl,pM _,hf],hp]
 | some q =>
  let#[j,b]:=q;let#[rfl,hs]:=Hi T.Hh e;have TF:t.put j=({ t with place:=SetTable.insertAt t.place (SetTable.below t.place j) j },SetTable.below t.place j):=by unfold SetTable.put;rw[pL T.Hh];rfl
  have el:layNew t es h x=(SetTable.insertAt es (SetTable.below t.place j) (h,x),({ t with place:=SetTable.insertAt t.place (SetTable.below t.place j) j }:SetTable).orStandIn (SetTable.insertAt es (SetTable.below t.place j) (h,x)).size,false,!({ t with place:=SetTable.insertAt t.place (SetTable.below t.place j) j }:SetTable).fits (SetTable.insertAt es (SetTable.below t.place j) (h,x)).size):=by unfold layNew;rw[e];dsimp only;rw[TF]
  rw[el] at hp hf;dsimp only at hp hf;show#[_,_,_,el,#[?_,?_,?_,hf],hp];unfold SetTable.orStandIn;split<;>show T.led;unfold SetTable.orStandIn;split;show T.Hh;rfl;unfold SetTable.orStandIn;split;show SN.nV T.up^oK T.up hs;show pM _
def Tab.W3(T:Tab led es t)(n:Nat):
    ∃es1 t1 gv,relayAll t es n=(es1,t1,gv)/\Tab led es1 t1/\es1.toList.Perm es.toList:=by
  have hp:=relayAll_perm t es n;have hf:=relayAll_fits t es n;generalize hR:relayAll t es n=R at hp hf;let#[es1,t1,gv]:=R;dsimp only at hp hf;show#[es1,t1,gv,rfl,#[?_,?_,?_,hf],hp]<;>clear hp hf<;>unfold relayAll at hR<;>cases e:t.relaid (es.map (·.1)) n with
  | none =>
    rw[e] at hR;cases hR
    first|show T.led|rfl|show pM _
  | some q =>
    let#[t',od]:=q;rw[e] at hR;dsimp only at hR;split at hR
    · obtain⟨rfl,rfl,_⟩:_/\_/\_:=by simpa only[Prod.mk.injEq] using hR
      unfold SetTable.relaid SetTable.laid at e;cases e2:SetTable.layClean (SetTable.sizeAbove n-1)^es.map (·.1) with
      | none=>rw[e2] at e;cases e
      | some ow =>
        rw[e2] at e;cases e
        first
          | show T.led
          | rfl
          | (rw[List.toList_toArray,jj]
             show List.Pairwise.filterMap _ (λa b hab x hx y hy=>?_)^yg (n:=SetTable.sizeAbove n-1+1);let#[_,_,rfl]:=cE.mp hx;let#[_,_,rfl]:=cE.mp hy;show hab)
    · cases hR
      first|show T.led|rfl|show pM _
open PySem.Spec PyProof.Rows
noncomputable def cJ(w:World):Bool:=w.params.followText "set-order"
def Ov:entryFor table "set.__iter__" = some Builtin.«frozenset.__iter__»:=entryFor_alias (id' := "frozenset.__iter__") (by kernel_rfl) rfl (by decide +kernel) (by kernel_rfl)
def gF:Slot "set_iterator" "__next__" "set_iterator.__next__" := .of (owner := "set_iterator") (n := "__next__") (by rw[typeLookup_type,builtinLookup_eq_fast];kernel_rfl) (by decide +kernel) (by decide +kernel) (by decide +kernel) (by first|show .inl (by decide +kernel)|show .inr^by decide +kernel) (by rw[isSubtype_type];kernel_rfl)
def sQ:entryFor table "set_iterator.__next__" = some Builtin.«set_iterator.__next__»:=entryFor_of_tree (by kernel_rfl)
def sR(a:Value):argsOk "set_iterator.__next__" #[[a],[]]:=by unfold argsOk;kernel_rfl
def sS:Slot "set_iterator" "__iter__" "set_iterator.__iter__" := .of (owner := "set_iterator") (n := "__iter__") (by rw[typeLookup_type,builtinLookup_eq_fast];kernel_rfl) (by decide +kernel) (by decide +kernel) (by decide +kernel) (by first|show .inl (by decide +kernel)|show .inr^by decide +kernel) (by rw[isSubtype_type];kernel_rfl)
def E9:entryFor table "set_iterator.__iter__" = some Builtin.«dict_keyiterator.__iter__»:=entryFor_alias (id' := "dict_keyiterator.__iter__") (by kernel_rfl) rfl (by decide +kernel) (by kernel_rfl)
def Fb(a:Value):argsOk "set_iterator.__iter__" #[[a],[]]:=by unfold argsOk;kernel_rfl
noncomputable def ord(w:World)(a:Addr)(es:Array (Int×Value))(ep:Nat):Array (Int×Value):=if cJ w=true then pickOrder (w.params.setOrder a ep) es else es
theorem oM{α:Type}:∀(l:List α)(i:Nat)(h:i<l.length),(l[i]::l.eraseIdx i).Perm l
 | x::l,0,_=>oq _
 | x::l,i+1,h=>by
  have hi:i<l.length:=by simpa using h
  erw[List.getElem_cons_succ,List.eraseIdx_cons_succ];show(List.Perm.swap x l[i] _).trans^(oM l i hi).cons x
theorem w4{α:Type}(nx:Nat->Nat):∀(fuel k:Nat)(left:List α)(out:Array α),left.length<=fuel->(pickOrder.go nx fuel k left out).toList.Perm (out.toList++left)
 | 0,k,left,out,h=>by
  unfold pickOrder.go;rw[List.eq_nil_of_length_eq_zero^Nat.le_zero.mp h,fL]
 | fuel+1,k,left,out,h=>by
  unfold pickOrder.go;cases e:left[nx k % left.length]? with
  | none =>
   dsimp only;have:left=[]:=by
    cases left with
    | nil=>rfl
    | cons x l =>
     have hlt:nx k % (x::l).length<(x::l).length:=Nat.mod_lt _^Nat.zero_lt_succ _;rw[dJ hlt] at e;cases e
   rw[this,fL]
  | some x =>
   dsimp only;let#[hlt,ex]:=eX e;have hl:(left.eraseIdx (nx k % left.length)).length<=fuel:=by rw[List.length_eraseIdx_of_lt hlt];lia
   show(w4 nx fuel (k+1) _ (out.push x) hl).trans ?_;rw[Array.toList_push,kR];show List.Perm.append_left _ ?_;have:=oM left _ hlt;rw[ex] at this;show this
def KO(w:World)(a:Addr)(es:Array (Int×Value))(ep:Nat):(ord w a es ep).toList.Perm es.toList:=by unfold ord;split;unfold pickOrder;have:=w4 (w.params.setOrder a ep) es.size 0 es.toList #[] (by simp);simpa using this;show oq _
def wm{M:Model}{src:Source}{Q:Nat->Shared->Prop}(hn:n≠0)(h:∀i,i<n->Q i { s with drawn:=s.drawn.bump src }):wpAny M A (choose src n) Q E s :=
 λ_ _ _=>#[hn,h _^Nat.mod_lt _^Nat.pos_of_ne_zero hn]
theorem uI{M:Model}{A:Around}{E:Value->Shared->Prop}{α:Type}:∀(n:Nat)(xs:List α)(s:Shared)(Q:List α->Shared->Prop),xs.length<=n->(∀ys d',ys.Perm xs->Q ys { s with drawn:=d' })->wpAny M A (drawOrder n xs) Q E s
 | 0,xs,s,Q,hn,h=>by
  have:xs=[]:=List.eq_nil_of_length_eq_zero^Nat.le_zero.mp hn;subst this;show aN^h [] s.drawn^oq _
 | n+1,[],s,Q,hn,h=>aN^h [] s.drawn^oq _
 | n+1,x::xs,s,Q,hn,h=>by
  unfold drawOrder;show au (wm (by simp) λi hi=>?_);have e:(x::xs)[i]?=some (x::xs)[i]:=dJ hi;rw[e];dsimp only;have hl:((x::xs).eraseIdx i).length<=n:=by rw[List.length_eraseIdx_of_lt hi];erw[cW] at hn ⊢;lia
  show au (uI n _ _ _ hl λys d' hp=>aN ?_);show h _ d'^(hp.cons _).trans^oM _ i hi
def Still(w:World)(es:Array (Int×Value))(t:SetTable):Prop:=cJ w=true\/t.plain=true\/es.size<=1
def Hj(w:World)(a:Addr)(o:Obj)(es:Array (Int×Value))(ep:Nat)(t:SetTable)(it:Addr)(i:Nat)(h:Heap):Prop :=
 h.get? a=some o/\∃oi sl,h.get? it=some oi/\oi.cls=.type "set_iterator" /\ oi.data=.fields #v[.int ((sl:Nat):Int) 0,.int ((i:Nat):Int) 0,.ref a,.int ((es.size:Nat):Int) 0,.int ((ep:Nat):Int) 0]/\(cJ w=false->SetTable.below t.place sl=i)
def Hj.ty(h:Hj w a o es ep t it i s.heap):s.TypeIs (.ref it) "set_iterator" := by let#[_,oi,sl,h1,h2,_]:=h;show#[oi,h1,h2]
theorem Fc{sl:Nat}{Q:Option (Value×Nat)->Shared->Prop}(ho:s.heap.get? a=some o)(hd:o.data=.set es ep t)(T:Tab (!cJ w) es t)(hst:Still w es t)(hb:cJ w=false->SetTable.below t.place sl=i)
  (h:∀Nz,(∀e,(ord w a es ep)[i]?=some e->cJ w=false->SetTable.below t.place Nz=i+1)->Q ((ord w a es ep)[i]?.map λe=>(e.2,Nz)) s):wpAny (model prog w) A (setNext a sl i ep) Q E s:=by
 unfold setNext;show au^wpAny_setState_of ho hd T.fits ?_;dsimp only;unfold setsByText;show au^au^wpAny_askSetting^aN ?_;change wpAny _ _ (if cJ w=true then _ else _) _ _ _;cases hx:cJ w with
 | true =>
  rw[if_pos rfl];erw[bne_self_eq_false,bW,if_false];show au ?_;unfold setWalk;show au^wpAny_setState_of ho hd T.fits ?_;dsimp only;unfold setsByText;show au^au^wpAny_askSetting^aN ?_;change wpAny _ _ (if cJ w=true then _ else _) _ _ _;rw[if_pos hx];show au^wpAny_askSetting^aN^aN ?_;have:=h sl (λe _ z=>by rw[hx] at z;cases z);unfold ord at this;rw[if_pos hx] at this;show this
 | false =>
  rw[if_neg^by decide];have W4:t.led=true:=by rw[T.led,hx];rfl
  have hz:=T.sz;have hup:=T.up;have hb':=hb hx;have ho':ord w a es ep=es:=by unfold ord;rw[hx];rfl
  rw[ho'] at h;have hdr:(!t.plain&&decide (es.size>1))=false:=by rcases hst with e|e|e;rw[hx] at e;cases e;rw[e];rfl;have:decide (es.size>1)=false:=decide_eq_false ∅;rw[this,Bool.and_false]
  clear T hb ho hd hst;let#[mask,place,dummies,finger,led,moves,plain]:=t;dsimp only at W4 hz hup hb' h hdr;subst W4;change wpAny _ _ (if(!plain&&decide (es.size>1))=true then _ else _) _ _ _;rw[if_neg (by rw[hdr];decide)];show au^wpAny_of_eq (a:=()) rfl ?_;dsimp only;rw[hb'];rcases bg i es.size with hlt|hge
  .have e1:es[i]?=some es[i]:=gf hlt;have e2:place[i]?=some place[i]:=gf ∅;rw[e1,e2];show aN ?_;have:=h (place[i]+1) (λ_ _ _=>SN.Dr hup e2);rw[e1] at this;show this
  .have e1:es[i]?=none:=rN hge;rw[e1];show aN ?_;have:=h 0 (λe z=>by rw[e1] at z;cases z);rw[e1] at this;show this
def Ow{e:Int×Value}{Q:Option Value->Shared->Prop}(hne:a≠it)(hd:o.data=.set es ep t)(T:Tab (!cJ w) es t)(hst:Still w es t)
  (I:Hj w a o es ep t it i s.heap)(hi:(ord w a es ep)[i]?=some e)(hQ:∀h',Hj w a o es ep t it (i+1) h'->(∀b x,b≠it->s.heap.get? b=some x->h'.get? b=some x)->Q (some e.2) { s with heap:=h' }):wpAny (model prog w) A (pyNext^.ref it) Q E s:=by
 have ty:=I.ty;let#[ho,oi,sl,zK,hc,hf,hb]:=I;unfold pyNext;show au^wpAny_attempt^wpAny_callSpecial?_slot (name:=Str.ofString "__next__") ty gF^wpAny_call_entry gF ty sQ ?_^sR _;unfold Builtin.«set_iterator.__next__»;show au^wpAny_of_eq (a:=(Value.ref it,[])) rfl ?_;show au^wpAny_fieldsOf zK hf ?_;dsimp only;show au^wpAny_setEntries_of ho hd T.fits ?_;rw[if_neg^by simp];rw[show((sl:Nat):Int).toNat=sl from rfl,show((i:Nat):Int).toNat=i from rfl,show((ep:Nat):Int).toNat=ep from rfl];show au (Fc ho hd T hst hb λNz hb'=>?_);rw[hi];change wpAny _ _ (do setField (.ref it) 0^rawInt Nz;setField (.ref it) 1^rawInt ((i:Int)+1);ret e.2) _ _ s;have g1:=gI (Obj.mapFields (·.setIfInBounds 0 (rawInt Nz))) zK^kY^fB hf _;have d1:=fB hf (·.setIfInBounds 0 (rawInt Nz));show au^wpAny_setField zK hf (by simp)^au^wpAny_setField g1 d1 (by simp)^aN #[_,rfl,aN (hQ _ ?_ λb x hb e=>?_)]
 .have hk:∀(f g:Obj->Obj)(b:Addr)(x:Obj),b≠it->s.heap.get? b=some x->((s.heap.update it f).update it g).get? b=some x:=λf g b x hb e=>by rw[fK _ _ _ _ hb,fK _ _ _ _ hb];show e
  show#[hk _ _ _ _ hne ho,_,Nz,gI _ g1^kY^fB d1 _,(nu ..).trans^(nu ..).trans hc,?_,λhx=>hb' e hi hx];rw[fB d1];simp[rawInt]
 .rw[fK _ _ _ _ hb,fK _ _ _ _ hb];show e
def TH{Q:Option Value->Shared->Prop}(hh:A.handled=none)(hne:a≠it)(hd:o.data=.set es ep t)(T:Tab (!cJ w) es t)(hst:Still w es t)
  (I:Hj w a o es ep t it i s.heap)(hi:(ord w a es ep)[i]?=none)(hQ:∀h',(∀b x,b≠it->s.heap.get? b=some x->h'.get? b=some x)->Q none { s with heap:=h' }):wpAny (model prog w) A (pyNext^.ref it) Q E s:=by have ty:=I.ty;let#[ho,oi,sl,zK,hc,hf,hb]:=I;unfold pyNext;show au^wpAny_attempt^wpAny_callSpecial?_slot (name:=Str.ofString "__next__") ty gF^wpAny_call_entry gF ty sQ ?_^sR _;unfold Builtin.«set_iterator.__next__»;show au^wpAny_of_eq (a:=(Value.ref it,[])) rfl ?_;show au^wpAny_fieldsOf zK hf ?_;dsimp only;show au^wpAny_setEntries_of ho hd T.fits ?_;rw[if_neg^by simp];rw[show((sl:Nat):Int).toNat=sl from rfl,show((i:Nat):Int).toNat=i from rfl,show((ep:Nat):Int).toNat=ep from rfl];show au (Fc ho hd T hst hb λNz hb'=>?_);rw[hi];change wpAny _ _ (do setField (.ref it) 2 .none;raiseNew (<- newExc (.type "StopIteration") [])) _ _ s;show au^wpAny_setField zK hf (by simp)^au ?_;erw[newExc,newTuple];show au (wpAny_newObj_type (au (m:=firstArgMember _ _)^wpAny_of_eq (a:=Value.none) (by first|rfl|(erw[firstArgMember];rfl))^wpAny_newObj_type ?_^by size_fits)^by size_fits);erw[raiseNew];show au^wpAny_handled ?_;rw[show A.in1.handled=none from hh];show au^aN^wpAny_throw ?go;show au^wpAny_isInstance (T := "StopIteration") (b:=true) (#[_,iX _ rfl,rfl]) isSubtype_stop ?_;show aN (hQ _ λb x hb e=>?_);show dH _^dH _ (by rw[fK _ _ _ _ hb];show e)
def Hl(hh:A.handled=none)(hne:a≠it)(hd:o.data=.set es ep t)(T:Tab (!cJ w) es t)(hst:Still w es t):
  Walks prog w A it [it,a] [it] (ord w a es ep).size (λi v=>∃e,(ord w a es ep)[i]?=some e/\v=e.2) (λi h=>Hj w a o es ep t it i h) where
 sub:=λb hb=>by simp at hb;simp[hb]
 frame:=λi h h' st hk=>by let#[h1,oi,sl,h2,r]:=st;show#[hk a (by simp) o h1,oi,sl,hk it (by simp) oi h2,r]
 item:=λi s Q E hi st hQ=>Ow hne hd T hst st (gf hi) λh' st' hk=>hQ _ h' s.toks #[_,gf hi,rfl] st' λb x hb e=>hk b x (λz=>hb^by simp[z]) e
 done:=λs Q E st hQ=>TH hh hne hd T hst st (rN^ay _) λh' hk=>hQ h' s.toks λb x hb e=>hk b x (λz=>hb^by simp[z]) e
 self:=λi s Q E st hQ=>by have ty:=st.ty;show wpAny_pyIter_slot ty sS^wpAny_call_entry sS ty E9 ?_^Fb _;change wpAny _ _ (ret^.ref it) _ _ s;show aN #[_,rfl, "set_iterator", _,ty,gF.lookup,hQ]
def Ho(a:Addr)(o:Obj)(es:Array (Int×Value))(ep:Nat)(tp:Addr)(ys:List Nat)(it:Addr)(i:Nat)(h:Heap):Prop :=
 h.get? a=some o/\(∃ot n,h.get? tp=some ot/\ot.data=.seq (ys.map λ(j:Nat)=>rawInt j).toArray n)/\∃oi,h.get? it=some oi/\oi.cls=.type "set_iterator" /\ oi.data=.fields #v[.ref tp,.int ((i:Nat):Int) 0,.ref a,.int ((es.size:Nat):Int) 0,.int ((ep:Nat):Int) 0]
def Ho.ty(h:Ho a o es ep tp ys it i s.heap):s.TypeIs (.ref it) "set_iterator" := by let#[_,_,oi,h1,h2,_]:=h;show#[oi,h1,h2]
def Ox{e:Int×Value}{Q:Option Value->Shared->Prop}(hne:a≠it)(hnt:tp≠it)(hd:o.data=.set es ep t)(hfit:t.fits es.size=true)
  (I:Ho a o es ep tp ys it i s.heap)(hi:ys[i]?=some j)(he:es[j]?=some e)(hQ:∀h',Ho a o es ep tp ys it (i+1) h'->(∀b x,b≠it->s.heap.get? b=some x->h'.get? b=some x)->Q (some e.2) { s with heap:=h' }):wpAny (model prog w) A (pyNext^.ref it) Q E s:=by
 have ty:=I.ty;let#[ho,#[ot,nt,w5,hdt],oi,zK,hc,hf]:=I;unfold pyNext;show au^wpAny_attempt^wpAny_callSpecial?_slot (name:=Str.ofString "__next__") ty gF^wpAny_call_entry gF ty sQ ?_^sR _;unfold Builtin.«set_iterator.__next__»;show au^wpAny_of_eq (a:=(Value.ref it,[])) rfl ?_;show au^wpAny_fieldsOf zK hf ?_;dsimp only;show au^wpAny_setEntries_of ho hd hfit ?_;rw[if_neg^by simp];show au^wpAny_seqItems w5 hdt ?_;dsimp only;rw[show((i:Nat):Int).toNat=i from rfl];have e1:((ys.map λ(j:Nat)=>rawInt j).toArray)[i]?=some^rawInt j:=by rw[lZ,aW,hi];rfl
 rw[e1];change wpAny _ _ (do let x <- setNextDrawn a ((j:Nat):Int).toNat ((ep:Nat):Int).toNat;setField (.ref it) 1^rawInt ((i:Int)+1);ret x) _ _ s;rw[show((j:Nat):Int).toNat=j from rfl,show((ep:Nat):Int).toNat=ep from rfl];show au ?_;unfold setNextDrawn;show au^wpAny_setState_of ho hd hfit ?_;dsimp only;rw[if_neg^by simp,he];show aN ?_;show au^wpAny_setField zK hf (by simp)^aN #[_,rfl,aN (hQ _ ?_ λb x hb e=>?_)];show#[by rw[fK _ _ _ _ hne];show ho,#[ot,nt,by rw[fK _ _ _ _ hnt];show w5,hdt],_,gI _ zK^kY^fB hf _,(nu ..).trans hc,?_];rw[fB hf];simp[rawInt];rw[fK _ _ _ _ hb];show e
def TJ{Q:Option Value->Shared->Prop}(hh:A.handled=none)(hne:a≠it)(hd:o.data=.set es ep t)(hfit:t.fits es.size=true)
  (I:Ho a o es ep tp ys it i s.heap)(hi:ys[i]?=none)(hQ:∀h',(∀b x,b≠it->s.heap.get? b=some x->h'.get? b=some x)->Q none { s with heap:=h' }):wpAny (model prog w) A (pyNext^.ref it) Q E s:=by
 have ty:=I.ty;let#[ho,#[ot,nt,w5,hdt],oi,zK,hc,hf]:=I;unfold pyNext;show au^wpAny_attempt^wpAny_callSpecial?_slot (name:=Str.ofString "__next__") ty gF^wpAny_call_entry gF ty sQ ?_^sR _;unfold Builtin.«set_iterator.__next__»;show au^wpAny_of_eq (a:=(Value.ref it,[])) rfl ?_;show au^wpAny_fieldsOf zK hf ?_;dsimp only;show au^wpAny_setEntries_of ho hd hfit ?_;rw[if_neg^by simp];show au^wpAny_seqItems w5 hdt ?_;dsimp only;rw[show((i:Nat):Int).toNat=i from rfl];have e1:((ys.map λ(j:Nat)=>rawInt j).toArray)[i]?=none:=by rw[lZ,aW,hi];rfl
 rw[e1];change wpAny _ _ (do setField (.ref it) 0^rawInt 0;setField (.ref it) 2 .none;raiseNew (<- newExc (.type "StopIteration") [])) _ _ s;have g1:=gI (Obj.mapFields (·.setIfInBounds 0 (rawInt 0))) zK^kY^fB hf _;have d1:=fB hf (·.setIfInBounds 0 (rawInt 0));show au^wpAny_setField zK hf (by simp)^au^wpAny_setField g1 d1 (by simp)^au ?_;erw[newExc,newTuple];show au (wpAny_newObj_type (au (m:=firstArgMember _ _)^wpAny_of_eq (a:=Value.none) (by first|rfl|(erw[firstArgMember];rfl))^wpAny_newObj_type ?_^by size_fits)^by size_fits);erw[raiseNew];show au^wpAny_handled ?_;rw[show A.in1.handled=none from hh];show au^aN^wpAny_throw ?go;show au^wpAny_isInstance (T := "StopIteration") (b:=true) (#[_,iX _ rfl,rfl]) isSubtype_stop ?_;show aN (hQ _ λb x hb e=>?_);show dH _^dH _ (by rw[fK _ _ _ _ hb,fK _ _ _ _ hb];show e)
noncomputable def rV(es:Array (Int×Value))(ys:List Nat):Array (Int×Value):=(ys.map λj=>es.toList.getD j (0,.none)).toArray
def Ds(h:ys.Perm^List.range es.size):(rV es ys).toList.Perm es.toList:=by
 unfold rV;rw[List.toList_toArray];show(h.map _).trans ?_;have:(List.range es.size).map (λj=>es.toList.getD j (0,.none))=es.toList:=by show List.ext_getElem (by simp) λi h1 h2=>?_;erw[tZ,List.getElem_range];rw[nR,dJ h2];rfl
 rw[this]
def Al(hh:A.handled=none)(hne:a≠it)(hnt:tp≠it)(hd:o.data=.set es ep t)(hfit:t.fits es.size=true)(hp:ys.Perm^List.range es.size):
  Walks prog w A it [it,a,tp] [it] (rV es ys).size (λi v=>∃e,(rV es ys)[i]?=some e/\v=e.2) (λi h=>Ho a o es ep tp ys it i h) where
 sub:=λb hb=>by simp at hb;simp[hb]
 frame:=λi h h' st hk=>by let#[h1,#[ot,nt,h2,h3],oi,h4,r]:=st;show#[hk a (by simp) o h1,#[ot,nt,hk tp (by simp) _ h2,h3],oi,hk it (by simp) oi h4,r]
 item:=λi s Q E hi st hQ=>by
  have hi':i<ys.length:=by simpa[rV] using hi
  have e1:ys[i]?=some ys[i]:=dJ hi';have hj:ys[i]<es.size:=fN.mp^hp.mem_iff.mp^jC hi';have e2:es[ys[i]]?=some es[ys[i]]:=gf hj;show Ox hne hnt hd hfit st e1 e2 λh' st' hk=>hQ _ h' s.toks #[es[ys[i]],?_,rfl] st' λb x hb e=>hk b x (λz=>hb^by simp[z]) e;unfold rV;rw[lZ,aW,e1];change some^es.toList.getD ys[i] (0,.none)=_;rw[nR,gh,e2];rfl
 done:=λs Q E st hQ=>TJ hh hne hd hfit st (by simp[rV]) λh' hk=>hQ h' s.toks λb x hb e=>hk b x (λz=>hb^by simp[z]) e
 self:=λi s Q E st hQ=>by have ty:=st.ty;show wpAny_pyIter_slot ty sS^wpAny_call_entry sS ty E9 ?_^Fb _;change wpAny _ _ (ret^.ref it) _ _ s;show aN #[_,rfl, "set_iterator", _,ty,gF.lookup,hQ]
theorem KP(ho:s.heap.get? a=some o)(hx:o.ExactSet)(hd:o.data=.set es ep t)(T:Tab (!cJ w) es t)(hsz:es.size<=100000)
  (h:∀(it:Addr)(h':Heap)(d':Drawn)(fp:List Addr)(od:Array (Int×Value))(St:Nat->Heap->Prop),(∀b x,s.heap.get? b=some x->h'.get? b=some x)->s.heap.objs.size<=it->(∀b∈fp,b=a\/s.heap.objs.size<=b)->od.toList.Perm es.toList ->
   (∀A':Around,A'.handled=none->Walks prog w A' it fp [it] od.size (λi v=>∃e,od[i]?=some e/\v=e.2) St)->St 0 h'->Q (.ref it) { s with heap:=h',drawn:=d' }):wpAny (model prog w) A (pyIter^.ref a) Q E s:=by
 have ty:s.TypeIs (.ref a) "set" := #[o,ho,hx.1];have hlt:=aK ho;show wpAny_pyIter_slot ty F.slot_set_iter^wpAny_call_entry F.slot_set_iter ty Ov ?_^F.args_set_iter_1 _;unfold Builtin.«frozenset.__iter__»;show au^wpAny_of_eq (a:=a) rfl ?_;show au (m:=Builtin.Frozenset.sizeOf a)^au^wpAny_setEntries_of ho hd T.fits^aN ?_;unfold setDrawn;show au^au^wpAny_setState_of ho hd T.fits ?_;dsimp only;unfold setsByText;show au^au^wpAny_askSetting^aN^aN ?_;change wpAny _ _ (if(!cJ w&&(!t.plain&&decide (es.size>1)))=true then _ else _) _ _ _;by_cases hdr:(!cJ w&&(!t.plain&&decide (es.size>1)))=true
 .rw[if_pos hdr];show au (uI es.size (List.range es.size) s _ (by simp) λys d' hp=>?_);have hyl:ys.length=es.size:=by rw[hp.length_eq,l0]
  show au^wpAny_newTuple ?_ (by rw[aq,hyl,sizeLine_eq];lia);show au^wpAny_setEpoch_of (dH _ ho) hd T.fits^au^wpAny_newObj_type^aN #[_,rfl, "set_iterator", _,#[_,iX _ rfl,rfl],gF.lookup,?_];dsimp only;have hz:(s.heap.push { cls:=.type "tuple", data:=.seq (ys.map λ(i:Nat)=>rawInt i).toArray }).objs.size=s.heap.objs.size+1:=by rw[iJ]
  show h _ _ d' [_,a,s.heap.objs.size] (rV es ys) _ (λb x e=>dH _^dH _ e) (by rw[hz];show Nat.le_succ _) (λb hb=>?_) (Ds hp) (λA' hA=>Al hA (tp:=s.heap.objs.size) (by rw[hz];show aT^jS hlt) (by rw[hz];show aT^jT _) hd T.fits hp) ?_
  .erw[aH,g7,or_false] at hb;rcases hb with e|e|e;rw[e,hz];show .inr^Nat.le_succ _;show .inl e;rw[e];show .inr^ay _
  .show#[dH _^dH _ ho,#[_,_,dH _^iX _ rfl,rfl],_,iX _ rfl,rfl,rfl]
 .rw[if_neg hdr];have hst:Still w es t:=by unfold Still;cases hb:cJ w;cases hpl:t.plain;rw[hb,hpl] at hdr;simp at hdr;show .inr^.inr hdr;show .inr^.inl rfl;show .inl rfl
  show au^aN^au^wpAny_setEpoch_of ho hd T.fits^au^wpAny_newObj_type^aN #[_,rfl, "set_iterator", _,#[_,iX _ rfl,rfl],gF.lookup,?_];show h s.heap.objs.size _ s.drawn [s.heap.objs.size,a] (ord w a es ep) _ (λb x e=>dH _ e) (ay _) (λb hb=>?_) (KO w a es ep) (λA' hA=>Hl hA (aT hlt) hd T hst) ?_
  .erw[aH,g7,or_false] at hb;rcases hb with e|e;rw[e];show .inr^ay _;show .inl e
  .show#[dH _ ho,_,0,iX _ rfl,rfl,rfl,λ_=>SN.Dq T.up]
def TL(es:List (Int×Value)):Prop:=∀e∈es,∃n k,e=(hashInt n,Value.int n k)
def Small(led:Bool)(h:Heap)(a:Addr)(ns:List Int):Prop :=
 ∃o es ep t,h.get? a=some o/\o.ExactSet/\o.data=.set es ep t/\Tab led es t/\TL es.toList/\es.size=ns.length/\ns.Nodup/\∀n,n∈ns↔∃k,((hashInt n,Value.int n k):Int×Value)∈es.toList
def Small.at'(S:Small led h a ns)(e:∀o,h.get? a=some o->h'.get? a=some o):Small led h' a ns:=by let#[o,es,ep,t,ho,r]:=S;show#[o,es,ep,t,e o ho,r]
def TL.elems{es:List (Int×Value)}(h:TL es):ElemsOf (intKind prog w) es:=λe he=>by let#[n,k,rfl]:=h e he;show#[#[n,intKind_is _ _ _ _,rfl],rfl]
def Am(b:Bool){s1:Shared}{R:Unit->Shared->Prop}(h:R () s1):wpAny (model prog w) A (match b with|true=>rule "set.scan.the-table-gave-way" | false=>pure ()) R E s1:=by cases b;show aN h;show wpAny_rule h
theorem An(ho:s.heap.get? a=some o)(hx:o.ExactSet)(hd:o.data=.set es ep t){es1:Array (Int×Value)}{t1:SetTable}(T1:Tab led es1 t1)(hz:es1.size<=100000)
  {g:Bool->Sem Unit}(hg:∀(b:Bool)(s₁:Shared)(Q':Unit->Shared->Prop),Q' () s₁->wpAny (model prog w) A (g b) Q' E s₁){R:Option Bool->Shared->Prop}
  (h:∀h' o2 pN Hq t2,Heap.SameBut a s.heap h'->h'.get? a=some o2->o2.ExactSet->o2.data=.set pN Hq t2->Tab led pN t2->pN.toList.Perm es1.toList->R (some true) { s with heap:=h' }):
  wpAny (model prog w) A (do
    storeSet a es1 t1
    if(!false&&t1.tooFull)=true then do
      g (relayAll t1 es1^SetTable.grown es1.size).2.2
      storeSet a (relayAll t1 es1^SetTable.grown es1.size).1 (relayAll t1 es1^SetTable.grown es1.size).2.1
      pure^some true
     else pure^some true) R E s:=by
 show au^wpAny_storeSet_of ho hd ?_ (by rw[sizeLine_eq];lia);have TM:=gI (Obj.putSet es1 t1) ho (by rw[putSet_of es1 t1 hd];rfl);rw[putSet_of es1 t1 hd] at TM;have Rb:=kQ s.heap a^Obj.putSet es1 t1;split
 .let#[pN,t2,gv,er,T2,perm]:=T1.W3^SetTable.grown es1.size;rw[er];dsimp only;have hz2:pN.size=es1.size:=by rw[<- c8,perm.length_eq,c8]
  show au^hg _ _ _ ?_;show au^wpAny_storeSet_of TM rfl ?_ (by rw[sizeLine_eq];lia);have VC:=gI (Obj.putSet pN t2) TM (by rw[putSet_of pN t2 rfl];rfl);rw[putSet_of pN t2 rfl] at VC;show aN^h _ _ pN _ t2 (Rb.trans^kQ _ a _) VC hx rfl T2 perm
 .show aN^h _ _ es1 _ t1 Rb TM hx rfl T1^oq _
theorem add_int{k:Int}{q:Tok}{Q:Bool->Shared->Prop}(hS:Small led s.heap a ns)(hl:ns.length<=4000)
  (h:∀b h',Heap.SameBut a s.heap h'->Small led h' a (if k∈ns then ns else ns++[k])->Q b { s with heap:=h' }):wpAny (model prog w) A (setAddHashed a (.int k q)^hashInt k) Q E s:=by
 let#[o,es,ep,t,ho,hx,hd,T,hI,hz,nd,mem]:=hS;have hel:=hI.elems (prog:=prog) (w:=w);have hb:es.size<scanBound:=by unfold scanBound;lia
 have isk:(intKind prog w).is k^.int k q=true:=intKind_is _ _ _ _;unfold setAddHashed setAddHashedIn;show wpAny_holding^au^wpAny_setState_of ho hd T.fits ?_;dsimp only;rw[byScan_of (knd:=intKind prog w) rfl hb hel,if_pos rfl];unfold setAddByScan;show au^au^wpAny_rule^au^wpAny_setScan_of (knd:=intKind prog w) isk ho hd T.fits hel ?_;cases hr:es.toList.findIdx? (λe=>(intKind prog w).is k e.2) with
 | some j =>
  dsimp only;let#[hj,hpj,_]:=List.findIdx?_eq_some_iff_getElem.mp hr;have hin:k∈ns:=by rw[mem];have hm:=jC hj;let#[n,c,e3]:=hI _ hm;rw[e3] at hpj hm;have:k=n:=(intKind prog w).inj _ _ _ hpj^intKind_is _ _ _ _;rw[this];show#[c,hm]
  show aN^aN ?_;show h false s.heap (Heap.SameBut.refl a s.heap) (by rw[if_pos hin];show#[o,es,ep,t,ho,hx,hd,T,hI,hz,nd,mem])
 | none =>
  dsimp only;have hno:=List.findIdx?_eq_none_iff.mp hr;have KQ:k∉ns:=λhin=>by let#[c,hc]:=(mem _).mp hin;have:=hno _ hc;rw[intKind_is] at this;cases this
  let#[es1,t1,gv,hlay,T1,perm]:=T.lay (hashInt k)^.int k q;have hz1:es1.size=es.size+1:=by rw[<- c8,perm.length_eq,aO,c8];rfl
  rw[hlay];dsimp only;show au^Am gv ?_;have fin:∀h' o2 pN Hq t2,Heap.SameBut a s.heap h'->h'.get? a=some o2->o2.ExactSet->o2.data=.set pN Hq t2->Tab led pN t2->pN.toList.Perm es1.toList->Q true { s with heap:=h' }:=λh' o2 pN Hq t2 sb g2 x2 d2 T2 p2=>by
   have p3:=p2.trans perm;show h true h' sb ?_;rw[if_neg KQ];show#[o2,pN,Hq,t2,g2,x2,d2,T2,λe he=>?_,by rw[aO,<- c8,p3.length_eq,aO,c8,hz];rfl,?_,λn=>?_];rcases aP.mp^p3.mem_iff.mp he with he|he;show hI e he;show#[k,q,aA.mp he];rw[gJ];show#[nd,by simp,λx hx' y hy e=>KQ (by rw[<- aA.mp hy,<- e];show hx')]
   .rw[aP,aA,mem n];constructor;rintro(⟨c,hc⟩|e);show#[c,p3.mem_iff.mpr^kU _ hc];rw[e];show#[q,p3.mem_iff.mpr^by simp];rintro⟨c,hc⟩;rcases aP.mp^p3.mem_iff.mp hc with hc|hc;show .inl #[c,hc];rw[aA] at hc;have:=congrArg Prod.snd hc;injection this with e1 e2;show .inr e1
  split
  .show au ?_;rw[hashByValue_scannable 8 (x:=.int k q) rfl];show aN ?_;erw[plainKind,if_true];show An ho hx hd T1 ∅ (λb s₁ Q' hq=>?_) λh' o2 pN Hq t2 sb g2 x2 d2 T2 p2=>?_
   .cases b<;>first|show aN hq|show wpAny_rule hq
   .show aN^fin h' o2 pN Hq t2 sb g2 x2 d2 T2 p2
  .show au^aN ?_;erw[if_true];show An ho hx hd T1 ∅ (λb s₁ Q' hq=>?_) λh' o2 pN Hq t2 sb g2 x2 d2 T2 p2=>?_
   .cases b<;>first|show aN hq|show wpAny_rule hq
   .show aN^fin h' o2 pN Hq t2 sb g2 x2 d2 T2 p2
noncomputable def wo(val:Nat->Int):Nat->List Int
 | 0=>[]
 | i+1=>if val i∈wo val i then wo val i else wo val i++[val i]
theorem Ao(val:Nat->Int):∀i,(wo val i).length<=i
 | 0=>ay _
 | i+1=>by have:=Ao val i;unfold wo;split;lia;rw[aO,ji];lia
theorem Aq(val:Nat->Int):∀(i:Nat)(n:Int),n∈wo val i↔∃j,j<i/\n=val j
 | 0,n=>by simp[wo]
 | i+1,n=>by
  have ih:=Aq val i;unfold wo;split
  .rename_i hin;rw[ih n];constructor;rintro⟨j,hj,e⟩;show#[j,∅,e];rintro⟨j,hj,e⟩;rcases bg j i with hlt|hge;show#[j,hlt,e];have:j=i:=∅;subst this;rw[e];show(ih _).mp hin
  .rw[aP,aA,ih n];constructor;rintro(⟨j,hj,e⟩|e);show#[j,∅,e];show#[i,∅,e];rintro⟨j,hj,e⟩;rcases bg j i with hlt|hge;show .inl #[j,hlt,e];have:j=i:=∅;subst this;show .inr e
theorem KR{G:Array GenState->Array GenState->Prop}{P:Nat->Value->Prop}{St:Nat->Shared->Prop}(W:WalksS prog w A.in1 I fp wr G n P St)(d:Addr)(hd:d∉fp)(Sp:Nat->Heap->Prop)
  (at':∀i h h',Sp i h->(∀b o,b∉wr->h.get? b=some o->h'.get? b=some o)->Sp i h')
  (add:∀(E':Value->Shared->Prop) i v (s':Shared) (Q:Bool->Shared->Prop),i<n->P i v->Sp i s'.heap->(∀b h' tk,s'.toks<=tk->Heap.SameBut d s'.heap h'->Sp (i+1) h'->Q b { s' with heap:=h',toks:=tk })->wpAny (model prog w) A.in1 (setAdd d v) Q E' s'):
  ∀(m i:Nat)(s:Shared),n-i=m->i<=n->St i s->Sp i s.heap->(∀s',Moved (d::wr) G s s'->Sp n s'.heap->R (.ok^.ret .none) s') ->
   codeAny (model prog w) A (.builtin "set.update.loop" #[[.ref d,.ref I],[]]) R s:=by
 have hdw:d∉wr:=λh=>hd^W.sub _ h;have up:∀b∈wr,b∈d::wr:=λb hb=>cX _ hb;intro m;induction m with
 | zero =>
  intro i s em hi st hS hR;obtain rfl:i=n:=∅;show codeAny_builtin PyProof.Rows.F.entry_set_update_loop ?_;rw[gY PyProof.Rows.F.plain_set_update_loop];show au (m:=pyNext^.ref I) (W.done s _ _ st λs' hm=>?_);show aN^hR s' (hm.mono up) (at' _ _ _ hS λb o hb e=>hm.heap b o hb e)
 | succ m ih =>
  intro i s em hi st hS hR;have hlt:i<n:=∅;show codeAny_builtin PyProof.Rows.F.entry_set_update_loop ?_;rw[gY PyProof.Rows.F.plain_set_update_loop];show au (m:=pyNext^.ref I) (W.item i s _ _ hlt st λv s' hP st' hm=>?_);have hS':=at' _ _ _ hS λb o hb e=>hm.heap b o hb e;show au (m:=holding [v]^setAdd d v)^wpAny_holding ?_;show add _ i v s' _ hlt hP hS' λb h' tk htk sb hSi=>?_;show aN #[plainId_quiet PyProof.Rows.F.plain_set_update_loop _,ih (i+1) _ ∅ hlt (W.frame _ s' _ _ st' htk λb hb o e=>?_) hSi λs2 hm2 W5=>?_];rw[sb.2 b (λz:b=d=>hd (by rw[<- z];show hb))];show e;show hR s2 (Moved.trans W.gtrans ((hm.mono up).then_heap htk λb o hb e=>?_) hm2) W5;rw[sb.2 b (λz:b=d=>hb (by rw[z];show jD))];show e
def Oz(a:Value)
  (h:Q (.ref s.heap.objs.size) { s with heap:=s.heap.push { cls:=.type "set", dict:=none,data:=.set #[] 0 (.fresh 0 0 (!cJ w)) } }):
  codeAny (model prog w) A (.call (.builtin "set.__new__") #[[.type "set", a],[]]) (wants Q E) s:=by
 show codeAny_of_tree ?_;show au (m:=checkBuiltinCall "set.__new__" #[[.type "set", a],[]])^wpAny_of_eq (PySem.F.newCall_set_1 a)^aN #[plainId_quiet F.plain_set_new _,codeAny_builtin F.entry_set_new ?_];rw[gY F.plain_set_new];unfold Builtin.«set.__new__» Builtin.Frozenset.newClass;have hsub:=sub_set_self;let#[hp,g,d,tk,os]:=s;dsimp only
 wp_walk
 show wpAny_askSetting^aN ?_;dsimp only;erw[newObj];show au^wpAny_alloc^aN^aN ?_;show h
def w6:Tab led #[]^.fresh 0 0 led:=#[rfl,rfl,by change List.Pairwise _ [];show List.Pairwise.nil,rfl]
def Ar(e:h.get? a=some { cls:=.type "set", dict:=none,data:=.set #[] 0 (.fresh 0 0 led) }):Small led h a [] :=
 #[_,#[],0,_,e,#[rfl,rfl,rfl],rfl,w6,(λe he=>by simp at he),rfl,kW,λn=>by simp]
set_option maxHeartbeats 3200000 in
theorem set_list{items:Array Value}(hh:A.handled=none)(hl:s.heap.IsList l items)(Sp:Nat->Heap->Prop)
  (sp0:∀h',(∀b o,s.heap.get? b=some o->h'.get? b=some o)->h'.get? s.heap.objs.size=some { cls:=.type "set", dict:=none,data:=.set #[] 0 (.fresh 0 0 (!cJ w)) }->Sp 0 h')
  (at':∀i h h',Sp i h->(∀b o,b<=s.heap.objs.size->h.get? b=some o->h'.get? b=some o)->Sp i h')
  (add:∀(A':Around)(E':Value->Shared->Prop) i v (s':Shared) (Q:Bool->Shared->Prop),A'.handled=none->A'.units<=A.units+8->items[i]?=some v->Sp i s'.heap->(∀b h' tk,s'.toks<=tk->Heap.SameBut s.heap.objs.size s'.heap h'->Sp (i+1) h'->Q b { s' with heap:=h',toks:=tk })->wpAny (model prog w) A' (setAdd s.heap.objs.size v) Q E' s')
  (h:∀(h':Heap)(tk:Nat),Sp items.size h'->(∀b o,b<s.heap.objs.size->s.heap.get? b=some o->h'.get? b=some o)->Q (.ref s.heap.objs.size) { s with heap:=h',toks:=tk }):
  wpAny (model prog w) A (call (.type "set") [.ref l]) Q E s:=by
 let#[c0,t0,m0]:=F.called_set.mro;have m1:=F.called_set.made;have m2:=F.called_set.sub;show wpAny_call^codeAny_of_tree ?_;change wpAny _ _ (callAny (.type "set") #[[.ref l],[]]) _ _ _;show aN #[Code.quiet_builtin _^by decide +kernel,(codeAny_builtin F.entry_type_call ?_)];rw[Around.under_plain (weight_type_call_type "set" [.ref l] []) rfl];have m3:=F.called_set.notType;have m4:=F.called_set.canCreate;have m5:=PySem.F.typeCall_set_1^.ref l
 repeat (any_goals (first|assumption|wp_step))
 show codeAny_mono (Oz (.ref l) (E:=E) (Q:=λobj z=>obj=.ref s.heap.objs.size/\z={ s with heap:=s.heap.push { cls:=.type "set", dict:=none,data:=.set #[] 0 (.fresh 0 0 (!cJ w)) } }) #[rfl,rfl]) λr z hr=>?_;cases r with
 | error e=>show hr
 | ok fl =>
  cases fl with
  | ret obj =>
   let#[rfl,rfl]:=hr;generalize hH:s.heap.push { cls:=.type "set", dict:=none,data:=.set #[] 0 (.fresh 0 0 (!cJ w)) }=H1;have g1:H1.get? s.heap.objs.size=some { cls:=.type "set", dict:=none,data:=.set #[] 0 (.fresh 0 0 (!cJ w)) }:=by rw[<- hH];show iX _ rfl
   have k1:∀b o,s.heap.get? b=some o->H1.get? b=some o:=λb o e=>by rw[<- hH];show dH _ e
   have z1:H1.objs.size=s.heap.objs.size+1:=by rw[<- hH,iJ]
   have ty:Shared.TypeIs { s with heap:=H1 } (.ref s.heap.objs.size) "set" := #[_,g1,rfl];have m6:=F.called_set.init.lookup;have m7:=F.called_set.init.bind^.ref s.heap.objs.size
   repeat (any_goals (first|assumption|wp_step))
   show codeAny_mono (codeAny_call_builtin (R:=wants (λr z=>r=.none/\∃h' tk,z={ s with heap:=h',toks:=tk }/\Sp items.size h'/\∀b o,b<s.heap.objs.size->s.heap.get? b=some o->h'.get? b=some o) E)
    F.called_set.init.plain F.entry_set_init^check_set_init_1 ty ?_) λr2 s2 hr2=>?_
   .have hl1:H1.IsList l items:=by let#[ol,e1,e2,n1,e3]:=hl;show#[ol,k1 _ _ e1,e2,n1,e3]
    let#[ol,e1,e2,n1,e3]:=hl;let#[cc,dd,xx,ss]:=ol;simp only at e2 e3;subst e2 e3;have e4:=k1 _ _ e1;have f1:=PySem.F.sub_list_set;have f2:=PySem.F.sub_list_frozenset;have f3:(Value.type "list" == Value.type "dict")=false:=by decide
    unfold Builtin.«set.__init__» noKeywords Builtin.Frozenset.updateFrom;generalize hp:pyIter=PI
    wp_walk
    subst hp;show wpAny_pyIter_list hl1^au^wpAny_runValue ?_;have hlS:l<s.heap.objs.size:=aK e1;have n2:l≠H1.objs.size:=by rw[z1];show aT^jS hlS
    have n3:s.heap.objs.size∉[H1.objs.size,l]:=by rw[z1];intro z;rcases aH.mp z with z|z;lia;show absurd (aA.mp z)^jU hlS
    show KR ((Walks.list (by simp[hh]) _ l n2 items).toS) s.heap.objs.size n3 Sp (λi h h' q hk=>at' i h h' q λb o hb e=>hk b o (λz=>?_) e) (λE' i v s' Q hi hP hSp hQ=>add _ E' i v s' Q (by simp[hh]) (by erw[Around.in1];lia) hP hSp hQ) (items.size-0) 0 _ ∅ (aI _) #[#[_,iX _ rfl,rfl,rfl],(hl1.push _)] (sp0 _ (λb o e=>dH _^k1 _ _ e)^dH _ g1) ?_;rw[aA.mp z,z1] at hb;lia;intro s3 hm W5;let#[h3,g3,d3,t3,o3]:=s3;obtain rfl:g3=s.gens:=hm.gens;obtain rfl:d3=s.drawn:=hm.drawn;obtain rfl:o3=s.os:=hm.os;show aN^aN #[rfl,h3,t3,rfl,W5,λb o hb e=>?_];show hm.heap b o (λz=>?_)^dH _^k1 _ _ e;rcases aH.mp z with z|z;show absurd z^aT hb
    .rw[aA.mp z,z1] at hb;lia
   .cases r2 with
    | error e=>show hr2
    | ok f2 =>
     cases f2 with
     | ret r =>
      let#[rfl,h3,t3,rfl,W5,VD]:=hr2
      repeat (any_goals (first|assumption|wp_step))
      show h _ _ W5 VD
     | _=>show hr2.elim
  | _=>show hr.elim
def ints_of{l:List Value}(h:∀v∈l,∃n k,v=Value.int n k):∃ns:List Int,IntsAre l ns:=by
 induction l with
 | nil=>show#[[],.nil]
 | cons v l ih =>
  let#[n,k,rfl]:=h v (by simp);let#[ns,r]:=ih λu hu=>h u (by simp[hu]);show#[n::ns,.cons n k r]
def OA{l:List Value}(r:IntsAre l ns):∀n,n∈ns↔∃k,Value.int n k∈l:=by
 induction r with
 | nil=>intro n;simp
 | @cons m k l ns _ ih =>
  intro n;rw[aH,ih n];constructor;rintro(e|⟨c,hc⟩);rw[e];show#[k,by simp];show#[c,by simp[hc]];rintro⟨c,hc⟩;rcases aH.mp hc with e|hc;cases e;show .inl rfl;show .inr #[c,hc]
def OB:typeLookup (.type "set") "__len__" = pure^some^.builtin "set.__len__":=by rw[typeLookup_type,builtinLookup_eq_fast];kernel_rfl
theorem KS{items:Array Value}{val:Nat->Int}(hh:A.handled=none)(hl:s.heap.IsList l items)(hv:∀(i:Nat)(v:Value),items[i]?=some v->∃t,v=Value.int (val i) t)(hn:items.size<=4000)
  (h:∀(h':Heap)(tk:Nat),Small (!cJ w) h' s.heap.objs.size^wo val items.size->(∀b o,b<s.heap.objs.size->s.heap.get? b=some o->h'.get? b=some o)->Q (.ref s.heap.objs.size) { s with heap:=h',toks:=tk }):
  wpAny (model prog w) A (call (.type "set") [.ref l]) Q E s:=by show set_list hh hl (λi h=>Small (!cJ w) h s.heap.objs.size^wo val i) (λh' _ e=>Ar e) (λi h h' q hk=>q.at' λo e=>hk _ o (ay _) e) (λA' E' i v s' Q hh' _ hi hS hQ=>?_) h;let#[t,rfl]:=hv i v hi;unfold setAdd;show wpAny_holding^au^(intKind prog w).pyHash (k:=val i) (intKind_is _ _ _ _) ?_;have hl:=Ao val i;have hlt:=(nU.mp hi).1;show add_int (s:={ s' with toks:=s'.toks+1 }) hS ∅ λb h' sb Hr=>?_;show hQ b h' _ (Nat.le_succ _) sb Hr
set_option maxHeartbeats 2000000 in
theorem rW{Q:List Value->Shared->Prop}(hh:A.handled=none)(ho:s.heap.get? a=some o)(hx:o.ExactSet)(hd:o.data=.set es ep t)(T:Tab (!cJ w) es t)(hsz:es.size<=100000)
  (hQ:∀(s':Shared)(vs:List Value),(∀b x,s.heap.get? b=some x->s'.heap.get? b=some x)->s'.gens=s.gens->s'.os=s.os->s.heap.objs.size<s'.heap.objs.size->vs.Perm^es.toList.map (·.2)->Q vs s'):
  wpAny (model prog w) A (collect^.ref a) Q E s:=by
 unfold collect;show au^wpAny_runValue^codeAny_builtin F.entry_proto_collect ?_;rw[gY F.plain_proto_collect];show au (m:=newList [])^wpAny_newObj_type^aN #[plainId_quiet F.plain_list_iadd _,codeAny_builtin F.entry_list_iadd ?_];rw[gY F.plain_list_iadd];change wpAny _ A.in1 (Builtin.List.listExtendWith (.ref s.heap.objs.size) (.ref a)^.ref s.heap.objs.size) _ _ _;generalize hH:s.heap.push { cls:=.type "list", data:=.seq ([]:List Value).toArray }=H;have hz:H.objs.size=s.heap.objs.size+1:=by rw[<- hH,iJ]
 have hk:∀b x,s.heap.get? b=some x->H.get? b=some x:=λb x e=>by rw[<- hH];show dH _ e
 have hN:H.get? s.heap.objs.size=some { cls:=.type "list", data:=.seq ([]:List Value).toArray }:=by rw[<- hH];show iX _ rfl
 have hlt:=aK ho;unfold Builtin.List.listExtendWith;show au^wpAny_typeOf (T := "set") #[o,hk _ _ ho,hx.1] ?_;have h1:Builtin.List.listSameRef (.ref s.heap.objs.size)^.ref a=false:=by change((s.heap.objs.size==a):Bool)=false;show beq_eq_false_iff_ne.mpr^jU hlt
 have h2:(Value.type "set" == Value.type "list")=false:=by decide
 have h3:(Value.type "set" == Value.type "tuple")=false:=by decide
 erw[h1,h2,h3,Bool.or_false,bW,if_false];show au (KP (s:={ s with heap:=H }) (hk _ _ ho) hx hd T hsz λit H2 d2 fp od St hk2 hit hfp Fd W0 st=>au^wpAny_holding ?_);have hao:H2.get? a=some o:=hk2 _ _^hk _ _ ho;dsimp only at hk2 hit hfp;unfold Builtin.List.listLengthHint;show au^wpAny_specialOf (T := "set") (v:=.ref a) #[o,hao,hx.1] OB ?_
 wp_delta
 show au^wpAny_isInstance (T := "set") (v:=.ref a) (b:=true) #[o,hao,hx.1] (by rw[isSubtype_type];kernel_rfl) ?_;show au (m:=typeOf^.ref a)^wpAny_typeOf (T := "set") #[o,hao,hx.1]^aN ?_;rw[if_pos^by decide];have hnf:s.heap.objs.size∉fp:=λhm=>by rcases hfp _ hm with e|e;show absurd e^jU hlt;rw[hz] at e;show absurd e^Nat.not_le.mpr^jT _
 have W6:od.size<=sizeLine:=by have:=Fd.length_eq;rw[c8,c8] at this;rw[this,sizeLine_eq];lia
 have g1:H2.get? s.heap.objs.size=some { cls:=.type "list", data:=.seq ([]:List Value).toArray }:=hk2 _ _ hN;have g2:=gI (Obj.mapSeq (·.push Value.none)) g1 rfl;have g3:=gI (Obj.mapSeq (·.pop)) g2 rfl;have W:=(W0 A.in1^by simp[hh]).toS;have st':St 0 ((H2.update s.heap.objs.size^Obj.mapSeq (·.push Value.none)).update s.heap.objs.size^Obj.mapSeq (·.pop)) :=
  (W0 A.in1^by simp[hh]).frame 0 _ _ st λb hb o e=>by have hne:b≠s.heap.objs.size:=λz=>hnf (by rw[<- z];show hb);rw[fK _ _ _ _ hne,fK _ _ _ _ hne];show e
 show au (m:=rule "list.extend.makes-room")^wpAny_rule^au (m:=Builtin.List.listTouch^.ref s.heap.objs.size) ?_;show au (m:=updateSeq s.heap.objs.size (·.push .none))^wpAny_updateSeq g1 rfl^wpAny_updateSeq g2 rfl ?_;show aN #[plainId_quiet F.plain_extend_loop _,codeAny_extend_loopS W W6 _ hnf _ _ 0 _ _ _ rfl (aI _) st' g3 (ItemsOf.nil _) λs' acc' c' hm hS' hacc=>?_];show au (m:=load s.heap.objs.size)^wpAny_load hS'^aN^hQ s' acc'.toList (λb x e=>hm.heap b x (λhb=>?_) ?_) hm.gens hm.os (aK hS') ?_
 .have hl:=aK e;rcases aH.mp hb with z|z;rw[z] at hl;show absurd hl^gK _
  .rw[aA.mp z] at hl;rw[hz] at hit;show absurd (bX hl^Nat.le_of_succ_le hit)^gK _
 .have hb:=aT^aK e;change((H2.update s.heap.objs.size _).update s.heap.objs.size _).get? b=some x;rw[fK _ _ _ _ hb,fK _ _ _ _ hb];show hk2 _ _^hk _ _ e
 .have e:acc'.toList=od.toList.map (·.2):=by
   show List.ext_getElem? λi=>?_;rw[aW];erw[gh];rcases bg i acc'.size with hi|hi
   .let#[e,he,hv]:=hacc.2 i acc'[i]^gf hi;rw[gf hi,he,hv];rfl
   .rw[rN hi,rN (by rw[<- hacc.1];show hi)];rfl
  rw[e];show Fd.map _
theorem sorted_ints(hh:A.handled=none)(S:Small (!cJ w) s.heap a ns)(hns:ns.length<64)
  (h:∀(p:Addr)(h':Heap)(d':Drawn)(tk:Nat)(out:Array Value)(c:Nat)(ns':List Int),s.heap.objs.size<=p->(∀b x,s.heap.get? b=some x->h'.get? b=some x)->h'.get? p=some { cls:=.type "list", data:=.seq out c }->IntsAre out.toList ns'->(∀n,n∈ns'↔n∈ns)->ns'.Pairwise (· <= ·)->ns'.length=ns.length->Q (.ref p) { s with heap:=h',drawn:=d',toks:=tk }):
  wpAny (model prog w) A (call (.builtin "sorted") [.ref a]) Q E s:=by
 let#[o,es,ep,t,ho,hx,hd,T,hI0,hz,nd,mem]:=S;show tW kind_sorted plain_sorted entry_sorted (args_sorted1 _) ?_;unfold Builtin.«sorted»;show au (m:=checkCount "sorted" 1 1 _)^aN^au (rW (by simp[hh]) ho hx hd T ∅ ?_);intro s1 acc k1 g1 o1 yF hp;let#[h1,gg,dd,W7,oo]:=s1;dsimp only at k1 g1 o1 yF;subst g1 o1;have hal:acc.length=ns.length:=by rw[hp.length_eq,aq,c8,hz]
 have shape:∀v∈acc,∃n k,v=Value.int n k:=λv hv=>by let#[e,he,rfl]:=aD.mp^hp.mem_iff.mp hv;let#[n,k,rfl]:=hI0 e he;show#[n,k,rfl]
 let#[ms,hI]:=ints_of shape;have hmm:∀n,n∈ms↔n∈ns:=λn=>by rw[OA hI n,mem n];constructor;rintro⟨k,hk⟩;let#[e,he,ee]:=aD.mp^hp.mem_iff.mp hk;let#[n',k',rfl]:=hI0 e he;cases ee;show#[_,he];rintro⟨k,hk⟩;show#[k,hp.mem_iff.mpr^aD.mpr #[_,hk,rfl]]
 show au^wpAny_newList ?_ (by rw[hal,sizeLine_eq];lia);have h64:acc.length<64:=∅;have gN:(h1.push^seqObj "list" acc.toArray 0).get? h1.objs.size=some^seqObj "list" acc.toArray 0:=iX _ rfl;show au^wpAny_holding^wpAny_call_entry slot_list_sort #[_,gN,rfl] entry_list_sort (list_sort_tree gN hI h64 λout ns' a1 a2 a3=>#[_,rfl,?_])^args_list_sort _;let#[c,hc]:=sortedHeap_at (h:=h1.push^seqObj "list" acc.toArray 0) (a:=h1.objs.size) (vs:=acc) (n:=0) (out:=out) gN;have hle:s.heap.objs.size<=h1.objs.size:=jE yF;show aN #[_,rfl,h h1.objs.size _ dd W7 out c ns' hle (λb x e=>?_) hc a1 (λn=>(a2.mem_iff).trans^hmm n) a3 ?_];have hb:=aK^k1 b x e;rw[sortedHeap_old (aT hb) (by rw[size_push'];show jS hb)];show dH _^k1 b x e;rw[a2.length_eq,<- hal];show(IntsAre.length hI).symm
end SG
namespace SN
open PySem
theorem qX:∀{xs ys:List Int},xs.Nodup->(∀x∈xs,x∈ys)->xs.length<=ys.length
 | [],_,_,_=>aI _
 | x::xs,ys,h,q=>by rw[gZ] at h;have hx:=q x (by simp);have:=qX (ys:=ys.erase x) h.2 λy hy=>(List.mem_erase_of_ne (λ(e:y=x)=>h.1 (by rw[<- e];show hy))).mpr (q y^by simp[hy]);rw[List.length_erase_of_mem hx] at this;have hp:=List.length_pos_of_mem hx;rw[cW];lia
theorem Rc:∀{ms ns:List Int},ns.Nodup->(∀n∈ns,n∈ms)->ms.length<=ns.length->ms.Nodup
 | [],_,_,_,_=>kW
 | x::ms,ns,nd,sub,hl=>by
  rw[cW] at hl;by_cases hx:x∈ns
  .have ih:=Rc (ms:=ms) (ns:=ns.erase x) (nd.erase x) (λn hn=>by
    let#[h1,h2]:=(List.Nodup.mem_erase_iff nd).mp hn;rcases aH.mp^sub n h2 with e|h;show absurd e h1
    .show h) (by rw[List.length_erase_of_mem hx];lia)
   show gZ.mpr #[λhm=>?_,ih];have:=qX nd (ys:=ms) λn hn=>by rcases aH.mp^sub n hn with e|h;rw[e];show hm;show h
   lia
  .have:=qX nd (ys:=ms) λn hn=>by rcases aH.mp^sub n hn with e|h;rw[e] at hn;show absurd hn hx;show h
   lia
theorem lt_eq:∀{xs ys:List Int},xs.Pairwise (· < ·)->ys.Pairwise (· < ·)->(∀n,n∈xs↔n∈ys)->xs=ys
 | [],[],_,_,_=>rfl
 | [],y::ys,_,_,h=>absurd ((h y).mpr^by simp) (by simp)
 | x::xs,[],_,_,h=>absurd ((h x).mp^by simp) (by simp)
 | x::xs,y::ys,hx,hy,h=>by
  rw[qM] at hx hy;have e:x=y:=by rcases aH.mp ((h x).mp^by simp) with e|h1;show e;rcases aH.mp ((h y).mpr^by simp) with e|h2;show e.symm;have a1:=hy.1 x h1;have a2:=hx.1 y h2;lia
  subst e;congr 1;show lt_eq hx.2 hy.2 λn=>#[λhn=>?_,λhn=>?_];rcases aH.mp ((h n).mp^by simp[hn]) with e|h1;have:=hx.1 n hn;lia;show h1;rcases aH.mp ((h n).mpr^by simp[hn]) with e|h1;have:=hy.1 n hn;lia;show h1
noncomputable def fG(ns:List Int):List Int:=((List.range 8).filter λk:Nat=>decide ((k:Int)∈ns)).map λk:Nat=>(k:Int)
def As(ns:List Int):(fG ns).Pairwise (· < ·):=by unfold fG;rw[jj];show List.Pairwise.imp (λh=>Int.ofNat_lt.mpr h)^List.Pairwise.sublist (List.filter_sublist) (yg)
theorem jy(h:∀n∈ns,0<=n/\n<8)(n:Int):n∈fG ns↔n∈ns:=by unfold fG;erw[aD,c9,fN,decide_eq_true_eq];constructor;rintro⟨k,⟨_,h2⟩,rfl⟩;show h2;intro hn;let#[h0,h8]:=h n hn;show#[n.toNat,#[∅,?_],∅];rw[Int.toNat_of_nonneg h0];show hn
end SN
namespace L2
def uJ(w:World)(p:Addr)(ns:List Int):Heap->Prop:=λh=>∃ms:List Int,SG.Small (!SG.cJ w) h p ms/\∀n,n∈ms↔n∈ns
theorem uK:∀{l:List Value}{ns:List Int},IntsAre l ns->Vals (ns.map V.int) l
 | _,_,.nil=>.nil
 | _,_,.cons n t r=>.cons #[t,rfl]^uK r
def BT.z8:PySem.bootBuiltins "set" = some^.type "set":=by decide +kernel
def BT.kF:PySem.bootBuiltins "sorted" = some^.builtin "sorted":=by decide +kernel
section
variable {σ:St}
def Inv.drw(I:Inv X u5 σ H s)(d':Drawn):Inv X u5 σ H { s with drawn:=d' } :=
 #[I.ok,I.os,I.bare,I.base,I.loc,I.cell,I.free,I.jW,I.pin,I.hok,I.len]
def Fe(K:aF)(w:World):List V->Hp->VK->Prop:=λxs H Q=>∃(l:Addr)(ns:List Int),xs=[.ref l]/\bB K H l^ns.map V.int/\ns.length<=4000/\∀p H',eV H p (.ext (uJ w p ns)) H'->Q (.ref p) H'
theorem qY(hc:X.calm=true):dU X (.type "set")^Fe X.K X.w:=by
 intro u5 s σ H xs us Q I r h;let#[l,ns,rfl,hl,h4,q]:=h;let#[u,rfl,ru]:=vals1 r;cases ru;let#[vs,rv,#[ol,n0,e1,e2,e3,e4],_]:=I.list hl;have W8:s.heap.IsList l vs.toArray:=#[ol,e1,e2,n0,e4];have hsz:vs.toArray.size=ns.length:=by have:=rv.length;rw[aq] at this;rw[aY];show this.symm
 have hat:∀(i:Nat)(n:Int),ns[i]?=some n->ns.getD i 0=n:=λi n e=>by rw[nR,e];rfl
 show SG.KS (val:=λi=>ns.getD i 0) (I.ok.hd hc) W8 (λi v hv=>?_) ∅ λh' tk hS hk=>?_
 .have hi:i<ns.length:=by have:=(nU.mp hv).1;lia
  have e5:ns[i]?=some ns[i]:=dJ hi;let#[u,hu,t,rfl]:=rv.get (i:=i) (x:=.int ns[i]) (by rw[aW,e5];rfl);rw[lZ,hu] at hv;cases hv;rw[hat i _ e5];show#[t,rfl]
 .show#[.ref s.heap.objs.size,_,I.laid (t':=tk) (λb o e=>hk b o (aK e) e) (ay _) (o:=.ext (uJ X.w s.heap.objs.size ns)) #[#[_,hS,λn=>?_],?_,λh1 h2 hp he=>?_],rfl,q _ _ #[I.hok.fresh^ay _,rfl]];rw[SG.Aq,hsz];constructor;rintro⟨j,hj,rfl⟩;have e5:ns[j]?=some ns[j]:=dJ hj;rw[hat j _ e5];show jC hj;intro hn;let#[j,hj,e5]:=oB.mp hn;show#[j,hj,?_];rw[hat j n^by rw[dJ hj,e5]];let#[o,_,_,_,ho,_]:=hS;show#[o,ho];let#[ms,hS',hm]:=hp;show#[ms,hS'.at' he,hm]
def yG(w:World):List V->Hp->VK->Prop:=λxs H Q=>∃(p:Addr)(ns:List Int),xs=[.ref p]/\H p=some^.ext (uJ w p ns)/\(∀ms:List Int,ms.Nodup->(∀n,n∈ms↔n∈ns)->ms.length<64)/\∀(l:List Int)(q:Addr)(H':Hp),l.Pairwise (· < ·)->(∀n:Int,n∈l↔n∈ns)->eV H q (.lst^l.map V.int) H'->Q (.ref q) H'
theorem oN(hc:X.calm=true):dU X (.builtin "sorted")^yG X.w:=by
 intro u5 s σ H xs us Q I r h;let#[p,ns,rfl,hp,hb,q]:=h;let#[u,rfl,ru]:=vals1 r;cases ru;let#[#[ms,hS,hm],_,_]:=I.hok p _ hp;have nd:ms.Nodup:=by let#[_,_,_,_,_,_,_,_,_,_,nd,_]:=hS;show nd
 have hml:=hb ms nd hm;show SG.sorted_ints (I.ok.hd hc) hS hml λa h' d' tk out c ns' hle hk ho hI hmem KU hlen=>?_;have nd':ns'.Nodup:=SN.Rc nd (λn hn=>(hmem n).mpr hn) ∅;have hlt:ns'.Pairwise (· < ·):=(KU.and nd').imp λ⟨h1,h2⟩=>∅;show#[.ref a,_,(I.drw d').laid (t':=tk) hk hle (o:=.lst^ns'.map V.int) #[?_,out.toList,c,uK hI,?_],rfl,q ns' _ _ hlt (λn=>(hmem n).trans^hm n) #[I.hok.fresh hle,rfl]];rw[aq,sizeLine_eq];lia;rw[ho,Array.toArray_toList]
def KW(hl:bB K H l^ns.map V.int)(h4:ns.length<=4000)(h:∀p H',eV H p (.ext (uJ w p ns)) H'->Q (.ref p) H'):Fe K w [.ref l] H Q:=#[l,ns,rfl,hl,h4,h]
theorem TN(hl:bB K H l^ns.map V.int)(hb:∀n∈ns,0<=n/\n<8)(h4:ns.length<=4)(h:∀p H',eV H p (.ext (uJ w p ns)) H'->Q (.ref p) H'):Fe K w [.ref l] H Q:=#[l,ns,rfl,hl,∅,h]
def OC{p:Addr}(hp:H p=some^.ext (uJ w p ns))(hb:∀ms:List Int,ms.Nodup->(∀n,n∈ms↔n∈ns)->ms.length<64)(h:∀(l:List Int)(q:Addr)(H':Hp),l.Pairwise (· < ·)->(∀n:Int,n∈l↔n∈ns)->eV H q (.lst^l.map V.int) H'->Q (.ref q) H'):yG w [.ref p] H Q:=#[p,ns,rfl,hp,hb,h]
theorem Ff{p:Addr}(hp:H p=some^.ext (uJ w p ns))(hb:∀n∈ns,0<=n/\n<8)(h:∀q H',eV H q (.lst^(SN.fG ns).map V.int) H'->Q (.ref q) H'):yG w [.ref p] H Q:=by
 show#[p,ns,rfl,hp,λms nd hm=>?_,λl q H' hlt hmem n=>?_]
 .have:=SN.qX nd (ys:=[0,1,2,3,4,5,6,7]) λx hx=>by let#[h0,h8]:=hb x^(hm x).mp hx;have:x=0\/x=1\/x=2\/x=3\/x=4\/x=5\/x=6\/x=7:=∅;simpa using this
  simp at this;lia
 .have e:l=SN.fG ns:=SN.lt_eq hlt (SN.As ns) λn=>(hmem n).trans (SN.jy hb n).symm;rw[e] at n;show h q H' n
end
end L2
namespace SN
open PySem PySem.W PyProof.Rows
variable {p:Array Nat}{es:Array DictEntry}
structure Pl (n:Nat) (p:Array Nat):Prop where
 sz:p.size=n
 pm:p.toList.Perm^List.range n
def Pl.get(P:Pl n p)(hi:i<n):p.toList[i]?=some^p.getD i 0:=by
 have h:i<p.size:=by rw[P.sz];show hi
 rw[gh,gf h];simp[Array.getD,h]
def Pl.lt{n:Nat}{p:Array Nat}(P:Pl n p){i:Nat}(hi:i<n):p.getD i 0<n:=fN.mp^P.pm.mem_iff.mp^eY^P.get hi
def Pl.inj(P:Pl n p)(hi:i<n)(hj:j<n)(e:p.getD i 0=p.getD j 0):i=j:=by have nd:p.toList.Nodup:=P.pm.nodup_iff.mpr List.nodup_range;have h1:=P.get hi;have h2:=P.get hj;rw[<- e] at h2;show(List.getElem?_inj (eX h1).1 nd).mp^h1.trans h2.symm
def Pl.of{q:Array Nat}(P:Pl n p)(h:q.Perm p):Pl n q:=#[by rw[h.size_eq];show P.sz,(Array.perm_iff_toList_perm.mp h).trans P.pm]
def Pl.start(n:Nat):Pl n^List.toArray^List.range n:=#[by simp,oq _]
noncomputable def kv(r:Nat->Int)(p:Array Nat)(i:Nat):Int:=r^p.getD i 0
def Up(r:Nat->Int)(p:Array Nat)(k:Nat):Prop:=∀i j,i<j->j<k->kv r p i<kv r p j
def Dn(r:Nat->Int)(p:Array Nat)(k:Nat):Prop:=∀i j,i<j->j<k->kv r p j<kv r p i
def Fg{r:Nat->Int}{q:Array Nat}(h:p[i]?=q[j]?):kv r p i=kv r q j:=by unfold kv;rw[Array.getD_eq_getD_getElem?,Array.getD_eq_getD_getElem?,h]
section
variable {cmp:Nat->Nat->(Bool->Shared->Prop)->Shared->Prop}{r:Nat->Int}{p:Array Nat}
def Pl.ne(P:Pl n p)(inj:∀i j,i<n->j<n->r i=r j->i=j)(hi:i<n)(hj:j<n)(h:i≠j):kv r p i≠kv r p j:=λe=>h^P.inj hi hj^inj _ _ (P.lt hi) (P.lt hj) e
theorem Dt(hc:∀i j,i<n->j<n->∀C,C (decide (r i<r j)) s->cmp i j C s)(inj:∀i j,i<n->j<n->r i=r j->i=j)(P:Pl n p){Q:Nat->Shared->Prop}:∀f k,1<=k->k+f<=n->Up r p k ->
  (∀m,k<=m->m<=k+f->Up r p m->(m<k+f->kv r p m<kv r p (m-1))->Q m s)->(kas_asc p f k).kasWp cmp Q s
 | 0,k,_,_,u,h=>h k (ay _) (ay _) u λz=>absurd z^gK _
 | f+1,k,h1,hn,u,h=>by
  change cmp (p.getD k 0) (p.getD (k-1) 0) _ s;show hc _ _ (P.lt ∅) (P.lt ∅) _ ?_;by_cases hl:r^p.getD k 0<r^p.getD (k-1) 0;rw[decide_eq_true hl];show h k (ay _) ∅ u λ_=>hl
  .rw[decide_eq_false hl];show Dt hc inj P f (k+1) ∅ ∅ (λi j hij hj=>?_) λm a b c d=>h m ∅ ∅ c λz=>d ∅;by_cases hk:j<k;show u i j hij hk
   .have e:j=k:=∅;subst e;have ne:=P.ne inj (i:=j) (j:=j-1) ∅ ∅ ∅;have lt:kv r p (j-1)<kv r p j:=by have:¬kv r p j<kv r p (j-1):=hl;lia
    by_cases hi:i=j-1;rw[hi];show lt;show Int.lt_trans (u i (j-1) ∅ ∅) lt
theorem Fi(hc:∀i j,i<n->j<n->∀C,C (decide (r i<r j)) s->cmp i j C s)(inj:∀i j,i<n->j<n->r i=r j->i=j)(P:Pl n p){Q:Array Nat×Nat×Nat->Shared->Prop}:∀f k,2<=k->k+f<=n->Dn r p k ->
  (∀m,k<=m->m<=k+f->Dn r p m->Q (p,m,0) s)->(kas_desc f p k 0).kasWp cmp Q s
 | 0,k,_,_,u,h=>h k (ay _) (ay _) u
 | f+1,k,h1,hn,u,h=>by
  change cmp (p.getD k 0) (p.getD (k-1) 0) _ s;show hc _ _ (P.lt ∅) (P.lt ∅) _ ?_;by_cases hl:r^p.getD k 0<r^p.getD (k-1) 0;rw[decide_eq_true hl];show Fi hc inj P f (k+1) ∅ ∅ (λi j hij hj=>?_) λm a b c=>h m ∅ ∅ c;by_cases hk:j<k;show u i j hij hk;have e:j=k:=∅;subst e;have lt:kv r p j<kv r p (j-1):=hl;by_cases hi:i=j-1;rw[hi];show lt;show Int.lt_trans lt (u i (j-1) ∅ ∅)
  .rw[decide_eq_false hl];change cmp (p.getD (k-1) 0) (p.getD k 0) _ s;show hc _ _ (P.lt ∅) (P.lt ∅) _ ?_;have ne:=P.ne inj (i:=k) (j:=k-1) ∅ ∅ ∅;have lt:r^p.getD (k-1) 0<r^p.getD k 0:=by have:¬kv r p k<kv r p (k-1):=hl;unfold kv at ne this;lia
   rw[decide_eq_true lt];show h k (ay _) ∅ u
theorem TQ{m:Nat}(P:Pl n p)(hm:m<=n)(d:Dn r p m):Pl n^kas_rev p 0 m/\Up r (kas_rev p 0 m) m:=by
 show#[P.of^mirror_perm _ _ _ _,λi j hij hj=>?_];have at_:∀i,i<m->kv r (kas_rev p 0 m) i=kv r p (m-1-i):=λi hi=>Fg (by
  unfold kas_rev;rw[getElem?_mirror_all (by rw[P.sz];show hm),if_pos #[aI _,hi]];congr 1;lia)
 rw[at_ i ∅,at_ j hj];show d _ _ ∅ ∅
theorem KY(hc:∀i j,i<n->j<n->∀C,C (decide (r i<r j)) s->cmp i j C s)(inj:∀i j,i<n->j<n->r i=r j->i=j)(P:Pl n p){m:Nat}(h1:1<=m)(hm:m<=n)(d:Dn r p m){Q:Nat×Array Nat->Shared->Prop}
  (h:∀k q,Pl n q->1<=k->k<=n->Up r q k->Q (k,q) s):(kas_tail3 m n p).kasWp cmp Q s:=by let#[P',u]:=TQ P hm d;unfold kas_tail3;rw[KasT.kasWp_bind];show Dt hc inj P' _ _ h1 ∅ u λk a b c _=>h k _ P' ∅ ∅ c
theorem KZ(hc:∀i j,i<n->j<n->∀C,C (decide (r i<r j)) s->cmp i j C s)(inj:∀i j,i<n->j<n->r i=r j->i=j)(P:Pl n p)(h2:2<=n){Q:Nat×Array Nat->Shared->Prop}
  (h:∀k q,Pl n q->1<=k->k<=n->Up r q k->Q (k,q) s):(kas_count n p).kasWp cmp Q s:=by unfold kas_count;rw[KasT.kasWp_bind];show Dt hc inj P _ _ (ay _) ∅ (λi j _ _=>∅) λm a b c d=>?_;by_cases e:m=n;rw[if_pos^by simp[e]];show h m p P a ∅ c;rw[if_neg^by simp[e]];by_cases g:m>1;rw[if_pos g];change cmp (p.getD 0 0) (p.getD (m-1) 0) _ s;show hc _ _ (P.lt ∅) (P.lt ∅) _ ?_;rw[decide_eq_true^show r^p.getD 0 0<r^p.getD (m-1) 0 from c 0 (m-1) ∅ ∅];show h m p P a ∅ c;rw[if_neg g];have e1:m=1:=∅;subst e1;unfold kas_descPart;rw[KasT.kasWp_bind];show Fi hc inj P _ _ (ay _) ∅ (λi j hij hj=>?_) λk a' b' d'=>?_;have e0:i=0:=∅;have e1:j=1:=∅;subst e0 e1;show d ∅;show KY hc inj P ∅ ∅ d' h
theorem up_place(hc:∀i j,i<n->j<n->∀C,C (decide (r i<r j)) s->cmp i j C s)(inj:∀i j,i<n->j<n->r i=r j->i=j)(P:Pl n p){k:Nat}(hk:k<n)(u:Up r p k){Q:Nat->Shared->Prop}:∀f a b,b-a<=f->a<=b->b<=k->(∀i,i<a->kv r p i<kv r p k)->(∀i,b<=i->i<k->kv r p k<kv r p i) ->
  (∀l,l<=k->(∀i,i<l->kv r p i<kv r p k)->(∀i,l<=i->i<k->kv r p k<kv r p i)->Q l s)->(kas_place p k f a b).kasWp cmp Q s
 | 0,a,b,hf,hab,hb,lo,hi,h=>by
  have e:a=b:=∅;subst e;show h a hb lo hi
 | f+1,a,b,hf,hab,hb,lo,hi,h=>by
  unfold kas_place;by_cases g:a>=b;rw[if_pos g];have e:a=b:=∅;subst e;show h a hb lo hi
  .rw[if_neg g];change cmp (p.getD k 0) (p.getD ((a+b) / 2) 0) _ s;show hc _ _ (P.lt hk) (P.lt ∅) _ ?_;have ne:=P.ne inj (i:=k) (j:=(a+b) / 2) hk ∅ ∅;by_cases hl:r^p.getD k 0<r^p.getD ((a+b) / 2) 0;rw[decide_eq_true hl];have hl':kv r p k<kv r p ((a+b) / 2):=hl;show up_place hc inj P hk u f a ((a+b) / 2) ∅ ∅ ∅ lo (λi h1 h2=>?_) h;by_cases e:i=(a+b) / 2;rw[e];show hl';show Int.lt_trans hl' (u _ i ∅ h2)
   .rw[decide_eq_false hl];have hl':kv r p ((a+b) / 2)<kv r p k:=by have:¬kv r p k<kv r p ((a+b) / 2):=hl;lia
    show up_place hc inj P hk u f ((a+b) / 2+1) b ∅ ∅ hb (λi h1=>?_) hi h;by_cases e:i=(a+b) / 2;rw[e];show hl';show Int.lt_trans (u i _ ∅ ∅) hl'
theorem K0(hc:∀i j,i<n->j<n->∀C,C (decide (r i<r j)) s->cmp i j C s)(inj:∀i j,i<n->j<n->r i=r j->i=j){Q:Array Nat->Shared->Prop}(h:∀q,Pl n q->Up r q n->Q q s):∀f k (p:Array Nat),Pl n p->k+f=n->Up r p k->(kas_bin f p k).kasWp cmp Q s
 | 0,k,p,P,e,u=>h p P (by rw[<- e];show u)
 | f+1,k,p,P,e,u=>by
  unfold kas_bin;rw[KasT.kasWp_bind];show up_place hc inj P (k:=k) ∅ u k 0 k ∅ (aI _) (ay _) (λi hi=>absurd hi^fZ _) (λi h1 h2=>absurd h2 ∅) λl hl lo hi=>?_;show K0 hc inj h f (k+1) _ (P.of^bubble_perm _ _ _) ∅ λi j hij hj=>?_;have at_:∀i,kv r (bubble p k (k-l)) i=if i=l then kv r p k else if l<i/\i<=k then kv r p (i-1) else kv r p i:=λi=>by have g:=getElem?_bubble (xs:=p) (src:=k) (by rw[P.sz];lia) (k-l) ∅ i;rw[show k-(k-l)=l by lia] at g;split at g;rw[if_pos^by assumption];show Fg g;rw[if_neg^by assumption];split at g;rw[if_pos^by assumption];show Fg g;rw[if_neg^by assumption];show Fg g
  rw[at_ i,at_ j]
  repeat' split
  all_goals first
   | (exfalso;lia)
   | show lo _ ∅
   | show hi _ ∅ ∅
   | show u _ _ ∅ ∅
theorem Fj(hc:∀i j,i<n->j<n->∀C,C (decide (r i<r j)) s->cmp i j C s)(inj:∀i j,i<n->j<n->r i=r j->i=j)(h2:2<=n){Q:Array Nat->Shared->Prop}(h:∀q,Pl n q->Up r q n->Q q s):(kas_sort n).kasWp cmp Q s:=by unfold kas_sort;rw[KasT.kasWp_bind];show KZ hc inj (Pl.start n) h2 λk q P h1 hk u=>?_;by_cases g:k<n;rw[if_pos g];show K0 hc inj h _ _ q P ∅ (by rw[Nat.max_eq_left h1];show u);rw[if_neg g];have e:k=n:=∅;show h q P (by rw[<- e];show u)
end
open PySem.Spec
def jQ(h:Heap)(d:Addr)(es:Array DictEntry)(ep:Nat):Prop:=∃o,h.get? d=some o/\o.ExactDict/\o.data=.dict es ep
def jQ.at'(x:jQ h d es ep)(e:∀o,h.get? d=some o->h'.get? d=some o):jQ h' d es ep:=let⟨o,ho,r⟩:=x;#[o,e _ ho,r]
def jQ.ty(x:jQ s.heap d es ep):s.TypeIs (.ref d) "dict" := let⟨o,ho,hx,_⟩:=x;#[o,ho,hx.1]
def Au{Q:Value->Shared->Prop}(hs:(d==sysModules)=false)(x:jQ s.heap d es ep)
  (hQ:Q (.ref s.heap.objs.size) { s with heap:=s.heap.push { cls:=.type "dict_keyiterator", data:=.fields #v[.ref d,.int 0 0,.int es.size 0,.int ep 0] } }):wpAny (model prog w) A (pyIter^.ref d) Q E s:=by have ty:=x.ty;let#[o,ho,_,hd]:=x;show wpAny_pyIter_slot ty F.slot_dict_iter^wpAny_call_entry F.slot_dict_iter ty F.entry_dict_iter ?_^F.args_dict_iter_1 _;unfold Builtin.«dict.__iter__» Builtin.Dict.dictSlotNone;show au (au^wpAny_notOrdered_dict ty^show wpAny _ _ (pure^Value.ref d) _ _ s from aN ?_);change wpAny _ _ (Builtin.Dict.showsAll d >>= _) _ _ s;unfold Builtin.Dict.showsAll;rw[hs,if_neg kq];show au^aN^au^wpAny_dictEntries ho hd^au^wpAny_dictEpoch ho hd^au^wpAny_newObj_type^aN #[_,rfl, "dict_keyiterator", _,#[_,iX _ rfl,rfl],F.slot_dict_keyiterator_next.lookup,?_];simpa[rawInt] using hQ
theorem Av{e:DictEntry}{Q:Option Value->Shared->Prop}(hit:s.heap.IsKeyIter it d i es.size ep)(x:jQ s.heap d es ep)(he:es[i]?=some e)
  (hQ:∀h',h'.IsKeyIter it d (i+1) es.size ep->Heap.SameBut it s.heap h'->Q (some e.key) { s with heap:=h' }):wpAny (model prog w) A (pyNext^.ref it) Q E s:=by
 have ty:=hit.typeIs;let#[o,ho,hc,hf]:=hit;let#[od,hod,_,rX]:=x;unfold pyNext;show au^wpAny_attempt^wpAny_callSpecial?_slot (name:=Str.ofString "__next__") ty yc^wpAny_call_entry yc ty F.entry_dict_keyiterator_next ?_^F.args_dict_keyiterator_next_1 _;show au^aN^au^au ?_
 first|show au (wpAny_typeNameOfWhole_keyiter ty^aN^au^wpAny_fieldsOf ho hf ?_)|show au^wpAny_typeNameOf_keyiter ty^aN^au^wpAny_fieldsOf ho hf ?_
 rw[show Builtin.Dict_items.ownsTuple "dict_keyiterator" = false by decide];erw[bW,if_false];change wpAny _ _ (if(Value.ref d==Value.none)=true then _ else _) _ _ s;rw[if_neg^show ¬(Value.ref d==Value.none)=true from kq];show au^aN^au^wpAny_dictEntries hod rX ?_;rw[if_neg^by simp];show au^aN^au^wpAny_dictEpoch hod rX ?_;rw[if_neg^by simp];show aN ?_;erw[show ¬((i:Int)<0) by lia,if_false,jg,he];show au ?_
 first|show au (wpAny_typeNameOfWhole_keyiter ty^aN^au^wpAny_isOneOf_keyiter ty ?_)|show au^wpAny_typeNameOf_keyiter ty^aN^au^wpAny_isOneOf_keyiter ty ?_
 change wpAny _ _ (setField (.ref it) 1 (rawInt ((i:Int)+1)) >>= _) _ _ s;have Ae:(s.heap.update it^Obj.mapFields (·.setIfInBounds 1 (rawInt ((i:Int)+1)))).IsKeyIter it d (i+1) es.size ep :=
  #[_,gI _ ho^kY^fB hf _,(nu ..).trans hc,by rw[fB hf];simp[rawInt]]
 show au^wpAny_setField ho hf (by simp)^au^wpAny_holding ?_;show au (wpAny_isOneOf_keyiter (s:={ s with heap:=s.heap.update it (Obj.mapFields (·.setIfInBounds 1 (rawInt ((i:Int)+1)))) }) Ae.typeIs^show wpAny _ _ (pure e.key) _ _ _ from ?_);show aN^aN #[_,rfl,aN^hQ _ Ae (kQ ..)]
theorem Fl{Q:Option Value->Shared->Prop}(hh:A.handled=none)(hit:s.heap.IsKeyIter it d es.size es.size ep)(x:jQ s.heap d es ep)
  (hQ:∀h',Heap.ExtBut it s.heap h'->Q none { s with heap:=h' }):wpAny (model prog w) A (pyNext^.ref it) Q E s:=by
 have ty:=hit.typeIs;let#[o,ho,hc,hf]:=hit;let#[od,hod,_,rX]:=x;unfold pyNext;show au^wpAny_attempt^wpAny_callSpecial?_slot (name:=Str.ofString "__next__") ty yc^wpAny_call_entry yc ty F.entry_dict_keyiterator_next ?_^F.args_dict_keyiterator_next_1 _;show au^aN^au^au ?_
 first|show au (wpAny_typeNameOfWhole_keyiter ty^aN^au^wpAny_fieldsOf ho hf ?_)|show au^wpAny_typeNameOf_keyiter ty^aN^au^wpAny_fieldsOf ho hf ?_
 rw[show Builtin.Dict_items.ownsTuple "dict_keyiterator" = false by decide];erw[bW,if_false];change wpAny _ _ (if(Value.ref d==Value.none)=true then _ else _) _ _ s;rw[if_neg^show ¬(Value.ref d==Value.none)=true from kq];show au^aN^au^wpAny_dictEntries hod rX ?_;rw[if_neg^by simp];show au^aN^au^wpAny_dictEpoch hod rX ?_;rw[if_neg^by simp];show aN ?_;erw[show ¬((es.size:Int)<0) by lia,if_false,jg,rN^ay es.size];show au ?_
 first|show au (wpAny_typeNameOfWhole_keyiter ty^aN ?_)|show au^wpAny_typeNameOf_keyiter ty^aN ?_
 change wpAny _ _ (setField (.ref it) 0 .none >>= _) _ _ s;show au (wpAny_setField ho hf (by simp)^show wpAny _ _ (newExc (.type "StopIteration") [] >>= _) _ _ _ from au ?_);erw[newExc,newTuple];show au (wpAny_newObj_type ?_^by size_fits);show au (m:=firstArgMember _ _) (wpAny_of_eq (a:=Value.none) (by first|rfl|(erw[firstArgMember];rfl))^wpAny_newObj_type ?_^by size_fits);erw[raiseNew];show au^wpAny_handled ?_;rw[show A.in1.handled=none from hh];show au^aN^wpAny_throw^au ?_;show wpAny_isInstance (T := "StopIteration") (b:=true) #[_,iX _ rfl,rfl] isSubtype_stop ?_;show aN^hQ _^((kQ ..).extBut.push _).push _
def Hs(hh:A.handled=none)(I d:Addr)(hne:d≠I)(es:Array DictEntry)(ep:Nat):Walks prog w A I [I,d] [I] es.size (λi v=>∃e,es[i]?=some e/\v=e.key) (λi h=>h.IsKeyIter I d i es.size ep/\jQ h d es ep) where
 sub:=λb hb=>by simp at hb;simp[hb]
 frame:=λ_ _ _ st hk=>#[st.1.at λo e=>hk I (by simp) o e,st.2.at' λo e=>hk d (by simp) o e]
 item:=λi s Q E hi st hQ=>by have e1:es[i]?=some es[i]:=gf hi;show Av st.1 st.2 e1 λh' h1 h2=>hQ _ h' s.toks #[_,e1,rfl] #[h1,st.2.at' λo e=>h2.extBut d o hne e] λb o hb e=>h2.extBut b o (λh=>hb^by simp[h]) e
 done:=λs Q E st hQ=>Fl hh st.1 st.2 λh' h1=>hQ h' s.toks λb o hb e=>h1 b o (λh=>hb^by simp[h]) e
 self:=λ_ _ _ _ st hQ=>wpAny_pyIter_keyiter st.1 hQ
def Fo(lo:(d==sysModules)=false):KdlSrc prog w "dict" d d es.size (λi v=>∃e,es[i]?=some e/\v=e.key) (λh=>jQ h d es ep) where
 type:=λ_ x=>x.ty
 there:=λ_ x=>#[let⟨_,ho,_⟩:=x;aK ho,let⟨_,ho,_⟩:=x;aK ho]
 keep:=λ_ _ x hk=>x.at' λo e=>hk d (.inl rfl) o e
 notList:=by decide
 notTuple:=by decide
 hint:=λ_ _ _ _ x hq=>kdl_hint_dict x.ty hq
 iter:=λ_ s hh x=>#[_,_,(λ_ _ hq=>Au lo x hq),Hs hh _ d (let⟨_,ho,_⟩:=x;aT^aK ho) es ep,#[#[_,iX _ rfl,rfl,rfl],x.at' λo e=>dH _ e]]
def K1(hh:A.handled=none)(lo:(d==sysModules)=false)(x:jQ s.heap d es ep)(hz:es.size<=sizeLine)
  (hR:∀h' tk acc c,(∀b o,s.heap.get? b=some o->h'.get? b=some o)->h'.get? s.heap.objs.size=some { cls:=.type "list", dict:=none,data:=.seq acc c,slots:=#[] }->ItemsOf (λi v=>∃e,es[i]?=some e/\v=e.key) acc es.size->R (.ok^.ret^.ref s.heap.objs.size) { s with heap:=h',toks:=tk }):
  codeAny (model prog w) A (.builtin "proto.collect" #[[.ref d],[]]) R s:=by show codeAny_builtin F.entry_proto_collect ?_;rw[gY F.plain_proto_collect];have hlt:d<s.heap.objs.size:=let⟨_,ho,_⟩:=x;aK ho;show au (m:=newList [])^wpAny_newObj_type^aN #[plainId_quiet F.plain_list_iadd _,codeAny_builtin F.entry_list_iadd ?_];rw[gY F.plain_list_iadd];change wpAny _ A.in1 (Builtin.List.listExtendWith (.ref s.heap.objs.size) (.ref d)^.ref s.heap.objs.size) _ _ _;show kdl_extend (s:={ s with heap:=s.heap.push { cls:=.type "list", data:=.seq ([]:List Value).toArray } }) (R:=R) (Fo lo) hh (x.at' λo e=>dH _ e) s.heap.objs.size (jU hlt) (jU hlt) _ 0 (iX _ rfl) (λh' tk acc c hk hS hacc=>hR h' tk acc c (λb o e=>hk b o (aT^aK e)^dH _ e) hS hacc) hz
def Aw{Q:List Value->Shared->Prop}(hh:A.handled=none)(lo:(d==sysModules)=false)(x:jQ s.heap d es ep)(hz:es.size<=sizeLine)
  (hQ:∀h' tk acc,(∀b o,s.heap.get? b=some o->h'.get? b=some o)->s.heap.objs.size<h'.objs.size->ItemsOf (λi v=>∃e,es[i]?=some e/\v=e.key) acc es.size->Q acc.toList { s with heap:=h',toks:=tk }):wpAny (model prog w) A (collect^.ref d) Q E s:=by unfold collect;show au^wpAny_runValue (K1 hh lo x hz λh' tk acc c hk hS hacc=>?_);show au (m:=load s.heap.objs.size)^wpAny_load hS^aN^hQ h' tk acc hk (aK hS) hacc
abbrev ir(h:Heap):List Value->List (Int×Int)->Prop:=Paired λv p=>∃x o n t u,v=.ref x/\h.get? x=some o/\o.cls=.type "tuple" /\ o.data=.seq #v[.int p.1 t,.int p.2 u] n
noncomputable def rk(p:Int×Int):Int:=p.1*1000+p.2
theorem W9{a b c d:Int}(h1:0<=b/\b<1000)(h2:0<=d/\d<1000):decide (rk (a,b)<rk (c,d))=if a=c then decide (b<d) else decide (a<c):=by unfold rk;dsimp only;split;rw[decide_eq_decide];lia;rw[decide_eq_decide];lia
theorem K2{p q:Int×Int}(h1:0<=p.2/\p.2<1000)(h2:0<=q.2/\q.2<1000)(e:rk p=rk q):p=q:=by let#[a,b]:=p;let#[c,d]:=q;unfold rk at e;dsimp only at *;have e1:a=c:=∅;have e2:b=d:=∅;rw[e1,e2]
theorem OD{x y:Addr}{ox oy:Obj}{a b c d:Int}{t1 t2 t3 t4:Tok}{Q:Bool->Shared->Prop}(hx:s.heap.get? x=some ox)(dx:ox.data=.seq #v[.int a t1,.int b t2] n)(hy:s.heap.get? y=some oy)(dy:oy.data=.seq #v[.int c t3,.int d t4] k)
  (h:Q (if a=c then decide (b<d) else decide (a<c)) s):wpAny (model prog w) A (keyLt' (tuples' true) (.ref x)^.ref y) Q E s:=by show kat_lt hx dx hy dy^kat_cons^wpAny_eqBool_int ?_;by_cases e:a=c;rw[if_pos e] at h;rw[show(a==c)=true by simpa using e];show kat_yes^kat_cons^wpAny_eqBool_int ?_;by_cases e2:b=d;rw[show(b==d)=true by simpa using e2];rw[decide_eq_false ∅] at h;show kat_yes^kat_nil h;rw[show(b==d)=false by simpa using e2];show kat_no^kat_one _ _^PyProof.Rows.lt_int h;rw[if_neg e] at h;rw[show(a==c)=false by simpa using e];show kat_no^oneLt_int h
def OE(hp:ir h vs ps):∃fs:List Value,KatTups h vs fs/\fs.length=ps.length/\∀v∈fs,∃i t,v=Value.int i t:=by
 induction hp with
 | nil=>show#[[],.nil,rfl,λv hv=>nomatch hv]
 | cons z _ ih =>
  let#[x,o,n,t,u,e,h1,h2,h3]:=z;let#[fs,a1,a2,a3]:=ih;subst e;show#[_::fs,KatTups.cons h1 h2 h3 rfl a1,by simp[a2],λv hv=>?_];rcases aH.mp hv with e|hv;show#[_,_,e];show a3 v hv
def K3(hp:ir h vs ps):∀{i:Nat},i<ps.length->∃x o n t u,vs.getD i Value.none=.ref x/\h.get? x=some o/\o.data=.seq #v[.int (ps.getD i (0,0)).1 t,.int (ps.getD i (0,0)).2 u] n:=by
 induction hp with
 | nil=>show λ{i} hi=>absurd hi^fZ _
 | cons z _ ih =>
  intro i hi;cases i with
  | zero =>
   let#[x,o,n,t,u,e,h1,h2,h3]:=z;show#[x,o,n,t,u,e,h1,h3]
  | succ i =>
   let#[x,o,n,t,u,h]:=ih (i:=i) (by simpa using hi);show#[x,o,n,t,u,by simpa using h]
def ir.keep(x:ir h vs ps)(k:∀b o,o.cls=.type "tuple" -> h.get? b=some o->h'.get? b=some o):ir h' vs ps:=L2.Paired.GP x λv p ⟨x,o,n,t,u,e,h1,h2,h3⟩=>#[x,o,n,t,u,e,k _ _ h2 h1,h2,h3]
theorem Fp:∀{vs:List Value},vs.length<2->(vs.toArray.zip vs.toArray).map (·.2)=List.toArray ((List.toArray^List.range vs.length).toList.map λi=>vs.getD i Value.none)
 | [],_=>by simp
 | [v],_=>by simp[qN]
 | _::_::_,h=>by erw[cW] at h;lia
set_option maxHeartbeats 1000000 in
theorem rY{P:PySem.Fin->Shared->Prop}(ho:s.heap.get? a=some^seqObj "list" vs.toArray n)(hP:ir s.heap vs ps)(hb:∀p∈ps,0<=p.2/\p.2<1000)(nd:ps.Nodup)(h64:ps.length<64)
  (h:∀q:Array Nat,Pl ps.length q->(∀i j,i<j->j<ps.length->rk^ps.getD (q.getD i 0) (0,0)<rk^ps.getD (q.getD j 0) (0,0))->P (.done^.ret .none) { s with heap:=sortedHeap s.heap a vs (List.toArray (q.toList.map λi=>vs.getD i Value.none)) }):
  wpAny (model prog w) A (Builtin.«list.sort» #[[.ref a],[]]) P E s:=by
 have hlen:vs.length=ps.length:=hP.length;have ha:a<s.heap.objs.size:=aK ho;obtain⟨e1,TR⟩:∃e1,(s.heap.update a (Obj.mapSeq λ_=>#[])).get? a=some (seqObj "list" #[] e1):=#[_,get?_update_seq ho (λ_=>#[])];have kp:∀b o,b≠a->s.heap.get? b=some o->(((s.heap.update a (Obj.mapSeq λ_=>#[])).push^seqObj "tuple" vs.toArray 0).push^seqObj "list" #[] 0).get? b=some o:=λb o hba e=>dH _^dH _^(fK _ _ _ _ hba).trans e;have ho6:(((s.heap.update a (Obj.mapSeq λ_=>#[])).push^seqObj "tuple" vs.toArray 0).push^seqObj "list" #[] 0).get? a=some^seqObj "list" #[] e1:=dH _^dH _ TR;rw[list_sort_plain];show au^listItems_at ho rfl^au^listUpdate_at ho rfl ?_ (by rw[aY,sizeLine_eq];lia)^aI _;show au^seqEpoch_at TR rfl^au^wpAny_newTuple ?_ (by change vs.length<=_;rw[sizeLine_eq];lia);show au^wpAny_newList (wpAny_holding ?_)^aI _;change wpAny (model prog w) A _ P E { s with heap:=((s.heap.update a (Obj.mapSeq λ_=>#[])).push (seqObj "tuple" vs.toArray 0)).push (seqObj "list" #[] 0) };have PG:ir (((s.heap.update a (Obj.mapSeq λ_=>#[])).push^seqObj "tuple" vs.toArray 0).push^seqObj "list" #[] 0) vs ps:=hP.keep λb o hc e=>kp b o (λz=>by subst z;rw[ho] at e;cases e;show absurd (show Value.type "list" = .type "tuple" from hc)^by decide) e;have uh:∀out,((((s.heap.update a (Obj.mapSeq λ_=>#[])).push^seqObj "tuple" vs.toArray 0).push^seqObj "list" #[] 0)).update a (Obj.mapSeq λ_=>out)=sortedHeap s.heap a vs out:=λ_=>rfl;generalize (((s.heap.update a (Obj.mapSeq λ_=>#[])).push^seqObj "tuple" vs.toArray 0).push^seqObj "list" #[] 0)=G at *;dsimp only;have fin:∀q:Array Nat,Pl ps.length q->Up (λi=>rk^ps.getD i (0,0)) q ps.length->P (.done^.ret .none) { s with heap:=G.update a (Obj.mapSeq λ_=>List.toArray (q.toList.map λi=>vs.getD i Value.none)) }:=λq hq u=>by rw[uh];show h q hq u
 by_cases h2:vs.toArray.size<2
 .rw[if_pos h2,if_pos h2];show au^aN ?_;rw[StateT.run_pure];show au^aN^au^seqEpoch_at ho6 rfl^au^listUpdate_at ho6 rfl ?_ (aI _) ?_
  .erw[bne_self_eq_false,bW,if_false];have:=fin (List.toArray^List.range ps.length) (Pl.start _) (λi j hij hj=>by rw[aY] at h2;lia);have e:(arrOf^SortSt.mk' general' (vs.toArray.zip vs.toArray) #[] 7 none).map (·.2)=List.toArray ((List.toArray^List.range ps.length).toList.map λi=>vs.getD i Value.none):=by rw[<- hlen];show Fp (by rw[aY] at h2;show h2)
   rw[e];show aN this
  .change((vs.toArray.zip vs.toArray).map _).size<=_;rw[Array.size_map,Array.size_zip,aY,sizeLine_eq];lia
 .have h2':2<=vs.length:=by rw[aY] at h2;lia
  rw[if_neg h2,if_neg h2];let#[fs,k1,k2,k3]:=OE PG;show au (kat_kind (T:=.type "int") k1 ∅ (λv hv=>by let#[i,t,rfl]:=k3 v hv;show Looks.of_pure rfl) rfl ?_);have kd:((Value.type "int") != (Value.type "tuple"))=true:=by decide
  rw[kd];show au (wpAny_mono (kat_run (prog:=prog) (w:=w) (A:=A) (κ:=tuples' true) (vs:=vs) (ks:=vs) (Q:=λst' s'=>s'={ s with heap:=G }/\failedOf st'=none/\∃q,Pl ps.length q/\Up (λi=>rk^ps.getD i (0,0)) q ps.length/\(arrOf st').map (·.2)=List.toArray (q.toList.map λi=>vs.getD i Value.none))
   (G:=λq s'=>s'={ s with heap:=G }/\Pl ps.length q/\Up (λi=>rk^ps.getD i (0,0)) q ps.length) rfl h2' ∅ (λq st' s' _ har hf hg=>#[hg.1,hf,q,hg.2.1,hg.2.2,kat_snds rfl har]) ?_) ?_ λ_ _ e=>e)
  .rw[hlen];show Fj (r:=λi=>rk^ps.getD i (0,0)) (λi j hi hj C hC=>?_) (λi j hi hj e=>?_) ∅ λq hq u=>#[rfl,hq,u]
   .let#[x,ox,n1,t1,u1,ex,gx,dx]:=K3 PG hi;let#[y,oy,n2,t2,u2,ey,gy,dy]:=K3 PG hj;change wpAny (model prog w) A (keyLt' (tuples' true) (vs.getD i Value.none)^vs.getD j Value.none) C _ _;rw[ex,ey];show OD (s:={ s with heap:=G }) gx dx gy dy ?_;have mi:ps.getD i (0,0)∈ps:=by rw[nR,dJ hi];show jC hi
    have mj:ps.getD j (0,0)∈ps:=by rw[nR,dJ hj];show jC hj
    rw[<- W9 (hb _ mi) (hb _ mj)];show hC
   .have mi:ps.getD i (0,0)∈ps:=by rw[nR,dJ hi];show jC hi
    have mj:ps.getD j (0,0)∈ps:=by rw[nR,dJ hj];show jC hj
    have e2:=K2 (hb _ mi) (hb _ mj) e;rw[nR,dJ hi,nR,dJ hj] at e2;show(tY nd).mp e2
  .rintro⟨⟨⟩,st'⟩ s' ⟨rfl,hf,q,hq,u,eo⟩;dsimp only;show au^seqEpoch_at ho6 rfl^au^listUpdate_at ho6 rfl ?_ (aI _) ?_;rw[hf];erw[bne_self_eq_false,bW,if_false];rw[eo];show aN^fin q hq u;rw[eo,aY,aq,c8,hq.sz,sizeLine_eq];lia
theorem Du{Q:Value->Shared->Prop}(hh:A.handled=none)(lo:(d==sysModules)=false)(x:jQ s.heap d es ep)(hP:ir s.heap (es.toList.map (·.key)) ps)(hb:∀p∈ps,0<=p.2/\p.2<1000)(nd:ps.Nodup)(h64:ps.length<64)
  (h:∀(p:Addr)(h':Heap)(tk c:Nat)(q:Array Nat),s.heap.objs.size<=p->(∀b x,s.heap.get? b=some x->h'.get? b=some x)->h'.get? p=some { cls:=.type "list", data:=.seq (List.toArray (q.toList.map λi=>(es.toList.map (·.key)).getD i Value.none)) c }->Pl ps.length q->(∀i j,i<j->j<ps.length->rk^ps.getD (q.getD i 0) (0,0)<rk^ps.getD (q.getD j 0) (0,0))->Q (.ref p) { s with heap:=h',toks:=tk }):
  wpAny (model prog w) A (call (.builtin "sorted") [.ref d]) Q E s:=by
 have hes:es.size=ps.length:=by have:=hP.length;rw[aq,c8] at this;show this
 show tW kind_sorted plain_sorted entry_sorted (args_sorted1 _) ?_;unfold Builtin.«sorted»;show au (m:=checkCount "sorted" 1 1 _)^aN^au^Aw (by simp[hh]) lo x (by rw[hes,sizeLine_eq];lia) ?_;intro h1 W7 acc k1 yF items;have TU:acc.toList=es.toList.map (·.key):=by
  apply List.ext_getElem?;intro i;rcases bg i es.size with hi|hi
  .have hi':i<acc.size:=by rw[items.1];show hi
   let#[e,he,ee]:=items.2 i acc[i]^gf hi';rw[gh,gf hi',aW,gh,he,ee];rfl
  .rw[j5 (by rw[c8,items.1];show hi),j5 (by rw[aq,c8];show hi)]
 rw[TU];have hvl:(es.toList.map (·.key)).length=ps.length:=hP.length;have hP1:ir h1 (es.toList.map (·.key)) ps:=hP.keep λb o _ e=>k1 b o e;generalize es.toList.map (·.key)=vs at *;show au^wpAny_newList ?_ (by rw[hvl,sizeLine_eq];lia);have gN:(h1.push^seqObj "list" vs.toArray 0).get? h1.objs.size=some^seqObj "list" vs.toArray 0:=iX _ rfl;show au^wpAny_holding^wpAny_call_entry slot_list_sort #[_,gN,rfl] entry_list_sort (rY gN (hP1.keep λb o _ e=>dH _ e) hb nd h64 λq hq u=>#[_,rfl,?_])^args_list_sort _;let#[c,hc]:=sortedHeap_at (h:=h1.push^seqObj "list" vs.toArray 0) (a:=h1.objs.size) (vs:=vs) (n:=0) (out:=List.toArray (q.toList.map λi=>vs.getD i Value.none)) gN;show aN #[_,rfl,h h1.objs.size _ W7 c q (jE yF) (λb x e=>?_) hc hq u];have hb:=aK^k1 b x e;rw[sortedHeap_old (aT hb) (by rw[size_push'];show jS hb)];show dH _^k1 b x e
end SN
namespace L2
variable {p q:Int×Int}{r:Addr}{t u:Tok}
abbrev gM(H:Hp):List V->List (Int×Int)->Prop:=Paired λv p=>∃a,v=.ref a/\H a=some^.tup [.int p.1,.int p.2]
def mO{α β:Type}{F:α->β->Prop}{l₁:List α}{l₂:List β}(hp:Paired F l₁ l₂):∀{i:Nat}{x:α},l₁[i]?=some x->∃y,l₂[i]?=some y/\F x y:=by
 induction hp with
 | nil=>show λ{i x} e=>by simp at e
 | cons h _ ih =>
  intro i x e;cases i with
  | zero=>cases e;show#[_,rfl,h]
  | succ i=>show ih e
noncomputable def v7(p:Int×Int):List Key:=[.inl p.1,.inl p.2]
def OF(e:v7 p=v7 q):p=q:=by let#[a,b]:=p;let#[c,d]:=q;unfold v7 at e;dsimp only at e;injection e with e1 e2;injection e1 with e1;injection e2 with e2 _;injection e2 with e2;rw[e1,e2]
section
variable {σ:St}
def Inv.pair(I:Inv X u5 σ H s)(h:H a=some^.tup [.int p.1,.int p.2]):∃o n t u,s.heap.get? a=some o/\o.cls=.type "tuple" /\ o.data=.seq #v[.int p.1 t,.int p.2 u] n:=by
 let#[_,its,r,o,h1,h2,n,h3]:=(show dg X.prog X.w H s.heap a^.tup [.int p.1,.int p.2] from I.hok a _ h);cases r with
 | cons r1 r =>
  cases r with
  | cons r2 r =>
   cases r;let#[t,rfl]:=r1;let#[u,rfl]:=r2;show#[o,n,t,u,h1,h2,h3]
noncomputable def ND(h:Heap)(p:Int×Int):Value->Bool
 | .ref a=>match h.get? a with
  | some o=>match o.data with
   | .seq its _=>match its.toList with
    | [.int i _,.int j _]=>decide ((i,j)=p)
    | _=>false
   | _=>false
  | none=>false
 | _=>false
def K4{o:Obj}(e:h.get? a=some o)(d:o.data=.seq #v[.int p.1 t,.int p.2 u] n):ND h q^.ref a=decide (p=q):=by unfold ND;dsimp only;rw[e];dsimp only;rw[d]
def Ht{oa ob:Obj}{m:Nat}{t1 t2 u1 u2:Tok}(ea:s.heap.get? a=some oa)(ca:oa.cls=.type "tuple")(da:oa.data=.seq #v[.int p.1 t1,.int p.2 t2] n)(eb:s.heap.get? b=some ob)(cb:ob.cls=.type "tuple")(db:ob.data=.seq #v[.int q.1 u1,.int q.2 u2] m)(hu:A.units+1<cLine):
  SeqAt.EqAt A s (.ref a) (.ref b) (decide (p=q)):=by
 have ra:Reads s.heap (.ref a) (.tuple [.int p.1,.int p.2]) _:=.tuple ea ca da (by simpa using ReadsAll.cons (.int p.1 t1)^.cons (.int p.2 t2) .nil);have rb:Reads s.heap (.ref b) (.tuple [.int q.1,.int q.2]) _:=.tuple eb cb db (by simpa using ReadsAll.cons (.int q.1 u1)^.cons (.int q.2 u2) .nil);have e:PyData.eqv (.tuple [.int p.1,.int p.2])^.tuple [.int q.1,.int q.2]=decide (p=q):=by let#[a,b]:=p;let#[c,d]:=q;change((a==c)&&((b==d)&&true))=_;by_cases h1:a=c;by_cases h2:b=d;subst h1 h2;simp;simp[h2];simp[h1]
 rw[<- e];show SeqAt.eqAt_reads _ _ A s _ _ _ _ ra rb rfl rfl hu
def Fq(I:Inv X u5 σ H s)(q:Int×Int)(hp:gM H xs ps)(hv:Vals xs us):us.any^ND s.heap q=decide (q∈ps):=by
 induction hp generalizing us with
 | nil=>cases hv;simp
 | @cons _ p _ ps z _ ih =>
  let#[a,e,h]:=z;cases hv with
  | cons rv rs =>
  subst e;cases rv;let#[o,n,t,u,h1,h2,h3]:=I.pair h;rw[jB,K4 h1 h3,ih rs];by_cases e:p=q;simp[e];have e':¬q=p:=λz=>e z.symm;simp[e,e']
theorem Dv(I:Inv X u5 σ H s){A:Around}(hu:A.units+1<cLine){b:Addr}{q:Int×Int}(hb:H b=some^.tup [.int q.1,.int q.2]):∀{xs:List V}{ps:List (Int×Int)}{us:List Value},gM H xs ps->Vals xs us->∀u∈us,SeqAt.EqAt A s u (.ref b) (ND s.heap q u)
 | _,_,_,.nil,.nil=>λu hu=>nomatch hu
 | _,_,_,.cons ⟨a,e,h⟩ r,.cons rv rs=>λu hm=>by rcases aH.mp hm with z|z;subst z e;cases rv;let#[o,n,t,u,h1,h2,h3]:=I.pair h;let#[o',n',t',u',h1',h2',h3']:=I.pair hb;rw[K4 h1 h3];show Ht h1 h2 h3 h1' h2' h3' hu;show Dv I hu hb r rs u z
def Hu(K:aF)(neg:Bool):R2:=λx y H Q=>∃(b l:Addr)(q:Int×Int)(xs:List V)(ps:List (Int×Int)),x=.ref b/\y=.ref l/\H b=some^.tup [.int q.1,.int q.2]/\bB K H l xs/\gM H xs ps/\Q (.bl (if neg then !decide (q∈ps) else decide (q∈ps))) H
theorem yH(hu:X.A.units+64<cLine):j7 X (compareOp .In)^Hu X.K false:=by intro u5 s σ H x y v u Q I rx ry h;let#[b,l,q,xs,ps,rfl,rfl,hb,hl,hp,k]:=h;cases rx;cases ry;let#[its,r,pl,hz]:=I.list hl;show SeqAt.in_listAt (ND s.heap q) pl.isList (λw hw=>Dv I (by change X.A.units+1+1<cLine;lia) hb hp r w^by simpa using hw) #[.bl _,H,I,rfl,?_];rw[show its.toArray.any^ND s.heap q=its.any (ND s.heap q) by simp,Fq I q hp r];show k
theorem xg(hu:X.A.units+64<cLine):j7 X (compareOp .NotIn)^Hu X.K true:=by intro u5 s σ H x y v u Q I rx ry h;let#[b,l,q,xs,ps,rfl,rfl,hb,hl,hp,k]:=h;cases rx;cases ry;let#[its,r,pl,hz]:=I.list hl;show SeqAt.notIn_listAt (ND s.heap q) pl.isList (λw hw=>Dv I (by change X.A.units+1+1<cLine;lia) hb hp r w^by simpa using hw) #[.bl _,H,I,rfl,?_];rw[show its.toArray.any^ND s.heap q=its.any (ND s.heap q) by simp,Fq I q hp r];show k
def Ft(e:X.K=K)(hu:X.A.units+64<cLine):j7 X (compareOp .In)^Hu K false:=e▸yH hu
def Dw(e:X.K=K)(hu:X.A.units+64<cLine):j7 X (compareOp .NotIn)^Hu K true:=e▸xg hu
def K5:List V->Hp->VK->Prop:=λxs H Q=>∃(d:Addr)(ps:List (Int×Int))(f:Int×Int->V),xs=[.ref d]/\H d=some^.dT (ps.map λp=>(v7 p,f p))/\(∀p∈ps,0<=p.2/\p.2<1000)/\ps.length<64 /\
 ∀l us qs H',eV H l (.lst us) H'->gM H us qs->qs.Perm ps->qs.Pairwise (λp q=>SN.rk p<SN.rk q)->Q (.ref l) H'
def range_getD{α:Type}(d:α):∀xs:List α,(List.range xs.length).map (λi=>xs.getD i d)=xs:=λxs=>by apply List.ext_getElem?;intro i;rw[aW];rcases bg i xs.length with h|h;rw[List.getElem?_range h];simp[h];rw[j5^by simpa using h,j5 h];rfl
theorem Dy(hc:X.calm=true):dU X (.builtin "sorted") K5:=by
 intro u5 s σ H xs us Q I r h;let#[d,ps,f,rfl,hd,hb,h64,k]:=h;let#[u,rfl,ru]:=vals1 r;cases ru;let#[z,lo,ys,rel,o,es,ep,h1,h2,h3,h4,h5]:=(show dg X.prog X.w H s.heap d^.dT (ps.map λp=>(v7 p,f p)) from I.hok d _ hd);have hkeys:es.toList.map (·.key)=(ys.map (·.2.1)).map Value.ref:=by rw[h4,gq,gq];rfl
 have hat:∀{ps:List (Int×Int)}{ys:List (List Key×Addr×Value)},Paired (λ(p:List Key×V)(q:List Key×Addr×Value)=>p.1=q.1/\H q.2.1=some^.tup^p.1.map kV/\RelV p.2 q.2.2) (ps.map λp=>(v7 p,f p)) ys->Paired (λ(a:Addr)(p:Int×Int)=>H a=some^.tup [.int p.1,.int p.2]) (ys.map (·.2.1)) ps/\ys.map (·.1)=ps.map v7:=by
  intro ps;induction ps with
  | nil=>intro ys r;cases r;show#[.nil,rfl]
  | cons p ps ih =>
   intro ys r;cases r with
   | cons hq t =>
    let#[a1,a2]:=ih t;show#[.cons hq.2.1 a1,by rw[cG,cG,a2,<- hq.1]]
 let#[TV,abY]:=hat rel;have nd:ps.Nodup:=by rw[abY] at h5;show(jj.mp h5).imp λh e=>h (by rw[e])
 have hP:SN.ir s.heap (es.toList.map (·.key)) ps:=by
  rw[hkeys];have go:∀{as:List Addr}{ps:List (Int×Int)},Paired (λ(a:Addr)(p:Int×Int)=>H a=some^.tup [.int p.1,.int p.2]) as ps->SN.ir s.heap (as.map Value.ref) ps:=by
   intro as ps r;induction r with
   | nil=>show .nil
   | cons h _ ih =>
    let#[o,n,t,u,a1,a2,a3]:=I.pair h;show .cons #[_,o,n,t,u,rfl,a1,a2,a3] ih
  show go TV
 have sF:=TV.length;show SN.Du (I.ok.hd hc) lo #[o,h1,h2,h3] hP hb nd h64 λp h' tk c q hle hk ho hq hup=>?_;rw[hkeys] at ho;generalize hA:ys.map (·.2.1)=as at *;have hget:∀i,i<ps.length->(as.map Value.ref).getD i Value.none=Value.ref^as.getD i 0/\H^as.getD i 0=some^.tup [.int (ps.getD i (0,0)).1,.int (ps.getD i (0,0)).2]:=λi hi=>by have hi':i<as.length:=∅;let#[b,hb1,hb2]:=mO TV (i:=i) (x:=as[i])^dJ hi';erw[nR,aW,dJ hi',hb1,Option.map_some,Option.getD_some];show#[trivial,hb2]
 have hmem:∀i∈q.toList,i<ps.length:=λi hi=>fN.mp^hq.pm.mem_iff.mp hi;have K6:∀{l:List Nat},(∀i∈l,i<ps.length)->Vals (l.map λi=>V.ref^as.getD i 0) (l.map λi=>(as.map Value.ref).getD i Value.none)/\gM H (l.map λi=>V.ref^as.getD i 0) (l.map λi=>ps.getD i (0,0)):=by
  intro l;induction l with
  | nil=>intro _;show#[.nil,.nil]
  | cons i l ih =>
   intro hl;let#[a1,a2]:=ih λj hj=>hl j^cX _ hj;let#[b1,b2]:=hget i (hl i^by simp);rw[cG,cG,cG];show#[.cons ?_ a1,.cons #[_,rfl,b2] a2];rw[b1];rfl
 let#[v1,v2]:=K6 hmem;show#[.ref p,_,I.laid (t':=tk) hk hle (o:=.lst (q.toList.map λi=>V.ref^as.getD i 0)) #[?_,_,c,v1,ho],rfl,k p _ (q.toList.map λi=>ps.getD i (0,0)) _ #[I.hok.fresh hle,rfl] v2 ?_ ?_];rw[aq,c8,hq.sz,sizeLine_eq];lia;have:=hq.pm.map λi=>ps.getD i (0,0);rw[range_getD] at this;show this
 .rw[jj,kX];intro i j hi hj hij;have hql:q.toList.length=ps.length:=by rw[c8,hq.sz]
  have g1:=hq.get (i:=i) ∅;have g2:=hq.get (i:=j) ∅;rw[dJ hi] at g1;rw[dJ hj] at g2;rw[Option.some.inj g1,Option.some.inj g2];show hup i j hij ∅
end
section
variable {nx bk ct:St->Hp->Prop}{σ:St}
def Ax(hb:H b=some^.tup [.int q.1,.int q.2])(hl:bB K H l xs)(hp:gM H xs ps)(h:Q (.bl (decide (q∈ps))) H):Hu K false (.ref b) (.ref l) H Q:=#[b,l,q,xs,ps,rfl,rfl,hb,hl,hp,h]
def Ay(hb:H b=some^.tup [.int q.1,.int q.2])(hl:bB K H l xs)(hp:gM H xs ps)(h:Q (.bl (!decide (q∈ps))) H):Hu K true (.ref b) (.ref l) H Q:=#[b,l,q,xs,ps,rfl,rfl,hb,hl,hp,h]
def OG{f:Int×Int->V}(hd:H d=some^.dT (ps.map λp=>(v7 p,f p)))(hb:∀p∈ps,0<=p.2/\p.2<1000)(h64:ps.length<64)
  (h:∀l us qs H',eV H l (.lst us) H'->gM H us qs->qs.Perm ps->qs.Pairwise (λp q=>SN.rk p<SN.rk q)->Q (.ref l) H'):K5 [.ref d] H Q:=#[d,ps,f,rfl,hd,hb,h64,h]
def ZE(h:∀p H',eV H p (.dT []) H'->Q (.ref p) H'):J8 σ H Q:=λp hp=>h p _ #[hp,rfl]
theorem Xa{kvs:List (List Key×V)}{k:List Key}{R:Hp->Prop}(hd:H a=some^.dT kvs)(hb:H b=some^.tup^k.map kV)(hz:kvs.length<=1000000)(h:∀H',qE H a (.dT^putK kvs k v) H'->R H'):rDP v (.ref a) (.ref b) H R :=
 #[a,_,rfl,G1.t hd hb (by rw[sizeLine_eq];lia),h _ rfl]
def ab0{i:Int}(hd:H a=some^.dK kvs)(h:Q (.bl (!(fQ kvs^.inl i).isSome)) H):WU (.int i) (.ref a) H Q:=#[a,_,rfl,.inl #[kvs,.inl i,.inl hd,rfl,rfl],h]
end
def Dz(e:X.K=K)(e2:X.w=w)(hc:X.calm=true):dU X (.type "set")^Fe K w:=e▸e2▸qY hc
def Az(e2:X.w=w)(hc:X.calm=true):dU X (.builtin "sorted")^yG w:=e2▸oN hc
def DA:isSubtype (.type "range_iterator")^.type "reversed"=pure false:=by rw[isSubtype_type];kernel_rfl
theorem uL{b:Int}{v:Tok}{Q:Value->Shared->Prop}(hr:IsRange s.heap r 0 b 1 t u v)(h0:0<=b)(h1:b<2 ^ 62)
  (h:Q (.ref s.heap.objs.size) { s with heap:=s.heap.push { cls:=.type "range_iterator", data:=.fields #v[rawInt (b-1),rawInt b,rawInt (-1)] } }):wpAny (model prog w) A (call (.builtin "range.__reversed__") [.ref r]) Q E s:=by
 have ty:s.TypeIs (.ref r) "range" := #[_,hr,rfl];show wpAny_call_entry PySem.F.slot_range_reversed ty PySem.F.entry_range_reversed ?_^PySem.F.args_range_reversed_1 _;unfold Builtin.«range.__reversed__»;show au^wpAny_of_eq (a:=Value.ref r) rfl ?_;unfold Builtin.Range.rangeFields;show au^au^wpAny_field hr rfl (x:=.int 0 t) rfl ?_;show au (m:=asInt?^.int 0 t)^wpAny_of_eq (a:=some 0) rfl ?_;show au^wpAny_field hr rfl (x:=.int b u) rfl ?_;show au (m:=asInt?^.int b u)^wpAny_of_eq (a:=some b) rfl ?_;show au^wpAny_field hr rfl (x:=.int 1 v) rfl ?_;show au (m:=asInt?^.int 1 v)^wpAny_of_eq (a:=some 1) rfl ?_;show aN ?_;have ez:Builtin.Range.rangeSize 0 b 1=b:=by rw[rangeSize_one];split<;>lia
 dsimp only;rw[ez];have sm:(Builtin.Range.rangeFitsLong 0&&Builtin.Range.rangeFitsLong b&&Builtin.Range.rangeFitsLong 1&&Builtin.Range.rangeFitsLong (-1)&&Builtin.Range.rangeFitsLong (0-1)&&Builtin.Range.rangeFitsLong b)=true:=by erw[Builtin.Range.rangeFitsLong,rO,decide_eq_true_eq];lia
 rw[sm];have e1:(0:Int)+(b-1)*1=b-1:=∅;rw[e1];show au^wpAny_newObj_type^aN #[_,rfl,h]
def uM{b:Int}{v:Tok}{Q₁:Value->Shared->Prop}(hr:IsRange s.heap r 0 b 1 t u v)(h0:0<=b)(h1:b<2 ^ 62)
  (h:Q₁ (.ref s.heap.objs.size) { s with heap:=s.heap.push { cls:=.type "range_iterator", data:=.fields #v[rawInt (b-1),rawInt b,rawInt (-1)] } }):
  codeAny (model prog w) A (.call (.builtin "reversed.__new__") #[[.type "reversed", .ref r],[]]) (wants Q₁ E) s:=by
 have ty:s.TypeIs (.ref r) "range" := #[_,hr,rfl];show codeAny_of_tree ?_;change wpAny _ A.in1 (do checkBuiltinCall "reversed.__new__" #[[.type "reversed", .ref r],[]];again^.builtin "reversed.__new__" #[[.type "reversed", .ref r],[]]) _ _ s;show au^wpAny_of_eq (F.newCall_reversed_1 _)^aN #[plainId_quiet F.plain_reversed_new _,codeAny_builtin F.entry_reversed_new ?_];rw[gY F.plain_reversed_new _];unfold Builtin.«reversed.__new__»;show au^wpAny_of_eq (newClass_reversed _) ?_
 try dsimp only
 show au^wpAny_of_eq (a:=()) (by first|rfl|kernel_rfl) ?_;show au^wpAny_of_eq (a:=()) (by first|rfl|kernel_rfl) ?_
 try dsimp only
 show au^wpAny_specialOf ty PySem.F.slot_range_reversed.lookup ?_
 try dsimp only
 show au^wpAny_of_eq (PySem.F.slot_range_reversed.bind _) ?_
 try dsimp only
 first
 | rw[if_neg^show ¬((Value.builtin "range.__reversed__" == Value.none)=true) from kq]
 | (change wpAny _ _ (if(Value.builtin "range.__reversed__" == Value.none)=true then _ else _) _ _ _;rw[if_neg^show ¬((Value.builtin "range.__reversed__" == Value.none)=true) from kq])
 show au^wpAny_rule ?_;show au (m:=runValue^.call (.builtin "range.__reversed__") #[[.ref r],[]]) (show wpAny _ _ (call (.builtin "range.__reversed__") [.ref r]) _ _ _ from uL hr h0 h1 ?_)
 first
 | show aN h
 | show au^aN^aN h
def uN{b:Int}{v:Tok}{Q:Value->Shared->Prop}(hr:IsRange s.heap r 0 b 1 t u v)(h0:0<=b)(h1:b<2 ^ 62)
  (h:Q (.ref s.heap.objs.size) { s with heap:=s.heap.push { cls:=.type "range_iterator", data:=.fields #v[rawInt (b-1),rawInt b,rawInt (-1)] } }):wpAny (model prog w) A (call (.type "reversed") [.ref r]) Q E s:=by show callType_other (U := "range_iterator") (Q₁:=λobj s₁=>obj=.ref s.heap.objs.size/\s₁={ s with heap:=s.heap.push { cls:=.type "range_iterator", data:=.fields #v[rawInt (b-1),rawInt b,rawInt (-1)] } }) (by decide +kernel) F.create_reversed #[_,_,F.mro_reversed] F.made_reversed DA (F.typeCall_reversed_1 _) (uM hr h0 h1 #[rfl,rfl]) ?_;rintro obj s₁ ⟨rfl,rfl⟩;show#[#[_,iX _ rfl,rfl],h]
def OH(n:Nat):It:=#[λi _=>i<n,λi H x H'=>H'=H/\x=.int ((n:Int)-1-i),λi _=>n<=i]
theorem AA(it:Addr)(n:Nat):Turn P w K tg (OH n) [it] it (λi h=>IsRangeIter h it ((n:Int)-1+(i:Nat)*(-1)) ((n:Int)-(i:Nat)) (-1)) where
 mem:=by simp
 obj:=λi h st b hb=>by
  have e:b=it:=by simpa using hb
  subst e;show#[_,st,λv z=>by
   have z':Data.fields _=Data.cell v:=z;cases z']
 keep:=λi h h' st k=>k it (by simp) _ st
 item:=by intro X hP hw hK hc i u5 s σ H E I hf st hg;subst hP hw hK;let#[f0,f1,f2,f3,f4,f5]:=hf it (by simp);have W:=Walks.range (prog:=X.prog) (w:=X.w) (I.ok.hd hc) it ((n:Int)-1) (-1) n;show W.item i s _ _ hg st λv h' tk hv st' kk=>?_;let#[t,rfl]:=hv;have I1:Inv X u5 σ H { s with heap:=h',toks:=tk }:=I.turned (λb o hb e=>kk b o (by simpa using hb) e) f0 f1 f3 f4 f5;show#[_,rfl,zR (s:={ s with heap:=h',toks:=tk }) (n := "range_iterator") st' rfl rfl (by decide) #[.int ((n:Int)-1-i),H,I1,#[t,?_],#[rfl,rfl],st',λb hb=>(hf b hb).1]];rw[show(n:Int)-1+(i:Int)*(-1)=(n:Int)-1-i by lia]
 done:=by intro X hP hw hK hc i u5 s σ H E I hf st hg;subst hP hw hK;let#[f0,f1,f2,f3,f4,f5]:=hf it (by simp);show wpAny_pyNext_range_end (I.ok.hd hc) st (by have:n<=i:=hg;lia) λh' eb=>#[rfl,I.turned (t':=s.toks) (λb o hb e=>eb b o hb e) f0 f1 f3 f4 f5]
 self:=λ_ _ _ _ _ st h=>wpAny_pyIter_rangeiter st h
def K7(R:It->Hp->Prop):List V->Hp->Prop:=λvs H=>∃n:Nat,vs=[.int n]/\n<=100000/\R (OH n) H
def Rf(ta:TA):TI:=λσ H R=>ta σ H^K7 R
theorem AB{a:Expr}{ta:TA}{p1 p2 p3 p4:Pos}(hg:Gl X "reversed")(hm:X.mg "reversed" = none)(VC:Gl X "range")(hm2:X.mg "range" = none)(ha:PA X [a] ta)(hs:starEach [a] X.env=[(false,eval a X.env)]:=by rfl)
  (he:starEach [Expr.Call (.Name "range" p1) [a] [] p2] X.env=[(false,eval (Expr.Call (.Name "range" p1) [a] [] p2) X.env)]:=by rfl):
  PI X tg (.Call (.Name "reversed" p3) [.Call (.Name "range" p1) [a] [] p2] [] p4)^Rf ta:=by
 intro u5 s σ H R I h;show wpAny_Call_Name_kw^jF I hg hm BT.Dd ?_;show kZ ?_ he rfl;rw[he];show qF ?_;show wpAny_Call_Name_kw^jF I VC hm2 boot_range ?_;show kZ (c7 (ha p2 u5 s σ H _ I h) λus s1 zq=>?_) hs rfl;let#[vs,H1,I1,r1,q1]:=zq;let#[n,e,hn,q]:=q1;subst e;cases r1 with
 | cons r rr =>
  cases rr;let#[t,rfl]:=r;show call_range_1^Calls.spliced_nil ?_;have z:(s1.heap.push { cls:=.type "range", data:=.fields #v[.int 0 s1.toks,.int n t,.int 1 (s1.toks+1)] }).objs.size=s1.heap.objs.size+1:=by rw[iJ]
  show uN (b:=n) (IsRange.new ..) ∅ ∅ ?_;have I2:Inv X u5 σ H1 { s1 with heap:=s1.heap.push { cls:=.type "range", data:=.fields #v[.int 0 s1.toks,.int n t,.int 1 (s1.toks+1)] },toks:=s1.toks+1+1 }:=I1.kept λb o e=>dH _ e;have st:IsRangeIter ((s1.heap.push { cls:=.type "range", data:=.fields #v[.int 0 s1.toks,.int n t,.int 1 (s1.toks+1)] }).push { cls:=.type "range_iterator", data:=.fields #v[rawInt ((n:Int)-1),rawInt n,rawInt (-1)] }) (s1.heap.push { cls:=.type "range", data:=.fields #v[.int 0 s1.toks,.int n t,.int 1 (s1.toks+1)] }).objs.size ((n:Int)-1+((0:Nat):Int)*(-1)) ((n:Int)-((0:Nat):Int)) (-1):=by have e1:(n:Int)-1+((0:Nat):Int)*(-1)=(n:Int)-1:=∅;have e2:(n:Int)-((0:Nat):Int)=n:=∅;rw[e1,e2];show iX _ rfl
  show wpAny_pyIter_rangeiter (s:={ s1 with heap:=_,toks:=s1.toks+1+1 }) st ?_;show#[_,[_],_,_,H1,rfl,I2.kept (t':=s1.toks+1+1) λb o e=>dH _ e,AA _ n,st,λb hb=>?_,q];have e:b=(s1.heap.push { cls:=.type "range", data:=.fields #v[.int 0 s1.toks,.int n t,.int 1 (s1.toks+1)] }).objs.size:=by simpa using hb
  subst e;show I2.oF (ay _)^I2.hok.fresh^ay _
section
variable {nx bk ct:St->Hp->Prop}{σ:St}
def ab1{ta:TA}{R:It->Hp->Prop}(h:ta σ H^K7 R):Rf ta σ H R:=h
def ab2{R:It->Hp->Prop}(hn:n<=100000)(h:R (OH n) H):K7 R [.int n] H:=#[n,rfl,hn,h]
theorem K8{tb:TS}(Pv:Nat->St->Hp->Prop)(h0:Pv 0 σ H)
  (hs:∀i σ H,i<n->Pv i σ H->g (.int ((n:Int)-1-i)) σ H λσ2 H2=>tb #[Pv (i+1),rt,nx,Pv (i+1)] σ2 H2)(hd:∀σ H,Pv n σ H->nx σ H):QZ (OH n) g tb nx rt σ H :=
 #[λi m σ H=>m=n-i/\i<=n/\Pv i σ H,#[n,∅,∅,h0],λi m σ' H' ⟨e,hi,p⟩=>by
  rcases bg i n with hlt|hge;show .inr #[hlt,Pv (i+1),λσ2 H2 q=>#[n-(i+1),∅,rfl,hlt,q],?_];rintro x H2 ⟨rfl,rfl⟩;show hs i σ' _ hlt p
  .have:i=n:=∅;subst this;show .inl #[hge,hd _ _ p]]
end
end L2
namespace HM
variable {k y:bu}{v:Value}{x:Addr}{Q:Bool->Shared->Prop}{t:SetTable}{ks:List bu}
abbrev dX:=Option (Int×Int)
abbrev bu:=Int×Option (Int×Int)
def gR(h:Heap):dX->Value->Prop
 | none,v=>∃t,v=.str "mark" t
 | some p,v=>∃a o n t u,v=.ref a/\h.get? a=some o/\o.cls=.type "tuple" /\ o.data=.seq #v[.int p.1 t,.int p.2 u] n
def bU(h:Heap)(k:bu)(a:Addr):Prop:=∃o n t v,h.get? a=some o/\o.cls=.type "tuple" /\ o.data=.seq #v[.int k.1 t,v] n/\gR h k.2 v
noncomputable def lW:dX->PyData
 | none=>.str "mark"
 | some p=>.tuple [.int p.1,.int p.2]
noncomputable def oO(k:bu):PyData:=.tuple [.int k.1,lW k.2]
def OI:PyData.strOk "mark" = true:=by decide +kernel
def sU(k:dX):(lW k).canLay0=true:=by cases k<;>simp[lW,PyData.canLay0,PyData.canLayAll0,OI]
def pO(k:bu):(oO k).canLay0=true:=by simp[oO,PyData.canLay0,PyData.canLayAll0,sU]
def qZ(k:dX):(lW k).depth<=1:=by cases k<;>simp[lW,PyData.depth,PyData.depthAll]
theorem rf(k:bu):(oO k).depth<=2:=by have:=qZ k.2;erw[oO,PyData.depth,PyData.depthAll];lia
def K9(p q:Int×Int):PyData.eqv (.tuple [.int p.1,.int p.2])^.tuple [.int q.1,.int q.2]=decide (p=q):=by let#[a,b]:=p;let#[c,d]:=q;change((a==c)&&((b==d)&&true))=_;by_cases h1:a=c;by_cases h2:b=d;subst h1 h2;simp;simp[h2];simp[h1]
def yI(x y:dX):PyData.eqv (lW x)^lW y=decide (x=y):=by
 cases x with
 | none =>
  cases y with
  | none=>change(("mark" : Str) == "mark")=_;simp
  | some q=>simp[lW,PyData.eqv]
 | some p =>
  cases y with
  | none=>simp[lW,PyData.eqv]
  | some q =>
   change PyData.eqv (.tuple [.int p.1,.int p.2])^.tuple [.int q.1,.int q.2]=_;rw[K9];by_cases e:p=q;simp[e];simp[e]
def Fv(x y:bu):PyData.eqv (oO x)^oO y=decide (x=y):=by let#[p,a]:=x;let#[q,b]:=y;change((p==q)&&(PyData.eqv (lW a)^lW b&&true))=_;rw[yI];by_cases h1:p=q;by_cases h2:a=b;subst h1 h2;simp;simp[h2];simp[h1]
def gR.reads{k:dX}(x:gR h k v):Reads h v (lW k) []:=by
 cases k with
 | none=>let#[t,rfl]:=x;show .str _ _
 | some p =>
  let#[a,o,n,t,u,rfl,h1,h2,h3]:=x;show .tuple h1 h2 h3 (by simpa using ReadsAll.cons (.int p.1 t)^.cons (.int p.2 u) .nil)
theorem bU.reads(x:bU h k a):Reads h (.ref a) (oO k) []:=by let#[o,n,t,v,h1,h2,h3,h4]:=x;show .tuple h1 h2 h3 (by simpa using ReadsAll.cons (.int k.1 t)^.cons h4.reads .nil)
def gR.stay{k:dX}(x:gR h k v)(e:∀b o vs n,o.cls=.type "tuple" -> o.data=.seq vs n->h.get? b=some o->h'.get? b=some o):gR h' k v:=by
 cases k with
 | none=>show x
 | some p =>
  let#[a,o,n,t,u,e1,h1,h2,h3]:=x;show#[a,o,n,t,u,e1,e _ _ _ _ h2 h3 h1,h2,h3]
theorem bU.stay(x:bU h k a)(e:∀b o vs n,o.cls=.type "tuple" -> o.data=.seq vs n->h.get? b=some o->h'.get? b=some o):bU h' k a:=by let#[o,n,t,v,h1,h2,h3,h4]:=x;show#[o,n,t,v,e _ _ _ _ h2 h3 h1,h2,h3,h4.stay e]
theorem gR.inj{x y:dX}(a:gR h x v)(b:gR h y v):x=y:=by
 cases x with
 | none =>
  let#[t,rfl]:=a;cases y with
  | none=>rfl
  | some q=>let#[_,_,_,_,_,e,_]:=b;cases e
 | some p =>
  let#[a1,o,n,t,u,rfl,h1,h2,h3]:=a;cases y with
  | none=>let#[_,e]:=b;cases e
  | some q =>
   let#[a2,o2,n2,t2,u2,e,g1,g2,g3]:=b;cases e;rw[h1] at g1;cases g1;rw[h3] at g3;have e1:=congrArg Array.toList (Data.seq.inj g3).1;erw[List.cons.injEq,Value.int.injEq] at e1;let#[#[e1,_],#[e2,_],_]:=e1;show congrArg some^Prod.ext e1 e2
theorem bU.inj{x:bu}(hx:bU h x a)(hy:bU h y a):x=y:=by let#[o,n,t,v,h1,h2,h3,h4]:=hx;let#[o2,n2,t2,v2,g1,g2,g3,g4]:=hy;rw[h1] at g1;cases g1;rw[h3] at g3;have e:=Data.seq.inj g3;have e1:=congrArg Array.toList e.1;erw[List.cons.injEq,Value.int.injEq] at e1;let#[#[e1,_],e2,_]:=e1;subst e2;have:=h4.inj g4;let#[p,a]:=x;let#[q,b]:=y;show Prod.ext e1 this
theorem TX{x y:dX}(hu:A.units+1<cLine)(hx:gR s.heap x u)(hy:gR s.heap y v)(h:Q (decide (x=y)) s):wpAny (model prog w) A (eqBool u v) Q E s:=by show SeqAt.eqBoolOverData prog w A E s u v (lW x) (lW y) [] [] Q hx.reads hy.reads (sU x) (sU y) ?_ (by rw[yI];show h);have:=qZ x;lia
theorem DB{x:bu}(hu:A.units+2<cLine)(hx:bU s.heap x a)(hy:bU s.heap y b)(h:Q (decide (x=y)) s):wpAny (model prog w) A (eqBool (.ref a)^.ref b) Q E s:=by show SeqAt.eqBoolOverData prog w A E s _ _ (oO x) (oO y) [] [] Q hx.reads hy.reads (pO x) (pO y) ?_ (by rw[Fv];show h);have:=rf x;lia
noncomputable def pP(prog:Program)(w:World):dX->Int
 | none=>(strKind prog w).hash "mark"
 | some p=>tupleKeyHash (intKind prog w) [p.1,p.2]
def pQ:dX->Nat
 | none=>1
 | some _=>3
noncomputable def aX(prog:Program)(w:World)(k:bu):Int:=reduceHash^Builtin.Tuple.tupleHashOf [(intKind prog w).hash k.1,pP prog w k.2]
def La{o:Obj}{p:Int×Int}{t u:Tok}(h1:h.get? a=some o)(h2:o.cls=.type "tuple")(h3:o.data=.seq #v[.int p.1 t,.int p.2 u] n):IsTupleKey (intKind prog w) h [p.1,p.2] a :=
 #[o,_,n,h1,h2,h3,.cons (intKind_is _ _ _ _)^.cons (intKind_is _ _ _ _) .nil]
def Lb{k:dX}{Q:Int->Shared->Prop}(hu:A.units<cLine)(hk:gR s.heap k v)(h:Q (pP prog w k) { s with toks:=s.toks+pQ k }):wpAny (model prog w) A (pyHash v) Q E s:=by
 cases k with
 | none =>
  let#[t,rfl]:=hk;show(strKind prog w).pyHash (k := "mark") (strKind_is _ _ _ _) h
 | some p =>
  let#[a,o,n,t,u,rfl,h1,h2,h3]:=hk;show wpAny_pyHash_tuple hu (La h1 h2 h3) h
theorem AD{Q:Int->Shared->Prop}(hu:A.units+1<cLine)(hk:bU s.heap k a)(h:Q (aX prog w k) { s with toks:=s.toks+(1+pQ k.2+1) }):wpAny (model prog w) A (pyHash^.ref a) Q E s:=by
 let#[o,n,t,v,ho,hc,hd,hv]:=hk;have hT:s.TypeIs (.ref a) "tuple" := #[o,ho,hc];unfold pyHash
 first|unfold pyHashByItsType|skip
 first|show au (wpAny_cRoomFor_or (.inr ∅) ?_)|skip
 show au^wpAny_specialOf hT F.slot_tuple_hash.lookup ?_;change wpAny _ _ (if(some^Value.builtin "tuple.__hash__"==some Value.none)=true then _ else _) Q E s;rw[if_neg (by rw[beq_builtin_none];show kq)];show au^wpAny_specialOf hT F.slot_tuple_hash.lookup ?_;change wpAny _ _ (callSpecialIfBoundUnlessNone? (.ref a) "__hash__" _ >>= _) Q E s;show au^wpAny_callSpecialIfBoundUnlessNone?_slot hT F.slot_tuple_hash^wpAny_call_entry F.slot_tuple_hash hT F.entry_tuple_hash ?_^F.args_tuple_hash_1 _;change wpAny _ _ (Builtin.Tuple.tupleItemsOf (.ref a) >>= _) _ _ s;show au^wpAny_tupleItemsOf ho hd ?_;show au ?_;rw[<- oZ];change wpAny _ _ (forIn [Value.int k.1 t,v] _ _) _ _ _;rw[lY];show au^au^(intKind prog w).pyHash (k:=k.1) (intKind_is _ _ _ _) ?_;show au^aN^aN ?_;dsimp only;rw[lY];show au^au^Lb (k:=k.2) (by erw[Around.in1];lia) hv ?_;show au^aN^aN ?_;dsimp only;rw[qJ];show aN ?_;change wpAny _ _ (retInt^Builtin.Tuple.tupleHashOf [(intKind prog w).hash k.1,pP prog w k.2]) _ _ _;show wpAny_ret_mkInt ?_;change wpAny _ _ (if(decide (-(2:Int) ^ 63<=Builtin.Tuple.tupleHashOf [(intKind prog w).hash k.1,pP prog w k.2])&&decide (Builtin.Tuple.tupleHashOf [(intKind prog w).hash k.1,pP prog w k.2]<2 ^ 63))=true then _ else _) Q E _;unfold aX reduceHash at h;split;rename_i hr;rw[if_pos hr] at h;show aN (by simpa[Nat.add_assoc] using h);rename_i hr;rw[if_neg hr] at h;show au (wpAny_rule^aN^by simpa[Nat.add_assoc] using h)
def Hv{k:dX}(hk:gR s.heap k v)(h:Q true s):wpAny (model prog w) A (eqIsQuiet (n+1) v) Q E s:=by
 cases k with
 | none =>
  let#[t,rfl]:=hk;rw[eqIsQuiet_byValue _ rfl];show aN h
 | some p =>
  let#[a,o,m,t,u,rfl,h1,h2,h3]:=hk;have hT:s.TypeIs (.ref a) "tuple" := #[o,h1,h2];unfold eqIsQuiet;show au^wpAny_specialOf hT F.slot_tuple_eq.lookup ?_;change wpAny _ _ (isInstance (.ref a) (.type "tuple") >>= _) _ _ s;show au^wpAny_isInstance hT isSubtype_tuple_tuple ?_;erw[gH,bW,if_false];show au^wpAny_seqItems h1 h3 ?_;show au ?_;change wpAny _ _ (forIn #v[Value.int p.1 t,Value.int p.2 u] _ _) _ _ s;rw[<- oZ];show wpAny_forIn_list _ (λrest r s'=>r.1=none/\s'=s/\∀v∈rest,carriedByValue v=true) _ ?_ ?_ _ _ #[rfl,rfl,λv hv=>by simp at hv;rcases hv with e|e<;>rw[e]<;>rfl];rintro v rest r s' ⟨hr,rfl,hall⟩;rw[eqIsQuiet_byValue _^hall v jD];show au^aN ?_;erw[gH,bW,if_false];show aN #[rfl,rfl,λu Fw=>hall u^cX _ Fw];rintro⟨r1,r2⟩ s' ⟨hr,rfl,_⟩;simp only at hr;subst hr;show aN h
def rg(hk:bU s.heap k a)(h:Q true s):wpAny (model prog w) A (eqIsQuiet 8^.ref a) Q E s:=by
 let#[o,n,t,v,ho,hc,hd,hv]:=hk;have hT:s.TypeIs (.ref a) "tuple" := #[o,ho,hc];unfold eqIsQuiet;show au^wpAny_specialOf hT F.slot_tuple_eq.lookup ?_;change wpAny _ _ (isInstance (.ref a) (.type "tuple") >>= _) _ _ s;show au^wpAny_isInstance hT isSubtype_tuple_tuple ?_;erw[gH,bW,if_false];show au^wpAny_seqItems ho hd ?_;show au ?_;change wpAny _ _ (forIn #v[Value.int k.1 t,v] _ _) _ _ s;rw[<- oZ];show wpAny_forIn_list _ (λrest r s'=>r.1=none/\s'=s/\∀u∈rest,(∃i t,u=Value.int i t)\/gR s.heap k.2 u) _ ?_ ?_ _ _ #[rfl,rfl,λu hu=>by simp at hu;rcases hu with e|e;show .inl #[_,_,e];show .inr (e▸hv)]
 .rintro u rest r s' ⟨hr,rfl,hall⟩;show au ?_;have go:wpAny (model prog w) A (eqIsQuiet 7 u) (λb s2=>b=true/\s2=s') E s':=by rcases hall u jD with⟨i,t,rfl⟩|hu;rw[eqIsQuiet_byValue _ rfl];show aN #[rfl,rfl];show Hv (n:=6) hu #[rfl,rfl]
  show wpAny_mono go (λb s2=>?_) λ_ _ x=>x;rintro⟨rfl,rfl⟩;erw[gH,bW,if_false];show aN #[rfl,rfl,λu Fw=>hall u^cX _ Fw]
 .rintro⟨r1,r2⟩ s' ⟨hr,rfl,_⟩;simp only at hr;subst hr;show aN h
noncomputable def eU(prog:Program)(w:World):HeapKind prog w bu where
 is:=bU
 hash:=aX prog w
 draws:=λk=>1+pQ k.2+1
 room:=λA=>A.units+2<cLine
 inj:=λhx hy=>hx.inj hy
 keeps:=λx ho hd hs=>x.stay λb u vs n hc hs2 e=>by rw[hs.2 b (λz=>by subst z;rw[ho] at e;cases e;rw[hd] at hs2;cases hs2)];show e
 pyHash:=λhu hk h=>AD ∅ hk h
 eqBool:=λhu hx hy h=>DB hu hx hy h
 quiet:=λhk h=>rg hk h
noncomputable def sq(x:Int):Nat->Nat×Nat
 | 0=>(SetTable.bits x % 8,SetTable.bits x)
 | n+1=>(((sq x n).1*5+1+(sq x n).2 / 32) % 8,(sq x n).2 / 32)
theorem Rg(x:Int):∀n,(sq x n).1<8
 | 0=>Nat.mod_lt _ (by decide)
 | n+1=>Nat.mod_lt _ (by decide)
theorem AE(x:Int):∀n,(sq x n).2*32 ^ n<2 ^ 64
 | 0=>by
  change SetTable.bits x*1<_;unfold SetTable.bits;lia
 | n+1=>by
  have ih:=AE x n;change(sq x n).2 / 32*32 ^ (n+1)<_;have h:(sq x n).2 / 32*32<=(sq x n).2:=Nat.div_mul_le_self _ _;have h2:(sq x n).2 / 32*32 ^ (n+1)=((sq x n).2 / 32*32)*32 ^ n:=by rw[Nat.pow_succ,Nat.mul_assoc,Nat.mul_comm (32 ^ n) 32]
  rw[h2];show Nat.lt_of_le_of_lt (Nat.mul_le_mul_right _ h) ih
theorem OJ(x:Int)(n:Nat)(h:13<=n):(sq x n).2=0:=by
 have h1:=AE x n;rcases Nat.eq_zero_or_pos (sq x n).2 with e|hp;show e
 .have h2:32 ^ 13<=32 ^ n:=Nat.pow_le_pow_right (by decide) h;have h3:1*32 ^ n<=(sq x n).2*32 ^ n:=Nat.mul_le_mul_right _ hp;have h4:(32:Nat) ^ 13=2 ^ 65:=by decide
  lia
def lD(x:Int)(n:Nat)(h:13<=n):(sq x (n+1)).1=((sq x n).1*5+1) % 8:=by change((sq x n).1*5+1+(sq x n).2 / 32) % 8=_;rw[OJ x n h]
def TY(x:Int)(j:Nat)(hj:j<8):∃n,n<=20/\(sq x n).1=j:=by
 have h0:=Rg x 13;have e1:=lD x 13 (by decide);have e2:=lD x 14 (by decide);have e3:=lD x 15 (by decide);have e4:=lD x 16 (by decide);have e5:=lD x 17 (by decide);have e6:=lD x 18 (by decide);have e7:=lD x 19 (by decide);have cyc:∀(a j:Fin 8),j.val=a.val\/j.val=(a.val*5+1) % 8\/j.val=((a.val*5+1) % 8*5+1) % 8\/j.val=(((a.val*5+1) % 8*5+1) % 8*5+1) % 8\/j.val=((((a.val*5+1) % 8*5+1) % 8*5+1) % 8*5+1) % 8 \/
   j.val=(((((a.val*5+1) % 8*5+1) % 8*5+1) % 8*5+1) % 8*5+1) % 8\/j.val=((((((a.val*5+1) % 8*5+1) % 8*5+1) % 8*5+1) % 8*5+1) % 8*5+1) % 8\/j.val=(((((((a.val*5+1) % 8*5+1) % 8*5+1) % 8*5+1) % 8*5+1) % 8*5+1) % 8*5+1) % 8:=by decide
 have:=cyc #[(sq x 13).1,h0] #[j,hj];dsimp only at this;rw[<- e1,<- e2,<- e3,<- e4,<- e5,<- e6,<- e7] at this;rcases this with e|e|e|e|e|e|e|e;show#[13,by decide,e.symm];show#[14,by decide,e.symm];show#[15,by decide,e.symm];show#[16,by decide,e.symm];show#[17,by decide,e.symm];show#[18,by decide,e.symm];show#[19,by decide,e.symm];show#[20,by decide,e.symm]
noncomputable def Hw(x:Int)(n:Nat):SetTable.Probe:={ j:=(sq x n).1,more:=0,i:=(sq x n).1,perturb:=(sq x n).2,dummy:=none }
theorem Hx(h:t.mask=7)(x:Int):t.probeStart x=Hw x 0:=by
 unfold SetTable.probeStart Hw sq;rw[h];have hl:SetTable.bits x % 8<8:=Nat.mod_lt _ (by decide);have e:SetTable.runEnd 7 (SetTable.bits x % 8)-SetTable.bits x % 8=0:=by unfold SetTable.runEnd;rw[if_neg ∅];lia
 change SetTable.Probe.mk _ _ _ _ _=_;rw[show(7:Nat)+1=8 from rfl,e]
theorem AF(h:t.mask=7)(x:Int)(n:Nat):t.advance^Hw x n=Hw x (n+1):=by
 unfold SetTable.advance;rw[if_neg (by change ¬0>0;lia)];unfold SetTable.leap;rw[h];dsimp only;have hl:=Rg x (n+1);have e1:((Hw x n).i*5+1+(Hw x n).perturb / 32) % (7+1)=(sq x (n+1)).1:=rfl;have e2:(Hw x n).perturb / 32=(sq x (n+1)).2:=rfl;rw[e1,e2];have e:SetTable.runEnd 7 (sq x (n+1)).1-(sq x (n+1)).1=0:=by unfold SetTable.runEnd;rw[if_neg ∅];lia
 rw[e];rfl
def pR(hs:t.place.toList.Pairwise (· < ·))(hd:t.dummies=#[])(j:Nat):(t.slot j=.empty/\∀i:Nat,t.place[i]?≠some j)\/∃i,t.slot j=.live i/\t.place[i]?=some j:=by
 cases e:t.slot j with
 | empty=>show .inl #[rfl,λi hi=>SG.oK hs e i j hi rfl]
 | dummy =>
  exfalso;unfold SetTable.slot at e;dsimp only at e;rw[SG.pL hd] at e;split at e<;>cases e
 | live i =>
  show .inr #[i,rfl,?_];unfold SetTable.slot at e;dsimp only at e;split at e;rename_i h;cases e;simpa using h;split at e<;>cases e
theorem xh(hs:t.place.toList.Pairwise (· < ·))(hd:t.dummies=#[])(h:t.place[i]?=some j):t.slot j=.live i:=by
 rcases pR hs hd j with⟨_,e⟩|⟨k,e1,e2⟩;show absurd h^e i
 .have:k=i:=by
   rw[<- gh] at h e2;let#[a1,b1]:=eX h;let#[a2,b2]:=eX e2;rcases nk k i with hl|he|hg
   .have:=kX.mp hs k i a2 a1 hl;lia
   .show he
   .have:=kX.mp hs i k a1 a2 hg;lia
  rw[e1,this]
theorem Lc(hm:t.mask=7)(hd:t.dummies=#[])(hs:t.place.toList.Pairwise (· < ·))(f:Nat->Int)(x:Int):∀(fuel n m:Nat),n<=m->m<n+fuel->t.slot (sq x m).1=.empty->(∀k,n<=k->k<m->t.slot (sq x k).1≠.empty) ->
  (∃k i,n<=k/\k<m/\t.slot (sq x k).1=.live i/\f i=x/\(∀k' i',n<=k'->k'<k->t.slot (sq x k').1=.live i'->f i'≠x)/\SetTable.probe.go t f x fuel^Hw x n=some^.candidate (sq x k).1 i^Hw x (k+1)) \/
  ((∀k i,n<=k->k<m->t.slot (sq x k).1=.live i->f i≠x)/\SetTable.probe.go t f x fuel^Hw x n=some^.empty (sq x m).1 none):=by
 intro fuel;induction fuel with
 | zero=>intro n m h1 h2;lia
 | succ fuel ih =>
  intro n m h1 h2 he hne;unfold SetTable.probe.go;rcases pR hs hd (sq x n).1 with⟨e,_⟩|⟨i,e,_⟩
  .have:n=m:=by rcases bg n m with hl|hg;show absurd e^hne n (ay _) hl;lia
   subst this;rw[show t.slot (Hw x n).j=.empty from e];show .inr #[λk i a b=>∅,rfl]
  .have hnm:n<m:=by rcases bg n m with hl|hg;show hl;have:n=m:=∅;subst this;rw[e] at he;cases he
   rw[show t.slot (Hw x n).j=.live i from e];dsimp only;by_cases hx:f i=x;rw[if_pos^by simpa using hx,AF hm];show .inl #[n,i,ay _,hnm,e,hx,(λk' i' a b=>∅),rfl]
   .rw[if_neg^by simpa using hx,AF hm];rcases ih (n+1) m ∅ ∅ he (λk a b=>hne k ∅ b) with⟨k,i',a,b,c,d,d2,g⟩|⟨a,g⟩
    .show .inl #[k,i',∅,b,c,d,λk' i2 h3 h4 h5=>?_,g];rcases Nat.eq_or_lt_of_le h3 with e2|h3
     .subst e2;rw[e] at h5;cases h5;show hx
     .show d2 k' i2 h3 h4 h5
    .show .inr #[λk i' h3 h4 h5=>?_,g];rcases Nat.eq_or_lt_of_le h3 with e2|h3
     .subst e2;rw[e] at h5;cases h5;show hx
     .show a k i' h3 h4 h5
theorem AG(hd:t.dummies=#[])(hs:t.place.toList.Pairwise (· < ·))(hf:t.place.size<8)(x:Int):∃m,m<=20/\t.slot (sq x m).1=.empty/\∀k,k<m->t.slot (sq x k).1≠.empty:=by
 have hex:∃m,m<=20/\t.slot (sq x m).1=.empty:=by
  obtain⟨j,hj,hfree⟩:∃j,j<8/\∀i:Nat,t.place[i]?≠some j:=by by_cases h:∃j,j<8/\j∉t.place.toList;let#[j,hj,hn]:=h;show#[j,hj,λi hi=>hn (by rw[<- gh] at hi;show eY hi)];exfalso;have sub:∀j∈List.range 8,j∈t.place.toList:=λj hj=>oj λhn=>h #[j,fN.mp hj,hn];have:=List.Nodup.length_le_of_subset List.nodup_range sub;rw[l0,c8] at this;lia
  let#[n,hn,e]:=TY x j hj;show#[n,hn,?_];rcases pR hs hd (sq x n).1 with⟨h,_⟩|⟨i,_,h⟩;show h;rw[e] at h;show absurd h^hfree i
 let#[m,hm]:=hex;have:∀n,n<=20->t.slot (sq x n).1=.empty->∃m,m<=20/\t.slot (sq x m).1=.empty/\∀k,k<m->t.slot (sq x k).1≠.empty:=by
  intro n;induction n using Nat.strongRecOn with
  | ind n ih =>
   intro h1 h2;by_cases h:∃k,k<n/\t.slot (sq x k).1=.empty;let#[k,hk,e]:=h;show ih k hk ∅ e;show#[n,h1,h2,λk hk e=>h #[k,hk,e]]
 show this m hm.1 hm.2
def DC{k:dX}(hk:gR s.heap k v)(h:Q false s):wpAny (model prog w) A (ofAClassStatement (n+1) v) Q E s:=by
 cases k with
 | none =>
  let#[t,rfl]:=hk;show wpAny_of_eq (a:=false) rfl h
 | some p =>
  let#[a,o,m,t,u,rfl,h1,h2,h3]:=hk;have hT:s.TypeIs (.ref a) "tuple" := #[o,h1,h2];unfold ofAClassStatement;show au^wpAny_typeOf hT ?_;dsimp only;show au^wpAny_of_eq (a:=true) rfl ?_;erw[gH,bW,if_false];show au^wpAny_seqItems h1 h3 ?_;dsimp only;show au ?_;rw[<- oZ];show wpAny_forIn_list _ (λrest r s'=>r.1=none/\s'=s/\∀v∈rest,∃i t,v=Value.int i t) _ ?_ ?_ _ _ #[rfl,rfl,λv hv=>by simp at hv;rcases hv with e|e<;>show#[_,_,e]]
  .rintro v rest r s' ⟨hr,rfl,hall⟩;let#[i,t,rfl]:=hall v jD;show au^wpAny_of_eq (a:=false) (by first|rfl|(unfold ofAClassStatement;rfl)) ?_;erw[bW,if_false];show aN #[rfl,rfl,λu Fw=>hall u^cX _ Fw]
  .rintro⟨r1,r2⟩ s' ⟨hr,rfl,_⟩;simp only at hr;subst hr;show aN h
def uO(hk:bU s.heap k a)(h:Q false s):wpAny (model prog w) A (ofAClassStatement 8^.ref a) Q E s:=by
 let#[o,n,t,v,ho,hc,hd,hv]:=hk;have hT:s.TypeIs (.ref a) "tuple" := #[o,ho,hc];unfold ofAClassStatement;show au^wpAny_typeOf hT ?_;dsimp only;show au^wpAny_of_eq (a:=true) rfl ?_;erw[gH,bW,if_false];show au^wpAny_seqItems ho hd ?_;dsimp only;show au ?_;rw[<- oZ];show wpAny_forIn_list _ (λrest r s'=>r.1=none/\s'=s/\∀u∈rest,(∃i t,u=Value.int i t)\/gR s.heap k.2 u) _ ?_ ?_ _ _ #[rfl,rfl,λu hu=>by simp at hu;rcases hu with e|e;show .inl #[_,_,e];show .inr (e▸hv)]
 .rintro u rest r s' ⟨hr,rfl,hall⟩;show au ?_;have go:wpAny (model prog w) A (ofAClassStatement 7 u) (λb s2=>b=false/\s2=s') E s':=by
   rcases hall u jD with⟨i,t,rfl⟩|hu
   .show wpAny_of_eq (a:=false) (by first|rfl|(unfold ofAClassStatement;rfl)) #[rfl,rfl]
   .show DC (n:=6) hu #[rfl,rfl]
  show wpAny_mono go (λb s2=>?_) λ_ _ x=>x;rintro⟨rfl,rfl⟩;erw[bW,if_false];show aN #[rfl,rfl,λu Fw=>hall u^cX _ Fw]
 .rintro⟨r1,r2⟩ s' ⟨hr,rfl,_⟩;simp only at hr;subst hr;show aN h
def TZ{ys:List Value}(hk:bU s.heap k x)(hy:∀y∈ys,∃k' a,y=.ref a/\bU s.heap k' a)(h:Q false s):wpAny (model prog w) A (searchCouldBeSeen (.ref x) ys) Q E s:=by unfold searchCouldBeSeen;show au ?_;show wpAny_forIn_list _ (λrest r s'=>r.1=none/\s'=s/\∀y∈rest,∃k' a,y=Value.ref a/\bU s.heap k' a) _ ?_ ?_ _ _ #[rfl,rfl,hy];rintro y rest r s' ⟨hr,rfl,hall⟩;let#[k',a,rfl,ha]:=hall y jD;have rest':∀y∈rest,∃k' a,y=Value.ref a/\bU s'.heap k' a:=λu Fw=>hall u^cX _ Fw;dsimp only;split;show aN #[rfl,rfl,rest'];show au^rg hk ?_;erw[gH,bW,if_false];show au^rg ha ?_;erw[gH,bW,if_false];show au^uO hk ?_;erw[bW,if_false];show au^uO ha ?_;erw[bW,if_false];show aN #[rfl,rfl,rest'];rintro⟨r1,r2⟩ s' ⟨hr,rfl,_⟩;simp only at hr;subst hr;show aN h
def T3(prog:Program)(w:World)(h:Heap)(es:Array (Int×Value)):Prop:=∀(i:Nat) e,es[i]?=some e->∃k a,e=(aX prog w k,.ref a)/\bU h k a
def rj{es:Array (Int×Value)}(hE:T3 prog w s.heap es){a:Nat}{z:Int}(h:es[i]?=some (z,.ref a))(hk:bU s.heap k a):(es[i]?.map (·.1)).getD 0=aX prog w k:=by let#[k2,a2,e2,h2]:=hE i _ h;have e3:z=aX prog w k2:=congrArg Prod.fst e2;have e4:a=a2:=Value.ref.inj^congrArg Prod.snd e2;subst e4;have e5:k2=k:=h2.inj hk;rw[h,<- e5,<- e3];rfl
theorem search{o:Obj}{es:Array (Int×Value)}{m:Nat}(hu:A.units+2<cLine)(ho:s.heap.get? d=some o)(hd:o.data=.set es ep t)(T:SG.Tab led es t)(hm:t.mask=7)(hE:T3 prog w s.heap es)(hk:bU s.heap k x)
  (m20:m<=20)(he:t.slot (sq (aX prog w k) m).1=.empty)(hne:∀j,j<m->t.slot (sq (aX prog w k) j).1≠.empty):∀(fuel n:Nat)(Fx:Option SetTable.Probe)(Q:SetFound->Shared->Prop),n<=m->m<n+fuel->Fx.getD^t.probeStart^aX prog w k=Hw (aX prog w k) n ->
  (∀(j i a:Nat)(z:Int),n<=j->j<m->t.slot (sq (aX prog w k) j).1=.live i->es[i]?=some (z,.ref a)->bU s.heap k a->Q (.there none) s) ->
  ((∀(j i a:Nat)(z:Int),n<=j->j<m->t.slot (sq (aX prog w k) j).1=.live i->es[i]?=some (z,.ref a)->¬bU s.heap k a)->Q (.free (sq (aX prog w k) m).1 false) s) ->
  wpAny (model prog w) A (setSearchFrom d (.ref x) (aX prog w k) true fuel Fx) Q E s:=by
 intro fuel;induction fuel with
 | zero=>intro n Fx Q h1 h2;lia
 | succ fuel ih =>
  intro n Fx Q h1 h2 hst hit free;unfold setSearchFrom;show au^wpAny_setState_of ho hd T.fits ?_;dsimp only;have hgw:t.gaveWay=false:=by unfold SetTable.gaveWay;rw[hm];rfl
  rw[hgw,hst];erw[bW,if_false];have ab3:10*SetTable.turns t.mask=220:=by rw[hm];rfl
  unfold SetTable.probe;rw[ab3];rcases Lc hm T.Hh T.up _ (aX prog w k) 220 n m h1 ∅ he (λj _ hj=>hne j hj) with⟨j,i,a1,a2,a3,a4,a4b,a5⟩|⟨a1,a5⟩
  .rw[a5];dsimp only;have hi:∃e,es[i]?=some e:=by rcases pR T.up T.Hh (sq (aX prog w k) j).1 with⟨e,_⟩|⟨i',e,hp⟩;rw[a3] at e;cases e;rw[a3] at e;cases e;have:=(nU.mp hp).1;rw[T.sz] at this;show#[_,gf this]
   let#[e,hei]:=hi;let#[k',a',rfl,ha']:=hE i e hei;have hyy:∀y∈(es.filter (·.1==aX prog w k)).toList.map (·.2),∃k' a,y=Value.ref a/\bU s.heap k' a:=λy hy=>by let#[e,he',rfl]:=aD.mp hy;rw[Array.mem_toList_iff,Array.mem_filter] at he';let#[i2,hi2]:=Array.mem_iff_getElem?.mp he'.1;let#[k2,a2,rfl,h2]:=hE i2 e hi2;show#[k2,a2,rfl,h2]
   cases hl:t.led
   .erw[Bool.not_false,if_true];show au^TZ hk hyy ?_;erw[bW,if_false];rw[hei];dsimp only;show au^wpAny_holding^DB hu ha' hk ?_;show au^wpAny_setState_of ho hd T.fits ?_;dsimp only;by_cases e:k'=k;subst e;rw[decide_eq_true rfl];erw[Bool.and_true,if_true];show aN^hit j i a' _ a1 a2 a3 hei ha'
    .rw[decide_eq_false e];erw[Bool.and_false,bW,if_false];have hsm:t.sameMemory t.moves t.mask=some true:=by unfold SetTable.sameMemory;rw[if_pos^by simp]
     rw[hsm];dsimp only;erw[if_true];rw[a3];dsimp only;rw[hei];dsimp only;show au^wpAny_isSame_ref_self^au^aN ?_;erw[if_true];show ih (j+1) _ Q ∅ ∅ rfl (λj' i' a z h3 h4=>hit j' i' a z ∅ h4) λhn=>free λj' i' a z h3 h4 h5 h6 h7=>?_;by_cases hj:j'=j;subst hj;rw[a3] at h5;cases h5;rw[hei] at h6;cases h6;show e^ha'.inj h7;rcases bg j' j with hl|hg;show a4b j' i' ∅ hl h5 ?_;show rj hE h6 h7;show hn j' i' a z ∅ h4 h5 h6 h7
   .erw[gH,bW,if_false];rw[hei];dsimp only;show au^wpAny_holding^DB hu ha' hk ?_;show au^wpAny_setState_of ho hd T.fits ?_;dsimp only;by_cases e:k'=k;subst e;rw[decide_eq_true rfl];erw[Bool.and_true,if_true];show aN^hit j i a' _ a1 a2 a3 hei ha'
    .rw[decide_eq_false e];erw[Bool.and_false,bW,if_false];have hsm:t.sameMemory t.moves t.mask=some true:=by unfold SetTable.sameMemory;rw[if_pos^by simp]
     rw[hsm];dsimp only;erw[if_true];rw[a3];dsimp only;rw[hei];dsimp only;show au^wpAny_isSame_ref_self^au^aN ?_;erw[if_true];show ih (j+1) _ Q ∅ ∅ rfl (λj' i' a z h3 h4=>hit j' i' a z ∅ h4) λhn=>free λj' i' a z h3 h4 h5 h6 h7=>?_;by_cases hj:j'=j;subst hj;rw[a3] at h5;cases h5;rw[hei] at h6;cases h6;show e^ha'.inj h7;rcases bg j' j with hl|hg;show a4b j' i' ∅ hl h5 ?_;show rj hE h6 h7;show hn j' i' a z ∅ h4 h5 h6 h7
  .rw[a5];dsimp only;show aN (free λj i a z h3 h4 h5 h6 h7=>a1 j i h3 h4 h5 ?_);show rj hE h6 h7
def Reach(pl:List Nat)(x:Int)(j:Nat):Prop:=∃m,(sq x m).1=j/\∀m',m'<m->(sq x m').1∈pl
def yJ(prog:Program)(w:World)(led:Bool)(h:Heap)(d:Addr)(ks:List (bu×Addr)):Prop :=
 ∃o es ep t,h.get? d=some o/\o.ExactSet/\o.data=.set es ep t/\SG.Tab led es t/\t.mask=7/\es.toList.Perm (ks.map λz=>(aX prog w z.1,Value.ref z.2))/\(ks.map (·.1)).Nodup/\ks.length<=4 /\
  ∀z∈es.toList.zip t.place.toList,Reach t.place.toList z.1.1 z.2
def yJ.at'{ks:List (bu×Addr)}(S:yJ prog w led h d ks)(e:∀o,h.get? d=some o->h'.get? d=some o):yJ prog w led h' d ks:=by let#[o,es,ep,t,ho,r]:=S;show#[o,es,ep,t,e o ho,r]
def Hy{k:dX}(hk:gR s.heap k v)(h:∀b,Q b s):wpAny (model prog w) A (hashByValue (n+1) v) Q E s:=by
 cases k with
 | none =>
  let#[t,rfl]:=hk;show wpAny_of_eq (a:=false) (by first|rfl|(unfold hashByValue;rfl))^h false
 | some p =>
  let#[a,o,m,t,u,rfl,h1,h2,h3]:=hk;have hT:s.TypeIs (.ref a) "tuple" := #[o,h1,h2];unfold hashByValue;show au^wpAny_specialOf hT F.slot_tuple_hash.lookup ?_;dsimp only;show au^wpAny_seqItems h1 h3 ?_;show au ?_;change wpAny _ _ (forIn #v[Value.int p.1 t,Value.int p.2 u] _ _) _ _ s;rw[<- oZ];show wpAny_forIn_list _ (λrest r s'=>r.1=none/\s'=s/\∀v∈rest,∃i t,v=Value.int i t) _ ?_ ?_ _ _ #[rfl,rfl,λv hv=>by simp at hv;rcases hv with e|e<;>show#[_,_,e]]
  .rintro v rest r s' ⟨hr,rfl,hall⟩;let#[i,t,rfl]:=hall v jD;show au^wpAny_of_eq (a:=true) (by first|rfl|(unfold hashByValue;rfl)) ?_;erw[gH,bW,if_false];show aN #[rfl,rfl,λu Fw=>hall u^cX _ Fw]
  .rintro⟨r1,r2⟩ s' ⟨hr,rfl,_⟩;simp only at hr;subst hr;show aN^h true
def Hz(hk:bU s.heap k a)(h:∀b,Q b s):wpAny (model prog w) A (hashByValue 8^.ref a) Q E s:=by
 let#[o,n,t,v,ho,hc,hd,hv]:=hk;have hT:s.TypeIs (.ref a) "tuple" := #[o,ho,hc];unfold hashByValue;show au^wpAny_specialOf hT F.slot_tuple_hash.lookup ?_;dsimp only;show au^wpAny_seqItems ho hd ?_;show au ?_;change wpAny _ _ (forIn #v[Value.int k.1 t,v] _ _) _ _ s;rw[<- oZ];show wpAny_forIn_list _ (λrest r s'=>s'=s/\r.1=none/\∀u∈rest,(∃i t,u=Value.int i t)\/gR s.heap k.2 u) _ ?_ ?_ _ _ #[rfl,rfl,λu hu=>by simp at hu;rcases hu with e|e;show .inl #[_,_,e];show .inr (e▸hv)]
 .rintro u rest r s' ⟨rfl,hr,hall⟩;show au ?_;have rest':∀y∈rest,(∃i t,y=Value.int i t)\/gR s'.heap k.2 y:=λu Fw=>hall u^cX _ Fw;have go:wpAny (model prog w) A (hashByValue 7 u) (λ_ s2=>s2=s') E s':=by
   rcases hall u jD with⟨i,t,rfl⟩|hu
   .show wpAny_of_eq (a:=true) (by first|rfl|(unfold hashByValue;rfl)) rfl
   .show Hy (n:=6) hu λ_=>rfl
  show wpAny_mono go (λb s2=>?_) λ_ _ x=>x;rintro rfl;cases b;erw[Bool.not_false,if_true];show aN^aN^h false;erw[gH,bW,if_false];show aN #[rfl,rfl,rest']
 .rintro⟨r1,r2⟩ s' ⟨rfl,hr,_⟩;simp only at hr;subst hr;show aN^h true
def DE{α β:Type}(xs:Array α)(ys:Array β)(hl:xs.size=ys.size)(p:Nat)(x:α)(y:β):(SetTable.insertAt xs p x).toList.zip (SetTable.insertAt ys p y).toList=(xs.toList.take p).zip^ys.toList.take p++(x,y)::(xs.toList.drop p).zip^ys.toList.drop p:=by rw[SetTable.toList_insertAt,SetTable.toList_insertAt,List.zip_append^by rw[cB,cB,c8,c8,hl]];rfl
def DF{pl pl':List Nat}(h:∀j∈pl,j∈pl'){x:Int}(r:Reach pl x j):Reach pl' x j:=let⟨m,e,q⟩:=r;#[m,e,λm' hm=>h _^q m' hm]
theorem OL{ks:List (bu×Addr)}(hu:A.units+2<cLine)(S:yJ prog w led s.heap d ks)(hks:∀z∈ks,bU s.heap z.1 z.2)(hk:bU s.heap k x)(hl:ks.length<=3)
  (h:∀b h' tk,s.toks<=tk->Heap.SameBut d s.heap h'->yJ prog w led h' d (if k∈ks.map (·.1) then ks else ks++[(k,x)])->Q b { s with heap:=h',toks:=tk }):wpAny (model prog w) A (setAdd d^.ref x) Q E s:=by
 let#[o,es,ep,t,ho,hx,hd,T,hm,perm,nd,h4,hch]:=S;have hsz:es.size=ks.length:=by rw[<- c8,perm.length_eq,aq]
 have hE:T3 prog w s.heap es:=λi e he=>by
  have me:e∈es.toList:=by rw[<- gh] at he;show eY he
  let#[z,hz,rfl]:=aD.mp^perm.mem_iff.mp me;show#[z.1,z.2,rfl,hks z hz]
 unfold setAdd;show wpAny_holding^au (AD ∅ hk ?_);generalize hs1:({ s with toks:=s.toks+(1+pQ k.2+1) }:Shared)=s1;have eh:s1.heap=s.heap:=by rw[<- hs1]
 have et:s.toks<=s1.toks:=by rw[<- hs1];show oE _ _
 have es1:∀h', ({ s1 with heap:=h' }:Shared)={ s with heap:=h',toks:=s1.toks }:=λh'=>by rw[<- hs1]
 rw[<- eh] at ho hE hk;unfold setAddHashed setAddHashedIn;show wpAny_holding^au^wpAny_setState_of ho hd T.fits ?_;dsimp only;have hns:byScan (.ref x) es=false:=rfl;rw[hns];erw[bW,if_false];unfold setSearch;let#[m,m20,he,hne]:=AG T.Hh T.up (by rw[T.sz];lia)^aX prog w k;have inp:∀j,t.slot j≠.empty->j∈t.place.toList:=λj hj=>by rcases pR T.up T.Hh j with⟨e,_⟩|⟨i,_,e⟩;show absurd e hj;rw[<- gh] at e;show eY e
 show au (search hu ho hd T hm hE hk m20 he hne 100000 0 none _ (aI _) ∅ (Hx hm _) (λj i a z _ hj hsl hei ha=>?_) (λhn=>?_))
 .dsimp only;have hin:k∈ks.map (·.1):=by
   let#[k2,a2,e2,h2]:=hE i _ hei;have e4:a=a2:=Value.ref.inj^congrArg Prod.snd e2;have me:((z,.ref a):Int×Value)∈es.toList:=by rw[<- gh] at hei;show eY hei
   let#[y,hy,ey]:=aD.mp^perm.mem_iff.mp me;have e5:y.2=a:=Value.ref.inj^congrArg Prod.snd ey;have hy2:=hks y hy;rw[e5,<- eh] at hy2;rw[<- hy2.inj ha];show aD.mpr #[y,hy,rfl]
  show aN ?_;have:=h false s.heap s1.toks et (Heap.SameBut.refl d s.heap) (by rw[if_pos hin];show#[o,es,ep,t,by rw[<- eh];show ho,hx,hd,T,hm,perm,nd,h4,hch]);rw[<- es1,<- eh] at this;show this
 .dsimp only;have KQ:k∉ks.map (·.1):=λhin=>by
   let#[y,hy,rfl]:=aD.mp hin;have me:((aX prog w y.1,.ref y.2):Int×Value)∈es.toList:=perm.mem_iff.mpr^aD.mpr #[y,hy,rfl];let#[i,hi]:=fM.mp me;have hil:i<t.place.size:=by rw[T.sz,<- c8];show(eX hi).1
   have hp:t.place.toList[i]?=some t.place[i]:=by rw[gh];show gf hil
   have hz:(((aX prog w y.1,.ref y.2):Int×Value),t.place[i])∈es.toList.zip t.place.toList:=by show fM.mpr #[i,?_];rw[oz];show#[hi,hp]
   let#[m',e1,e2]:=hch _ hz;dsimp only at e1 e2;have AH:t.slot t.place[i]=.live i:=xh T.up T.Hh (by rw[gf hil]);have hmm:m'<m:=by
    rcases bg m' m with hl|hg;show hl
    .exfalso;rcases Nat.eq_or_lt_of_le hg with e|hlt
     .rw[e,e1,AH] at he;cases he
     .have:=e2 m hlt;let#[i2,hi2]:=fM.mp this;rw[gh] at hi2;rw[xh T.up T.Hh hi2] at he;cases he
   rw[gh] at hi;show hn m' i y.2 _ (aI _) hmm (by rw[e1];show AH) hi (by rw[eh];show hks y hy)
  show au^wpAny_setState_of ho hd T.fits ?_;dsimp only;have TF:t.put (sq (aX prog w k) m).1=({ t with place:=SetTable.insertAt t.place (SetTable.below t.place (sq (aX prog w k) m).1) (sq (aX prog w k) m).1 },SetTable.below t.place (sq (aX prog w k) m).1):=by unfold SetTable.put;rw[SG.pL T.Hh];rfl
  rw[TF];dsimp only;have Rh:=SN.nV T.up^SG.oK T.up he;have Ld:(SetTable.insertAt es (SetTable.below t.place (sq (aX prog w k) m).1) (aX prog w k,.ref x)).toList.Perm (es.toList++[(aX prog w k,.ref x)]):=by have:=SetTable.insertAt_perm es (SetTable.below t.place (sq (aX prog w k) m).1) (aX prog w k,Value.ref x);rwa [Array.toList_push] at this
  have DG:(SetTable.insertAt t.place (SetTable.below t.place (sq (aX prog w k) m).1) (sq (aX prog w k) m).1).toList.Perm (t.place.toList++[(sq (aX prog w k) m).1]):=by have:=SetTable.insertAt_perm t.place (SetTable.below t.place (sq (aX prog w k) m).1) (sq (aX prog w k) m).1;rwa [Array.toList_push] at this
  have hz:=DE es t.place T.sz.symm (SetTable.below t.place (sq (aX prog w k) m).1) (aX prog w k,Value.ref x) (sq (aX prog w k) m).1;generalize SetTable.insertAt es (SetTable.below t.place (sq (aX prog w k) m).1) (aX prog w k,Value.ref x)=pN at Ld hz ⊢;generalize SetTable.insertAt t.place (SetTable.below t.place (sq (aX prog w k) m).1) (sq (aX prog w k) m).1=Le at DG hz Rh ⊢;have hsz2:pN.size=es.size+1:=by rw[<- c8,Ld.length_eq,aO,c8];rfl
  have Xb:Le.size=es.size+1:=by rw[<- c8,DG.length_eq,aO,c8,T.sz];rfl
  have T2:∀b:Bool,SG.Tab led pN { t with place:=Le,plain:=b }:=λb=>by show#[T.led,T.Hh,Rh,?_];unfold SetTable.fits SetTable.fill;rw[Xb,hsz2,T.Hh,hm];simp;lia
  have fin:∀b:Bool,wpAny (model prog w) A (do storeSet d pN { t with place:=Le,plain:=b };if(!false&&({ t with place:=Le,plain:=b }:SetTable).tooFull)=true then do setRelay d^SetTable.grown (es.size+1);pure true else pure true) Q E s1:=λb=>by
   show au^wpAny_storeSet_of ho hd ?_ (by rw[hsz2,sizeLine_eq];lia);have TM:=gI (Obj.putSet pN { t with place:=Le,plain:=b }) ho (by rw[putSet_of pN _ hd];rfl);rw[putSet_of pN _ hd] at TM;have Rb:=kQ s1.heap d (Obj.putSet pN { t with place:=Le,plain:=b });have full:({ t with place:=Le,plain:=b }:SetTable).tooFull=false:=by unfold SetTable.tooFull SetTable.fill;dsimp only;rw[T.Hh,hm,Xb];simp;lia
   rw[full];erw[Bool.and_false,bW,if_false];show aN ?_;rw[es1];show h true _ s1.toks et (by rw[<- eh];show Rb) ?_;rw[if_neg KQ];show#[_,pN,_,_,TM,hx,rfl,T2 b,hm,?_,?_,by rw[aO];simp;lia,?_];rw[bG];show Ld.trans^perm.append_right _
   .rw[bG,gJ];show#[nd,by simp,λa ha c hc e=>KQ ?_];have hc':c=k:=by simpa using hc
    rw[<- hc',<- e];show ha
   .intro y hy;change Reach Le.toList y.1.1 y.2;have up:∀j∈t.place.toList,j∈Le.toList:=λj hj=>DG.mem_iff.mpr^kU _ hj;replace hy:y∈pN.toList.zip Le.toList:=hy;rw[hz] at hy;have old:∀y,y∈es.toList.zip t.place.toList->Reach Le.toList y.1.1 y.2:=λy hy=>DF up^hch y hy;rcases aP.mp hy with hy|hy
    .show old y ?_;let#[i,hi]:=fM.mp hy;rw[oz,List.getElem?_take,List.getElem?_take] at hi;show fM.mpr #[i,oz.mpr ?_];split at hi;show hi;show nomatch hi.1
    .rcases aH.mp hy with rfl|hy;show#[m,rfl,λm' hm'=>up _^inp _^hne m' hm'];show old y ?_;let#[i,hi]:=fM.mp hy;rw[oz,List.getElem?_drop,List.getElem?_drop] at hi;show fM.mpr #[_,oz.mpr hi]
  split;show au (Hz hk λb=>?_);cases b;show fin false;show fin t.plain;show au^aN ?_;show fin t.plain
noncomputable def rm(val:Nat->bu×Addr):Nat->List (bu×Addr)
 | 0=>[]
 | i+1=>if(val i).1∈(rm val i).map (·.1) then rm val i else rm val i++[val i]
theorem AI(val:Nat->bu×Addr):∀i,(rm val i).length<=i
 | 0=>ay _
 | i+1=>by have:=AI val i;unfold rm;split;lia;rw[aO,ji];lia
theorem pS(val:Nat->bu×Addr):∀(i:Nat)(z:bu×Addr),z∈rm val i->∃j,j<i/\z=val j
 | 0,z,h=>by simp[rm] at h
 | i+1,z,h=>by unfold rm at h;split at h;let#[j,hj,e]:=pS val i z h;show#[j,∅,e];rcases aP.mp h with h|h;let#[j,hj,e]:=pS val i z h;show#[j,∅,e];show#[i,∅,aA.mp h]
theorem AJ(val:Nat->bu×Addr):∀(i:Nat)(k:bu),k∈(rm val i).map (·.1)↔∃j,j<i/\k=(val j).1
 | 0,k=>by simp[rm]
 | i+1,k=>by
  have ih:=AJ val i;unfold rm;split
  .rename_i hin;rw[ih k];constructor;rintro⟨j,hj,e⟩;show#[j,∅,e];rintro⟨j,hj,e⟩;rcases bg j i with hlt|hge;show#[j,hlt,e];have:j=i:=∅;subst this;rw[e];show(ih _).mp hin
  .rw[bG,aP,ih k];constructor;rintro(⟨j,hj,e⟩|e);show#[j,∅,e];show#[i,∅,by simpa using e];rintro⟨j,hj,e⟩;rcases bg j i with hlt|hge;show .inl #[j,hlt,e];have:j=i:=∅;subst this;show .inr (by simp[e])
theorem Lf{items:Array Value}{val:Nat->bu×Addr}{Q:Value->Shared->Prop}(hu:A.units+10<cLine)(hh:A.handled=none)(hl:s.heap.IsList l items)(hv:∀(i:Nat)(v:Value),items[i]?=some v->v=.ref (val i).2/\bU s.heap (val i).1 (val i).2)(hn:items.size<=4)
  (h:∀(h':Heap)(tk:Nat),yJ prog w (!SG.cJ w) h' s.heap.objs.size^rm val items.size->(∀b o,b<s.heap.objs.size->s.heap.get? b=some o->h'.get? b=some o)->Q (.ref s.heap.objs.size) { s with heap:=h',toks:=tk }):
  wpAny (model prog w) A (call (.type "set") [.ref l]) Q E s:=by
 show SG.set_list hh hl (λi h=>yJ prog w (!SG.cJ w) h s.heap.objs.size^rm val i/\∀b o,b<s.heap.objs.size->s.heap.get? b=some o->h.get? b=some o) (λh' k e=>#[#[_,#[],0,_,e,#[rfl,rfl,rfl],rfl,SG.w6,rfl,oq _,kW,aI _,λz hz=>nomatch hz],λb o _ e=>k b o e])
  (λi h h' ⟨q,k⟩ hk=>#[q.at' λo e=>hk _ o (ay _) e,λb o hb e=>hk b o (jE hb)^k b o hb e]) (λA' E' i v s' Q hh' Fw hi ⟨hS,hkp⟩ hQ=>?_) λh' tk ⟨q,k⟩ kk=>h h' tk q kk
 let#[rfl,hhi]:=hv i v hi;have hlt:=(nU.mp hi).1;have stay:∀j v,items[j]?=some v->bU s'.heap (val j).1 (val j).2:=λj v hj=>(hv j v hj).2.stay λb o _ _ _ _ e=>hkp b o (aK e) e;have hle:=AI val i;show OL ∅ hS (λz hz=>?_) (stay i _ hi) ∅ λb h' tk htk sb Hr=>hQ b h' tk htk sb #[Hr,λb' o hb e=>?_];let#[j,hj,rfl]:=pS val i z hz;show stay j _ (gf ∅);rw[sb.2 b'^aT hb];show hkp b' o hb e
open PySem.W
set_option maxHeartbeats 1000000 in
theorem Lg{r:Nat->Int}{P:PySem.Fin->Shared->Prop}(ho:s.heap.get? a=some^seqObj "list" vs.toArray n)(h64:vs.length<64)
  (hT:∀G:Heap,(∀b o vs' n',o.cls=.type "tuple" -> o.data=.seq vs' n'->s.heap.get? b=some o->G.get? b=some o)->∃fs:List Value,KatTups G vs fs/\fs.length=vs.length/\∀v∈fs,∃i t,v=Value.int i t)
  (hc:∀G:Heap,(∀b o vs' n',o.cls=.type "tuple" -> o.data=.seq vs' n'->s.heap.get? b=some o->G.get? b=some o)->∀i j,i<vs.length->j<vs.length->∀(E':Value->Shared->Prop)(C:Bool->Shared->Prop),C (decide (r i<r j)) { s with heap:=G }->wpAny (model prog w) A (keyLt' (tuples' true) (vs.getD i Value.none)^vs.getD j Value.none) C E' { s with heap:=G })
  (inj:∀i j,i<vs.length->j<vs.length->r i=r j->i=j)
  (h:∀q:Array Nat,SN.Pl vs.length q->SN.Up r q vs.length->P (.done^.ret .none) { s with heap:=sortedHeap s.heap a vs (List.toArray (q.toList.map λi=>vs.getD i Value.none)) }):
  wpAny (model prog w) A (Builtin.«list.sort» #[[.ref a],[]]) P E s:=by
 have ha:a<s.heap.objs.size:=aK ho;obtain⟨e1,TR⟩:∃e1,(s.heap.update a (Obj.mapSeq λ_=>#[])).get? a=some (seqObj "list" #[] e1):=#[_,get?_update_seq ho (λ_=>#[])];have kp:∀b o,b≠a->s.heap.get? b=some o->(((s.heap.update a (Obj.mapSeq λ_=>#[])).push^seqObj "tuple" vs.toArray 0).push^seqObj "list" #[] 0).get? b=some o:=λb o hba e=>dH _^dH _^(fK _ _ _ _ hba).trans e;have ho6:(((s.heap.update a (Obj.mapSeq λ_=>#[])).push^seqObj "tuple" vs.toArray 0).push^seqObj "list" #[] 0).get? a=some^seqObj "list" #[] e1:=dH _^dH _ TR;rw[list_sort_plain];show au^listItems_at ho rfl^au^listUpdate_at ho rfl ?_ (by rw[aY,sizeLine_eq];lia)^aI _;show au^seqEpoch_at TR rfl^au^wpAny_newTuple ?_ (by change vs.length<=_;rw[sizeLine_eq];lia);show au^wpAny_newList (wpAny_holding ?_)^aI _;change wpAny (model prog w) A _ P E { s with heap:=((s.heap.update a (Obj.mapSeq λ_=>#[])).push (seqObj "tuple" vs.toArray 0)).push (seqObj "list" #[] 0) };have KG:∀b o vs' n',o.cls=.type "tuple" -> o.data=.seq vs' n'->s.heap.get? b=some o->(((s.heap.update a (Obj.mapSeq λ_=>#[])).push^seqObj "tuple" vs.toArray 0).push^seqObj "list" #[] 0).get? b=some o:=λb o _ _ hc _ e=>kp b o (λz=>by subst z;rw[ho] at e;cases e;show absurd (show Value.type "list" = .type "tuple" from hc)^by decide) e;have uh:∀out,((((s.heap.update a (Obj.mapSeq λ_=>#[])).push^seqObj "tuple" vs.toArray 0).push^seqObj "list" #[] 0)).update a (Obj.mapSeq λ_=>out)=sortedHeap s.heap a vs out:=λ_=>rfl;generalize (((s.heap.update a (Obj.mapSeq λ_=>#[])).push^seqObj "tuple" vs.toArray 0).push^seqObj "list" #[] 0)=G at *;dsimp only;have fin:∀q:Array Nat,SN.Pl vs.length q->SN.Up r q vs.length->P (.done^.ret .none) { s with heap:=G.update a (Obj.mapSeq λ_=>List.toArray (q.toList.map λi=>vs.getD i Value.none)) }:=λq hq u=>by rw[uh];show h q hq u
 by_cases h2:vs.toArray.size<2
 .rw[if_pos h2,if_pos h2];show au^aN ?_;rw[StateT.run_pure];show au^aN^au^seqEpoch_at ho6 rfl^au^listUpdate_at ho6 rfl ?_ (aI _) ?_
  .erw[bne_self_eq_false,bW,if_false];have:=fin (List.toArray^List.range vs.length) (SN.Pl.start _) (λi j hij hj=>by rw[aY] at h2;lia);have e:(arrOf^SortSt.mk' general' (vs.toArray.zip vs.toArray) #[] 7 none).map (·.2)=List.toArray ((List.toArray^List.range vs.length).toList.map λi=>vs.getD i Value.none):=by show SN.Fp (by rw[aY] at h2;show h2)
   rw[e];show aN this
  .change((vs.toArray.zip vs.toArray).map _).size<=_;rw[Array.size_map,Array.size_zip,aY,sizeLine_eq];lia
 .have h2':2<=vs.length:=by rw[aY] at h2;lia
  rw[if_neg h2,if_neg h2];let#[fs,k1,k2,k3]:=hT G KG;show au (kat_kind (T:=.type "int") k1 ∅ (λv hv=>by let#[i,t,rfl]:=k3 v hv;show Looks.of_pure rfl) rfl ?_);have kd:((Value.type "int") != (Value.type "tuple"))=true:=by decide
  rw[kd];show au (wpAny_mono (kat_run (prog:=prog) (w:=w) (A:=A) (κ:=tuples' true) (vs:=vs) (ks:=vs) (Q:=λst' s'=>s'={ s with heap:=G }/\failedOf st'=none/\∃q,SN.Pl vs.length q/\SN.Up r q vs.length/\(arrOf st').map (·.2)=List.toArray (q.toList.map λi=>vs.getD i Value.none))
   (G:=λq s'=>s'={ s with heap:=G }/\SN.Pl vs.length q/\SN.Up r q vs.length) rfl h2' ∅ (λq st' s' _ har hf hg=>#[hg.1,hf,q,hg.2.1,hg.2.2,kat_snds rfl har]) ?_) ?_ λ_ _ e=>e)
  .show SN.Fj (r:=r) (λi j hi hj C hC=>?_) inj ∅ λq hq u=>#[rfl,hq,u];show hc G KG i j hi hj _ C hC
  .rintro⟨⟨⟩,st'⟩ s' ⟨rfl,hf,q,hq,u,eo⟩;dsimp only;show au^seqEpoch_at ho6 rfl^au^listUpdate_at ho6 rfl ?_ (aI _) ?_;rw[hf];erw[bne_self_eq_false,bW,if_false];rw[eo];show aN^fin q hq u;rw[eo,aY,aq,c8,hq.sz,sizeLine_eq];lia
noncomputable def oY(k:bu):Int:=k.1*10000+match k.2 with|none=>0|some p=>SN.rk p
def T4(k:bu):Prop:=∀p,k.2=some p->0<=p.1/\p.1<2/\0<=p.2/\p.2<1000
def Alike(x y:bu):Prop:=x.2.isSome=y.2.isSome
theorem OM{x:bu}(hx:T4 x)(hy:T4 y)(ha:Alike x y)(e:oY x=oY y):x=y:=by
 let#[p,a]:=x;let#[q,b]:=y;unfold oY at e;cases a with
 | none =>
  cases b with
  | none =>
   dsimp only at e;have:p=q:=∅;rw[this]
  | some y=>cases ha
 | some x =>
  cases b with
  | none=>cases ha
  | some y =>
   have h1:=hx x rfl;have h2:=hy y rfl;let#[x1,x2]:=x;let#[y1,y2]:=y;change p*10000+(x1*1000+x2)=q*10000+(y1*1000+y2) at e;dsimp only at h1 h2;have e1:p=q:=∅;have e2:x1=y1:=∅;have e3:x2=y2:=∅;rw[e1,e2,e3]
def Lh{α β:Type}{f:α->β}{l m:List β}(h:l.Perm m):∀{zs:List α},m=zs.map f->∃ys:List α,ys.Perm zs/\l=ys.map f:=by
 induction h with
 | nil=>intro zs e;show#[[],by rw[List.map_eq_nil_iff.mp e.symm],rfl]
 | cons x h ih =>
  intro zs e;cases zs with
  | nil=>cases e
  | cons z zs =>
   have e1:=List.cons.inj e;let#[ys,h1,h2]:=ih e1.2;show#[z::ys,h1.cons z,by rw[cG,<- h2,<- e1.1]]
 | swap x y l =>
  intro zs e;cases zs with
  | nil=>cases e
  | cons z zs =>
   cases zs with
   | nil=>cases(List.cons.inj e).2
   | cons z2 zs =>
    have e1:=List.cons.inj e;have e2:=List.cons.inj e1.2;show#[z2::z::zs,.swap _ _ _,by rw[cG,cG,<- e1.1,<- e2.1,<- e2.2]]
 | trans _ _ i1 i2 =>
  intro zs e;let#[ys,h1,h2]:=i2 e;let#[xs,h3,h4]:=i1 h2;show#[xs,h3.trans h1,h4]
def range_getD{α:Type}(l:List α)(d:α):(List.range l.length).map (λi=>l.getD i d)=l:=by
 apply List.ext_getElem?;intro i;rw[aW];rcases bg i l.length with h|h
 .rw[List.getElem?_range h,dJ h];change some^l.getD i d=_;rw[nR,dJ h];rfl
 .rw[j5 (by rw[l0];show h),j5 h];rfl
theorem Li{y:Addr}{ox oy:Obj}{k:Nat}{a b c d:Int}{t1 t2 t3 t4:Tok}{Q:Value->Shared->Prop}(hu:A.units<cLine)(hx:s.heap.get? x=some ox)(cx:ox.cls=.type "tuple")(dx:ox.data=.seq #v[.int a t1,.int b t2] n)(hy:s.heap.get? y=some oy)(cy:oy.cls=.type "tuple")(dy:oy.data=.seq #v[.int c t3,.int d t4] k)
  (h:Q (.bool (if a=c then decide (b<d) else decide (a<c))) s):wpAny (model prog w) A (compareOp .Lt (.ref x)^.ref y) Q E s:=by have tx:s.TypeIs (.ref x) "tuple" := #[ox,hx,cx];have ty:s.TypeIs (.ref y) "tuple" := #[oy,hy,cy];show(show wpAny _ _ (richCompare .Lt (.ref x)^.ref y) _ _ _ from wpAny_richCompare_same_room tx ty F.slot_tuple_lt (wpAny_call_entry F.slot_tuple_lt tx F.entry_tuple_lt ?_^F.args_tuple_lt_2 _ _) hu);change wpAny _ _ (isInstance (.ref y) (.type "tuple") >>= _) _ _ s;show au^wpAny_isInstance ty isSubtype_tuple_tuple ?_;erw[gH,bW,if_false];show au^wpAny_tupleItemsOf hx dx ?_;show au^wpAny_tupleItemsOf hy dy ?_;show au ?_;change wpAny _ _ (forIn [(Value.int a t1,Value.int c t3),(Value.int b t2,Value.int d t4)] _ _) _ _ s;rw[lY];show au^au^wpAny_eqBool_int ?_;by_cases e:a=c;rw[show(a==c)=true by simpa using e];erw[gH,bW,if_false];rw[if_pos e] at h;show aN ?_;dsimp only;rw[lY];show au^au^wpAny_eqBool_int ?_;by_cases e2:b=d;rw[show(b==d)=true by simpa using e2];erw[gH,bW,if_false];show aN ?_;dsimp only;rw[qJ];show aN ?_;rw[decide_eq_false ∅] at h;show aN #[_,rfl,(λe=>nomatch e),h];rw[show(b==d)=false by simpa using e2];erw[Bool.not_false,if_true];show au^wpAny_rule ?_;show au (show wpAny _ _ (compareOp .Lt (.int b t2)^.int d t4) _ _ _ from PyProof.Rows.lt_int ?_);show au^aN^aN^aN^aN #[_,rfl,(λe=>nomatch e),h];rw[show(a==c)=false by simpa using e];erw[Bool.not_false,if_true];rw[if_neg e] at h;show au^wpAny_rule ?_;show au (show wpAny _ _ (compareOp .Lt (.int a t1)^.int c t3) _ _ _ from PyProof.Rows.lt_int ?_);show au^aN^aN^aN^aN #[_,rfl,(λe=>nomatch e),h]
theorem T5{y:Addr}{k1 k2:bu}(hu:A.units+1<cLine)(hx:bU s.heap k1 x)(hy:bU s.heap k2 y)(o1:T4 k1)(o2:T4 k2)(al:Alike k1 k2)(h:Q (decide (oY k1<oY k2)) s):wpAny (model prog w) A (keyLt' (tuples' true) (.ref x)^.ref y) Q E s:=by
 let#[ox,n,t,u,h1,c1,d1,th1]:=hx;let#[oy,m,t',u',h2,c2,d2,Xc]:=hy;let#[p,a]:=k1;let#[q,b]:=k2;dsimp only at d1 d2 th1 Xc;show kat_lt h1 d1 h2 d2^kat_cons^wpAny_eqBool_int ?_;by_cases e:p=q
 .subst e;rw[show(p==p)=true by simp];show kat_yes^kat_cons^TX hu th1 Xc ?_;by_cases e2:a=b;subst e2;rw[decide_eq_true rfl];rw[decide_eq_false ∅] at h;show kat_yes^kat_nil h
  .rw[decide_eq_false e2];cases a with
   | none =>
    cases b with
    | none=>show absurd rfl e2
    | some y=>cases al
   | some x1 =>
    cases b with
    | none=>cases al
    | some y1 =>
     let#[a1,oa,na,ta,ua,rfl,ga,ca,da]:=th1;let#[b1,ob,nb,tb,ub,rfl,gb,cb,db]:=Xc;show kat_no^kat_one _ _ (Li ∅ ga ca da gb cb db ?_);have b1:=o1 x1 rfl;have b2:=o2 y1 rfl;have er:decide (oY (p,some x1)<oY (p,some y1))=if x1.1=y1.1 then decide (x1.2<y1.2) else decide (x1.1<y1.1):=by
      let#[x1,x2]:=x1;let#[y1,y2]:=y1;dsimp only at b1 b2;change decide (p*10000+(x1*1000+x2)<p*10000+(y1*1000+y2))=if x1=y1 then decide (x2<y2) else decide (x1<y1)
      split<;>erw[decide_eq_decide]<;>lia
     rw[er] at h;show h
 .rw[show(p==q)=false by simpa using e];show kat_no^oneLt_int ?_;have er:decide (oY (p,a)<oY (q,b))=decide (p<q):=by
   have ba:0<=oY (p,a)-p*10000/\oY (p,a)-p*10000<10000:=by
    cases a with
    | none=>change 0<=p*10000+0-p*10000/\p*10000+0-p*10000<10000;lia
    | some x=>have:=o1 x rfl;change 0<=p*10000+(x.1*1000+x.2)-p*10000/\p*10000+(x.1*1000+x.2)-p*10000<10000;lia
   have bb:0<=oY (q,b)-q*10000/\oY (q,b)-q*10000<10000:=by
    cases b with
    | none=>change 0<=q*10000+0-q*10000/\q*10000+0-q*10000<10000;lia
    | some x=>have:=o2 x rfl;change 0<=q*10000+(x.1*1000+x.2)-q*10000/\q*10000+(x.1*1000+x.2)-q*10000<10000;lia
   erw[decide_eq_decide];lia
  rw[<- er];show h
abbrev rZ(h:Heap):List Value->List bu->Prop:=Paired λv k=>∃a,v=.ref a/\bU h k a
theorem rZ.stay(x:rZ h vs ks)(e:∀b o vs n,o.cls=.type "tuple" -> o.data=.seq vs n->h.get? b=some o->h'.get? b=some o):rZ h' vs ks:=L2.Paired.GP x λv k ⟨a,e1,e2⟩=>#[a,e1,e2.stay e]
def rZ.tups(hp:rZ h vs ks):∃fs:List Value,KatTups h vs fs/\fs.length=vs.length/\∀v∈fs,∃i t,v=Value.int i t:=by
 induction hp with
 | nil=>show#[[],.nil,rfl,λv hv=>nomatch hv]
 | cons z _ ih =>
  let#[a,e,o,n,t,v,h1,h2,h3,_]:=z;let#[fs,a1,a2,a3]:=ih;subst e;show#[_::fs,KatTups.cons h1 h2 h3 rfl a1,by simp[a2],λv hv=>?_];rcases aH.mp hv with e|hv;show#[_,_,e];show a3 v hv
def rZ.get(hp:rZ h vs ks):∀{i:Nat},i<vs.length->∃a,vs.getD i Value.none=.ref a/\bU h (ks.getD i (0,none)) a:=by
 induction hp with
 | nil=>show λ{i} hi=>absurd hi^fZ _
 | cons z _ ih =>
  intro i hi;cases i with
  | zero =>
   let#[a,e,q]:=z;show#[a,e,q]
  | succ i =>
   let#[a,h1,h2]:=ih (i:=i) (by simpa using hi);show#[a,by simpa using h1,by simpa using h2]
theorem AK{zs:List (bu×Addr)}{Q:Value->Shared->Prop}(hu:A.units+8<cLine)(hh:A.handled=none)(S:yJ prog w (!SG.cJ w) s.heap d zs)(hzs:∀z∈zs,bU s.heap z.1 z.2)(hok:∀z∈zs,T4 z.1)(hal:∀z∈zs,∀y∈zs,Alike z.1 y.1)
  (h:∀(p:Addr)(h':Heap)(d':Drawn)(tk c:Nat)(vs:List Value)(ks:List bu),s.heap.objs.size<=p->(∀b x,s.heap.get? b=some x->h'.get? b=some x)->h'.get? p=some { cls:=.type "list", data:=.seq vs.toArray c }->Paired (λv k=>∃a,v=Value.ref a/\(k,a)∈zs) vs ks->(∀k,k∈ks↔k∈zs.map (·.1))->ks.Pairwise (λx y=>oY x<oY y)->vs.length=zs.length->Q (.ref p) { s with heap:=h',drawn:=d',toks:=tk }):
  wpAny (model prog w) A (call (.builtin "sorted") [.ref d]) Q E s:=by
 let#[o,es,ep,t,ho,hx,hd,T,hm,perm,nd,h4,hch]:=S;have hsz:es.size=zs.length:=by rw[<- c8,perm.length_eq,aq]
 show tW kind_sorted plain_sorted entry_sorted (args_sorted1 _) ?_;unfold Builtin.«sorted»;show au (m:=checkCount "sorted" 1 1 _)^aN^au (SG.rW (by simp[hh]) ho hx hd T ∅ ?_);intro s1 acc k1 g1 o1 yF hp;let#[h1,gg,dd,W7,oo]:=s1;dsimp only at k1 g1 o1 yF;subst g1 o1;have pv:acc.Perm (zs.map λz=>Value.ref z.2):=by have:=hp.trans^perm.map (·.2);rw[gq] at this;show this
 obtain⟨ys,hys,TU⟩:∃ys:List (bu×Addr),ys.Perm zs/\acc=ys.map λz=>Value.ref z.2:=by show Lh pv rfl
 subst TU;have hyl:ys.length=zs.length:=hys.length_eq;have hV:rZ h1 (ys.map λz=>Value.ref z.2)^ys.map (·.1):=by
  have all:∀z∈ys,bU h1 z.1 z.2:=λz hz=>(hzs z^hys.mem_iff.mp hz).stay λb o _ _ _ _ e=>k1 b o e;clear hys hyl pv hp;induction ys with
  | nil=>show .nil
  | cons z ys ih=>show .cons #[z.2,rfl,all z^by simp] (ih λy hy=>all y^by simp[hy])
 show au^wpAny_newList ?_ (by rw[aq,hyl,sizeLine_eq];lia);have gN:(h1.push^seqObj "list" (ys.map λz=>Value.ref z.2).toArray 0).get? h1.objs.size=some^seqObj "list" (ys.map λz=>Value.ref z.2).toArray 0:=iX _ rfl;have hV2:=hV.stay (h':=h1.push^seqObj "list" (ys.map λz=>Value.ref z.2).toArray 0) λb o _ _ _ _ e=>dH _ e;have Xd:∀i,i<ys.length->(ys.map (·.1)).getD i (0,none)=((ys.getD i ((0,none),0)).1:bu)/\ys.getD i ((0,none),0)∈ys:=λi hi=>by rw[nR,nR,aW,dJ hi];show#[rfl,jC hi]
 have lm:(ys.map λz=>Value.ref z.2).length=ys.length:=aq _;show au^wpAny_holding^wpAny_call_entry slot_list_sort #[_,gN,rfl] entry_list_sort (Lg (r:=λi=>oY^(ys.map (·.1)).getD i (0,none)) gN (by rw[lm,hyl];lia) (λG k=>(hV2.stay k).tups) (λG k i j hi hj E' C hC=>?_) (λi j hi hj e=>?_) λq hq u=>#[_,rfl,?_])^args_list_sort _;let#[x,ex,gx]:=(hV2.stay k).get hi;let#[y,ey,gy]:=(hV2.stay k).get hj;rw[lm] at hi hj;let#[e1,m1]:=Xd i hi;let#[e2,m2]:=Xd j hj;rw[ex,ey];show T5 (by erw[Around.in1];lia) gx gy ?_ ?_ ?_ hC;rw[e1];show hok _^hys.mem_iff.mp m1;rw[e2];show hok _^hys.mem_iff.mp m2;rw[e1,e2];show hal _ (hys.mem_iff.mp m1) _^hys.mem_iff.mp m2;rw[lm] at hi hj;let#[e1,m1]:=Xd i hi;let#[e2,m2]:=Xd j hj;change oY^(ys.map (·.1)).getD i (0,none)=oY^(ys.map (·.1)).getD j (0,none) at e;rw[e1,e2] at e;have e3:=OM (hok _^hys.mem_iff.mp m1) (hok _^hys.mem_iff.mp m2) (hal _ (hys.mem_iff.mp m1) _^hys.mem_iff.mp m2) e;have ZF:(ys.map (·.1)).Nodup:=(hys.map (·.1)).nodup_iff.mpr nd;rw[<- e1,<- e2,nR,dJ^by simpa using hi,nR,dJ^by simpa using hj] at e3;show(tY ZF).mp e3
 .rw[lm] at hq u;let#[c,hc]:=sortedHeap_at (h:=h1.push^seqObj "list" (ys.map λz=>Value.ref z.2).toArray 0) (a:=h1.objs.size) (vs:=ys.map λz=>Value.ref z.2) (n:=0) (out:=List.toArray (q.toList.map λi=>(ys.map λz=>Value.ref z.2).getD i Value.none)) gN;show aN #[_,rfl,h h1.objs.size _ dd W7 c _ (q.toList.map λi=>(ys.map (·.1)).getD i (0,none)) (jE yF) (λb x e=>?_) hc ?_ (λk=>?_) ?_^by rw[aq,c8,hq.sz,hyl]];have hb:=aK^k1 b x e;rw[sortedHeap_old (aT hb) (by rw[size_push'];show jS hb)];show dH _^k1 b x e
  .have all:∀i∈q.toList,i<ys.length:=λi hi=>fN.mp^hq.pm.mem_iff.mp hi;clear u hc hq;generalize q.toList=l at all;induction l with
   | nil=>show .nil
   | cons i l ih =>
    have hi:=all i (by simp);show .cons ?_ (ih λj hj=>all j^by simp[hj]);let#[e1,m1]:=Xd i hi;show#[(ys.getD i ((0,none),0)).2,?_,?_];change(List.map (λz=>Value.ref z.snd) ys).getD i Value.none=_;rw[nR,aW,nR,dJ hi];rfl;change((ys.map (·.1)).getD i (0,none),_)∈zs;rw[e1];show hys.mem_iff.mp m1
  .have:=(hq.pm.map λi=>(ys.map (·.1)).getD i (0,none)).mem_iff (a:=k);rw[this];have e:=range_getD (ys.map (·.1)) ((0,none):bu);rw[aq] at e;rw[e];show(hys.map (·.1)).mem_iff
  .rw[kX];intro i j hi hj hij;rw[aq,c8,hq.sz] at hi hj;have:=u i j hij hj;unfold SN.kv at this;rw[tZ,tZ];have g:∀i(hi:i<q.toList.length),q.toList[i]=q.getD i 0:=λi hi=>by rw[Array.getD_eq_getD_getElem?,<- gh,dJ hi];rfl
   rw[g,g];show this
end HM
namespace SN
open PySem PySem.W PySem.Spec PyProof.Rows
theorem DI{Q:Value->Shared->Prop}(hl:s.heap.IsList d vs.toArray)(hP:ir s.heap vs ps)(hb:∀p∈ps,0<=p.2/\p.2<1000)(nd:ps.Nodup)(h64:ps.length<64)
  (h:∀(p:Addr)(h':Heap)(tk c:Nat)(q:Array Nat),s.heap.objs.size<=p->(∀b x,s.heap.get? b=some x->h'.get? b=some x)->h'.get? p=some { cls:=.type "list", data:=.seq (List.toArray (q.toList.map λi=>vs.getD i Value.none)) c }->Pl ps.length q->(∀i j,i<j->j<ps.length->rk^ps.getD (q.getD i 0) (0,0)<rk^ps.getD (q.getD j 0) (0,0))->Q (.ref p) { s with heap:=h',toks:=tk }):
  wpAny (model prog w) A (call (.builtin "sorted") [.ref d]) Q E s:=by
 have hvl:vs.length=ps.length:=hP.length;show tW kind_sorted plain_sorted entry_sorted (args_sorted1 _) ?_;unfold Builtin.«sorted»;show au (m:=checkCount "sorted" 1 1 _)^aN^au^collect_list hl ?_ (by rw[hvl,sizeLine_eq];lia);have k1:∀b x,s.heap.get? b=some x->((s.heap.push^seqObj "list" #[] 0).update s.heap.objs.size^Obj.mapSeq (· ++ vs.toArray)).get? b=some x:=λb x e=>(fK _ _ _ _^aT^aK e).trans^dH _ e;have yF:s.heap.objs.size<((s.heap.push^seqObj "list" #[] 0).update s.heap.objs.size^Obj.mapSeq (· ++ vs.toArray)).objs.size:=by rw[Heap.size_update,size_push'];lia
 generalize ((s.heap.push^seqObj "list" #[] 0).update s.heap.objs.size^Obj.mapSeq (· ++ vs.toArray))=h1 at *;have hP1:ir h1 vs ps:=hP.keep λb o _ e=>k1 b o e;show au^wpAny_newList ?_ (by rw[hvl,sizeLine_eq];lia);have gN:(h1.push^seqObj "list" vs.toArray 0).get? h1.objs.size=some^seqObj "list" vs.toArray 0:=iX _ rfl;show au^wpAny_holding^wpAny_call_entry slot_list_sort #[_,gN,rfl] entry_list_sort (rY gN (hP1.keep λb o _ e=>dH _ e) hb nd h64 λq hq u=>#[_,rfl,?_])^args_list_sort _;let#[c,hc]:=sortedHeap_at (h:=h1.push^seqObj "list" vs.toArray 0) (a:=h1.objs.size) (vs:=vs) (n:=0) (out:=List.toArray (q.toList.map λi=>vs.getD i Value.none)) gN;show aN #[_,rfl,h h1.objs.size _ s.toks c q (jE yF) (λb x e=>?_) hc hq u];have hb:=aK^k1 b x e;rw[sortedHeap_old (aT hb) (by rw[size_push'];show jS hb)];show dH _^k1 b x e
end SN
namespace L2
variable {k:HM.bu}{x:V}{vs:List V}{kvs:gk}{xs:List (HM.bu×Addr×Value)}
def cZ(H:Hp):HM.dX->V->Prop
 | none,v=>v=.str "mark"
 | some p,v=>∃a,v=.ref a/\H a=some^.tup [.int p.1,.int p.2]
def aS(H:Hp)(v:V)(k:HM.bu):Prop:=∃a u,v=.ref a/\H a=some^.tup [.int k.1,u]/\cZ H k.2 u
abbrev aU(H:Hp):List V->List HM.bu->Prop:=Paired^aS H
def cZ.same{k:HM.dX}(h:cZ H k v)(s:aC H H'):cZ H' k v:=by
 cases k with
 | none=>show h
 | some p=>let#[a,e,q]:=h;show#[a,e,s _ _ q]
theorem aS.same(h:aS H v k)(s:aC H H'):aS H' v k:=let⟨a,u,e,q,t⟩:=h;#[a,u,e,s _ _ q,t.same s]
theorem aU.same{ks:List HM.bu}(h:aU H vs ks)(s:aC H H'):aU H' vs ks:=Paired.GP h λ_ _ x=>x.same s
def adr:V->Addr
 | .ref a=>a
 | _=>0
theorem aS.adr(h:aS H v k):v=.ref^L2.adr v:=by let#[a,u,rfl,_]:=h;rfl
section
variable {σ:St}
def Inv.thg(I:Inv X u5 σ H s){k:HM.dX}(h:cZ H k v)(r:RelV v u):HM.gR s.heap k u:=by
 cases k with
 | none =>
  have h:v=.str "mark" := h;subst h;show r
 | some p =>
  let#[a,rfl,q]:=h;cases r;let#[o,n,t,u,h1,h2,h3]:=I.pair q;show#[a,o,n,t,u,rfl,h1,h2,h3]
def Inv.hrm(I:Inv X u5 σ H s)(h:aS H (.ref a) k):HM.bU s.heap k a:=by
 let#[a',u,e,q,t]:=h;cases e;let#[_,its,r,o,h1,h2,n,h3]:=(show dg X.prog X.w H s.heap a^.tup [.int k.1,u] from I.hok a _ q);cases r with
 | cons r1 r =>
  cases r with
  | cons r2 r =>
   cases r;let#[t1,rfl]:=r1;show#[o,n,t1,_,h1,h2,h3,I.thg t r2]
def uP(P:Program)(w:World)(p:Addr)(zs:List (HM.bu×Addr)):Heap->Prop:=λh=>HM.yJ P w (!SG.cJ w) h p zs
def Ri(K:aF)(P:Program)(w:World):List V->Hp->VK->Prop:=λxs H Q=>∃(l:Addr)(vs:List V)(ks:List HM.bu),xs=[.ref l]/\bB K H l vs/\aU H vs ks/\ks.length<=4 /\
 ∀p H' zs,eV H p (.ext (uP P w p zs)) H'->(∀z∈zs,aS H (.ref z.2) z.1)->(∀k,k∈zs.map (·.1)↔k∈ks)->Q (.ref p) H'
theorem HC(hu:X.A.units+64<cLine)(hc:X.calm=true):dU X (.type "set")^Ri X.K X.prog X.w:=by
 intro u5 s σ H xs us Q I r h;let#[l,vs,ks,rfl,hl,hk,h4,q]:=h;let#[u,rfl,ru]:=vals1 r;cases ru;let#[its,rv,#[ol,n0,e1,e2,e3,e4],_]:=I.list hl;have W8:s.heap.IsList l its.toArray:=#[ol,e1,e2,n0,e4];have AH:vs.length=ks.length:=hk.length;have hsz:its.toArray.size=ks.length:=by have:=rv.length;rw[aY];lia
 have hat:∀i,i<ks.length->aS H (.ref^adr^vs.getD i^.int 0)^ks.getD i (0,none)/\vs[i]?=some^.ref^adr^vs.getD i^.int 0:=λi hi=>by
  have hi':i<vs.length:=∅;let#[k,hk1,hk2]:=mO hk (i:=i) (x:=vs[i])^dJ hi';have e1:vs.getD i^.int 0=vs[i]:=by rw[nR,dJ hi'];rfl
  have e2:ks.getD i (0,none)=k:=by rw[nR,hk1];rfl
  rw[e1,e2,<- hk2.adr];show#[hk2,dJ hi']
 show HM.Lf (val:=λi=>(ks.getD i (0,none),adr^vs.getD i^.int 0)) ∅ (I.ok.hd hc) W8 (λi v hv=>?_) ∅ λh' tk hS hkp=>?_
 .have hi:i<ks.length:=by have:=(nU.mp hv).1;lia
  let#[a1,a2]:=hat i hi;let#[u,hu,ru]:=rv.get a2;rw[lZ,hu] at hv;cases hv;cases ru;show#[rfl,I.hrm a1]
 .rw[hsz] at hS;show#[.ref s.heap.objs.size,_,I.laid (t':=tk) (λb o e=>hkp b o (aK e) e) (ay _) (o:=.ext (uP X.prog X.w s.heap.objs.size _)) #[hS,?_,λh1 h2 hp he=>hp.at' he],rfl,q _ _ _ #[I.hok.fresh^ay _,rfl] (λz hz=>?_) λk=>?_];let#[o,_,_,_,ho,_]:=hS;show#[o,ho];let#[j,hj,rfl]:=HM.pS _ _ _ hz;show(hat j hj).1;rw[HM.AJ];constructor;rintro⟨j,hj,rfl⟩;change ks.getD j (0,none)∈ks;rw[nR,dJ hj];show jC hj;intro hn;let#[j,hj,e5]:=oB.mp hn;show#[j,hj,?_];change k=ks.getD j (0,none);rw[nR,dJ hj,<- e5];rfl
def Lj(P:Program)(w:World):List V->Hp->VK->Prop:=λxs H Q=>∃(p:Addr)(zs:List (HM.bu×Addr)),xs=[.ref p]/\H p=some^.ext (uP P w p zs)/\(∀z∈zs,aS H (.ref z.2) z.1)/\(∀z∈zs,HM.T4 z.1)/\(∀z∈zs,∀y∈zs,HM.Alike z.1 y.1) /\
 ∀q H' vs ks,eV H q (.lst vs) H'->aU H vs ks->(∀k,k∈ks↔k∈zs.map (·.1))->ks.Pairwise (λx y=>HM.oY x<HM.oY y)->Q (.ref q) H'
theorem DJ(hu:X.A.units+64<cLine)(hc:X.calm=true):dU X (.builtin "sorted")^Lj X.prog X.w:=by
 intro u5 s σ H xs us Q I r h;let#[p,zs,rfl,hp,hz,hok,hal,q]:=h;let#[u,rfl,ru]:=vals1 r;cases ru;let#[hS,_,_]:=I.hok p _ hp;have h4:zs.length<=4:=by let#[_,_,_,_,_,_,_,_,_,_,_,h4,_]:=hS;show h4
 show HM.AK ∅ (I.ok.hd hc) hS (λz hz'=>I.hrm^hz z hz') hok hal λa h' d' tk c vs ks hle hk ho hP hmem KU hvl=>?_;have hV:∀{vs:List Value}{ks:List HM.bu},Paired (λv k=>∃a,v=Value.ref a/\(k,a)∈zs) vs ks->∃us:List V,Vals us vs/\aU H us ks:=by
  intro vs ks r;induction r with
  | nil=>show#[[],.nil,.nil]
  | cons h _ ih =>
   let#[a,rfl,hm]:=h;let#[us,u1,u2]:=ih;show#[.ref a::us,.cons rfl u1,.cons (hz _ hm) u2]
 let#[us,u1,u2]:=hV hP;have hl:us.length<=sizeLine:=by have e1:=u1.length;rw[sizeLine_eq];lia
 show#[.ref a,_,(I.drw d').laid (t':=tk) hk hle (o:=.lst us) #[hl,vs,c,u1,ho],rfl,q _ _ us ks #[I.hok.fresh hle,rfl] u2 hmem KU]
def DK(K:aF):List V->Hp->VK->Prop:=λxs H Q=>∃(d:Addr)(vs:List V)(ps:List (Int×Int)),xs=[.ref d]/\bB K H d vs/\gM H vs ps/\ps.Nodup/\(∀p∈ps,0<=p.2/\p.2<1000)/\ps.length<64 /\
 ∀l us qs H',eV H l (.lst us) H'->gM H us qs->qs.Perm ps->qs.Pairwise (λp q=>SN.rk p<SN.rk q)->Q (.ref l) H'
def Inv.T6(I:Inv X u5 σ H s)(hp:gM H vs ps)(hv:Vals vs us):SN.ir s.heap us ps:=by
 induction hp generalizing us with
 | nil=>cases hv;show .nil
 | cons z _ ih =>
  let#[a,e,h]:=z;cases hv with
  | cons rv rs =>
  subst e;cases rv;let#[o,n,t,u,h1,h2,h3]:=I.pair h;show .cons #[a,o,n,t,u,rfl,h1,h2,h3]^ih rs
theorem DM(hc:X.calm=true):dU X (.builtin "sorted")^DK X.K:=by
 intro u5 s σ H xs us Q I r h;let#[d,vs,ps,rfl,hd,hp,nd,hb,h64,k]:=h;let#[u,rfl,ru]:=vals1 r;cases ru;let#[its,rv,#[ol,n0,e1,e2,e3,e4],_]:=I.list hd;have W8:s.heap.IsList d its.toArray:=#[ol,e1,e2,n0,e4];have hvl:vs.length=ps.length:=hp.length;show SN.DI W8 (I.T6 hp rv) hb nd h64 λp h' tk c q hle hk ho hq hup=>?_;have hget:∀i,i<ps.length->RelV (vs.getD i^.int 0)^its.getD i Value.none/\∃a,vs.getD i^.int 0=.ref a/\H a=some^.tup [.int (ps.getD i (0,0)).1,.int (ps.getD i (0,0)).2]:=λi hi=>by have hi':i<vs.length:=∅;let#[b,hb1,hb2]:=mO hp (i:=i) (x:=vs[i])^dJ hi';let#[u,hu1,hu2]:=rv.get^dJ hi';erw[nR,dJ hi',hb1,hu1,Option.getD_some];show#[hu2,hb2]
 have hmem:∀i∈q.toList,i<ps.length:=λi hi=>fN.mp^hq.pm.mem_iff.mp hi;have K6:∀{l:List Nat},(∀i∈l,i<ps.length)->Vals (l.map λi=>vs.getD i^.int 0) (l.map λi=>its.getD i Value.none)/\gM H (l.map λi=>vs.getD i^.int 0) (l.map λi=>ps.getD i (0,0)):=by
  intro l;induction l with
  | nil=>intro _;show#[.nil,.nil]
  | cons i l ih =>
   intro hl;let#[a1,a2]:=ih λj hj=>hl j^cX _ hj;let#[b1,b2]:=hget i (hl i^by simp);show#[.cons b1 a1,.cons b2 a2]
 let#[v1,v2]:=K6 hmem;show#[.ref p,_,I.laid (t':=tk) hk hle (o:=.lst (q.toList.map λi=>vs.getD i^.int 0)) #[?_,_,c,v1,ho],rfl,k p _ (q.toList.map λi=>ps.getD i (0,0)) _ #[I.hok.fresh hle,rfl] v2 ?_ ?_];rw[aq,c8,hq.sz,sizeLine_eq];lia;have:=hq.pm.map λi=>ps.getD i (0,0);rw[range_getD] at this;show this
 .rw[jj,kX];intro i j hi hj hij;have hql:q.toList.length=ps.length:=by rw[c8,hq.sz]
  have g1:=hq.get (i:=i) ∅;have g2:=hq.get (i:=j) ∅;rw[dJ hi] at g1;rw[dJ hj] at g2;rw[Option.some.inj g1,Option.some.inj g2];show hup i j hij ∅
def T7{ks:List HM.bu}(hl:bB K H l vs)(hk:aU H vs ks)(h4:ks.length<=4)(h:∀p H' zs,eV H p (.ext (uP P w p zs)) H'->(∀z∈zs,aS H (.ref z.2) z.1)->(∀k,k∈zs.map (·.1)↔k∈ks)->Q (.ref p) H'):Ri K P w [.ref l] H Q:=#[l,vs,ks,rfl,hl,hk,h4,h]
def ON{p:Addr}{zs:List (HM.bu×Addr)}(hp:H p=some^.ext (uP P w p zs))(hz:∀z∈zs,aS H (.ref z.2) z.1)(hok:∀z∈zs,HM.T4 z.1)(hal:∀z∈zs,∀y∈zs,HM.Alike z.1 y.1)(h:∀q H' vs ks,eV H q (.lst vs) H'->aU H vs ks->(∀k,k∈ks↔k∈zs.map (·.1))->ks.Pairwise (λx y=>HM.oY x<HM.oY y)->Q (.ref q) H'):Lj P w [.ref p] H Q:=#[p,zs,rfl,hp,hz,hok,hal,h]
def OO(hd:bB K H d vs)(hp:gM H vs ps)(nd:ps.Nodup)(hb:∀p∈ps,0<=p.2/\p.2<1000)(h64:ps.length<64)(h:∀l us qs H',eV H l (.lst us) H'->gM H us qs->qs.Perm ps->qs.Pairwise (λp q=>SN.rk p<SN.rk q)->Q (.ref l) H'):DK K [.ref d] H Q:=#[d,vs,ps,rfl,hd,hp,nd,hb,h64,h]
end
def cZ.rd{k:HM.dX}(h:cZ H k x):RD K H x^HM.lW k:=by
 cases k with
 | none=>have h:x=.str "mark" := h;subst h;show .str _
 | some p=>let#[a,rfl,q]:=h;show .tup (cY.of q)^.cons (.int _)^.cons (.int _) .nil
theorem aS.rd(h:aS H x k):RD K H x^HM.oO k:=by let#[a,u,rfl,q,t]:=h;show .tup (cY.of q)^.cons (.int _)^.cons t.rd .nil
theorem aU.rds:∀{vs:List V}{ks:List HM.bu},aU H vs ks->Kz K H vs (ks.map HM.oO)
 | _,_,.nil=>.nil
 | _,_,.cons h r=>.cons h.rd^aU.rds r
def Ll(k:HM.dX):Sh 1^HM.lW k:=#[HM.sU k,HM.qZ k]
def T8(k:HM.bu):Sh 2^HM.oO k:=#[HM.pO k,HM.rf k]
def OP(ks:List HM.bu):Sh 3^.list^ks.map HM.oO:=Sh.list λd hd=>by let#[k,_,rfl]:=aD.mp hd;show T8 k
def Fy{k:HM.dX}(h:cZ H k x)(q:Q (.bl k.isNone) H):KA K x (.str "mark") H Q:=by show Tu (HM.lW k) (.str "mark") 1 (by decide) h.rd (.str _) (Ll k) (Ll none) ?_;have:=HM.yI k none;rw[show PyData.str "mark" = HM.lW none from rfl,this];cases k<;>show q
abbrev gk:=List (HM.bu×Addr×V)
def oQ:gk->List (HM.bu×Addr×Value)->Prop:=Paired λ(p:HM.bu×Addr×V)(q:HM.bu×Addr×Value)=>p.1=q.1/\p.2.1=q.2.1/\RelV p.2.2 q.2.2
def dz(P:Program)(w:World)(d:Addr)(ep:Nat)(kvs:gk):Heap->Prop:=λh=>kvs.length<=sizeLine/\(d==sysModules)=false/\∃xs,oQ kvs xs/\∃o es,h.get? d=some o/\o.ExactDict/\o.data=.dict es ep/\es.toList=xs.map^entryOfKey^HM.eU P w/\(xs.map (·.1)).Nodup
def cu(H:Hp)(kvs:gk):Prop:=∀x∈kvs,aS H (.ref x.2.1) x.1
theorem cu.same(h:cu H kvs)(s:aC H H'):cu H' kvs:=λx hx=>(h x hx).same s
noncomputable def j8(kvs:gk)(k:HM.bu):Option V:=(kvs.find? λx=>decide (x.1=k)).map (·.2.2)
noncomputable def kG(kvs:gk)(k:HM.bu)(a:Addr)(v:V):gk:=if(j8 kvs k).isSome then kvs.map (λx=>if x.1=k then(x.1,x.2.1,v) else x) else kvs++[(k,a,v)]
def oQ.val(r:oQ kvs xs)(k:HM.bu):nS (j8 kvs k)^(atKey xs k).map (·.2):=by
 unfold oQ at r;induction r with
 | nil=>show g9
 | @cons p q ps qs h t ih =>
  unfold j8 atKey at ih ⊢;rw[iK,iK,<- h.1];by_cases e:p.1=k;rw[decide_eq_true e];show h.2.2;rw[decide_eq_false e];show ih
def oQ.put(r:oQ kvs xs)(k:HM.bu)(ry:RelV y u):oQ (kG kvs k b y)^storedH xs k b u:=by
 have e:(j8 kvs k).isSome=(atKey xs k).isSome:=by rw[(r.val k).jx,Option.isSome_map]
 unfold kG storedH;rw[e];by_cases q:(atKey xs k).isSome=true
 .rw[if_pos q,if_pos q];clear e q;unfold oQ at r ⊢;induction r with
  | nil=>show .nil
  | @cons p q ps qs h t ih =>
   rw[cG,cG];show .cons ?_ ih;let#[h1,h2,h3]:=h;unfold putAt;by_cases e:p.1=k;rw[if_pos e,if_pos^h1.symm.trans e];show#[h1,h2,ry];rw[if_neg e,if_neg (λz=>e^h1.trans z)];show#[h1,h2,h3]
 .rw[if_neg q,if_neg q];show cF r #[rfl,rfl,ry]
def AL(kvs:gk)(k:HM.bu)(a:Addr)(v:V):(kG kvs k a v).length<=kvs.length+1:=by unfold kG;split<;>simp
section
variable {σ:St}{kvs:gk}{k:HM.bu}
def DH(P:Program)(w:World)(H:Hp)(d:Addr)(ep:Nat)(kvs:gk):Prop:=H d=some^.ext (dz P w d ep kvs)/\cu H kvs
def Inv.dh(I:Inv X u5 σ H s)(h:DH X.prog X.w H d ep kvs):kvs.length<=sizeLine/\(d==sysModules)=false/\∃xs,oQ kvs xs/\s.heap.DictOfH (HM.eU X.prog X.w) d xs:=by
 let#[#[z,hd,xs,rel,o,es,h1,h2,h3,h4,h5],_,_]:=I.hok d _ h.1;show#[z,hd,xs,rel,o,es,ep,h1,h2,h3,h4,λx hx=>?_,h5];have all:∀{kvs:gk}{xs:List (HM.bu×Addr×Value)},oQ kvs xs->cu H kvs->∀x∈xs,HM.bU s.heap x.1 x.2.1:=by
  intro kvs xs r;unfold oQ at r;induction r with
  | nil=>intro _ x hx;show nomatch hx
  | @cons p q ps qs hq t ih =>
   intro hk x hx;rcases aH.mp hx with e|hx
   .subst e;have:=I.hrm (hk p^by simp);rw[hq.1,hq.2.1] at this;show this
   .show ih (λy hy=>hk y^by simp[hy]) x hx
 show all rel h.2 x hx
theorem yK(hu:A.units+64<cLine):(HM.eU X.prog X.w).room A.in1:=by change A.in1.units+2<cLine;erw[Around.in1];lia
def uQ{Q:Value->Shared->Prop}(hu:A.units+64<cLine)(I:Inv X u5 σ H s)(h:DH X.prog X.w H d ep kvs)(hb:aS H (.ref b) k)(hv:j8 kvs k=some v)(q:∀w' s',Inv X u5 σ H s'->RelV v w'->Q w' s'):
  wpAny (model X.prog X.w) A (getItem (.ref d)^.ref b) Q E s:=by let#[z,hd,xs,rel,dd]:=I.dh h;let#[w',hw,rw']:=nS.some_of (v:=v) (o:=(atKey xs k).map (·.2)) (by rw[<- hv];show rel.val k);let#[p,hp,hp2]:=cE.mp hw;show wpAny_getItem_heap (yK hu) (I.hrm hb) dd hp ?_;rw[hp2];show q w' _ (I.tok _) rw'
def DN(z:kvs.length<=sizeLine)(hd:(d==sysModules)=false)(rel:oQ kvs xs)(dd:h'.DictOfH (HM.eU X.prog X.w) d xs):∃ep,∀{H':Hp},dg X.prog X.w H' h' d^.ext (dz X.prog X.w d ep kvs):=by let#[o,es,ep,h1,h2,h3,h4,_,h5]:=dd;show#[ep,λ{H'}=>#[#[z,hd,xs,rel,o,es,h1,h2,h3,h4,h5],#[o,h1],λg1 g2 hp he=>?_]];let#[z,hd,xs,rel,o,es,h1,h2]:=hp;show#[z,hd,xs,rel,o,es,he _ h1,h2]
theorem uR{Q:Unit->Shared->Prop}(hu:A.units+64<cLine)(I:Inv X u5 σ H s)(h:DH X.prog X.w H d ep kvs)(hb:aS H (.ref b) k)(hl:kvs.length<sizeLine)(rv:RelV v r)
  (q:∀rP s',Inv X u5 σ (upd H d^.ext (dz X.prog X.w d rP^kG kvs k b v)) s'->Q () s'):wpAny (model X.prog X.w) A (setItem (.ref d) (.ref b) r) Q E s:=by
 let#[z,hd,xs,rel,dd]:=I.dh h;have hz:xs.length<=sizeLine:=by rw[<- jV rel];show z
 have hl2:(kG kvs k b v).length<=sizeLine:=by have:=AL kvs k b v;lia
 show wpAny_setItem_heap (hsz:=hz) (yK hu) (I.hrm hb) dd λh' VB hs=>?_;let#[rP,ho']:=DN (X:=X) hl2 hd (rel.put k rv) VB;show q rP _ ?_;have ho:=ho' (H':=upd H d^.ext (dz X.prog X.w d rP^kG kvs k b v));show yv I (by rw[h.1];show g9) hs ho.2.1 ho
end
def Lm(P:Program)(w:World):R2:=λx y H Q=>∃d b ep kvs k v,x=.ref d/\y=.ref b/\DH P w H d ep kvs/\aS H (.ref b) k/\j8 kvs k=some v/\Q v H
def Ln(P:Program)(w:World)(v x y:V)(H:Hp)(R:Hp->Prop):Prop:=∃d b ep kvs k,x=.ref d/\y=.ref b/\DH P w H d ep kvs/\aS H (.ref b) k/\kvs.length<=1000000/\∀rP H',qE H d (.ext (dz P w d rP^kG kvs k b v)) H'->R H'
def Lo(P:Program)(w:World)(td ty tv:TE):TS:=λD σ H=>tv σ H λv H1=>td σ H1 λx H2=>ty σ H2 λy H3=>Ln P w v x y H3 λH4=>D.nx σ H4
def Lp(P:Program)(w:World)(td ty tv:TE)(rd:V->V->Hp->VK->Prop):TS:=λD σ H=>td σ H λx H1=>ty σ H1 λy H2=>Lm P w x y H2 λv H3=>tv σ H3 λy2 H4=>rd v y2 H4 λz H5=>Ln P w z x y H5 λH6=>D.nx σ H6
def Lq(P:Program)(w:World):TE:=λ_ H Q=>∀p ep H',eV H p (.ext (dz P w p ep [])) H'->Q (.ref p) H'
section
variable {o i:Expr}{ty:TE}
def AM:PE X (.Dict [] [] pos)^Lq X.prog X.w:=λu5 s σ H Q I h =>
 let⟨ep,ho⟩:=DN (X:=X) (kvs:=[]) (aI _) (beq_eq_false_iff_ne.mpr^bz^aT I.big) .nil (Heap.DictOfH.new s.heap)
 wpAny_Dict_empty #[.ref s.heap.objs.size,_,I.laid (a:=s.heap.objs.size) (o:=.ext (dz X.prog X.w s.heap.objs.size ep [])) (t':=s.toks) (λ_ _ q=>dH _ q) (ay _) ho,rfl,h _ ep _ #[I.hok.fresh^ay _,rfl]]
def Inv.dhT{σ:St}(I:Inv X u5 σ H s)(h:DH X.prog X.w H d ep kvs):s.TypeIs (.ref d) "dict" := by let#[_,_,_,_,dd]:=I.dh h;show dd.typeIs
def jI(hu:X.A.units+64<cLine)(ho:PE X o td)(hi:PE X i ty)(hs:J3 i):PE X (.Subscript o i pos)^N1 (Lm X.prog X.w) td ty:=by intro u5 s σ H Q I h;show yw PySem.F.slot_dict_getitem.lookup hs (c7 (ho u5 s σ H _ I h) λu s1 zq=>?_);let#[x,H1,I1,rx,q1]:=zq;show c7 (hi u5 s1 σ H1 _ I1 q1) λiv s2 zq=>?_;let#[y,H2,I2,ry,d,b,ep,kvs,k,v,ex,ey,hd,hb,hv,q2]:=zq;subst ex ey;obtain rfl:u=Value.ref d:=rx;obtain rfl:iv=Value.ref b:=ry;show#[I2.dhT hd,uQ hu I2 hd hb hv λw' s3 I3 rw'=>#[v,H2,I3,rw',q2]]
theorem AN(hu:X.A.units+64<cLine)(ho:PE X o td)(hi:PE X i ty)(hv:PE X value tv)(hs:swapsWith value (some^.Subscript o i pos') pos.line X.env=pure false):
  PS X (.Assign [.Subscript o i pos'] value pos)^Lo X.prog X.w td ty tv:=by intro u5 s σ H D I h;show wpAny_Assign_Subscript (c7 (hv u5 s σ H _ I h) λr s1 zq=>?_) hs;let#[v,H1,I1,rv,q1]:=zq;show c7 (ho u5 s1 σ H1 _ I1 q1) λu s2 zq=>?_;let#[x,H2,I2,rx,q2]:=zq;show c7 (hi u5 s2 σ H2 _ I2 q2) λiv s3 zq=>?_;let#[y,H3,I3,ry,d,b,ep,kvs,k,ex,ey,hd,hb,hl,q3]:=zq;subst ex ey;obtain rfl:u=Value.ref d:=rx;obtain rfl:iv=Value.ref b:=ry;show uR hu I3 hd hb (by rw[sizeLine_eq];lia) rv λrP s4 I4=>#[σ,_,I4,q3 rP _ rfl]
theorem Lr{op:Operator}{rd:V->V->Hp->VK->Prop}(hu:X.A.units+64<cLine)(ho:PE X o td)(hi:PE X i ty)(hv:PE X value tv)(hop:V8 X op rd)
  (ha:∀ov iv new,augStore i ov iv new=(do holding [new,ov,iv]^setItem ov iv new;release [new,ov,iv] [];pure .next)):PS X (.AugAssign (.Subscript o i tpos) op value pos)^Lp X.prog X.w td ty tv rd:=by intro u5 s σ H D I h;show wpAny_AugAssign_SubscriptAny (c7 (ho u5 s σ H _ I h) λu s1 zq=>?_) ha;let#[x,H1,I1,rx,q1]:=zq;show c7 (hi u5 s1 σ H1 _ I1 q1) λiv s2 zq=>?_;let#[y,H2,I2,ry,d,b,ep,kvs,k,v,ex,ey,hd,hb,hvl,q2]:=zq;subst ex ey;obtain rfl:u=Value.ref d:=rx;obtain rfl:iv=Value.ref b:=ry;show uQ hu I2 hd hb hvl λw' s3 I3 rw'=>c7 (hv u5 s3 σ H2 _ I3 q2) λw2 s4 zq=>?_;let#[y2,H3,I4,ry2,q3]:=zq;show c7 (hop u5 s4 σ H3 v y2 w' w2 _ I4 rw' ry2 q3) λw3 s5 zq=>?_;let#[z,H4,I5,rz,d5,b5,ep5,ag1,k5,ex5,ey5,ZG,hb5,ZH,q4]:=zq;cases ex5;cases ey5;show uR hu I5 ZG hb5 (by rw[sizeLine_eq];lia) rz λrP s6 I6=>#[σ,_,I6,q4 rP _ rfl]
end
noncomputable def Ls(P:Program)(w:World)(d:Addr)(ep:Nat)(kvs:gk):It :=
 #[λi H=>H d=some^.ext (dz P w d ep kvs)/\i<kvs.length,λi H x H'=>H'=H/\∃e,kvs[i]?=some e/\x=.ref e.2.1,λi H=>H d=some^.ext (dz P w d ep kvs)/\i=kvs.length]
theorem Inv.raw{σ:St}(I:Inv X u5 σ H s)(h:H d=some^.ext (dz X.prog X.w d ep kvs)):
  (d==sysModules)=false/\kvs.length<=sizeLine/\∃es:Array DictEntry,SN.jQ s.heap d es ep/\es.size=kvs.length/\∀(i:Nat) e,kvs[i]?=some e->∃u,es[i]?=some u/\u.key=.ref e.2.1/\RelV e.2.2 u.val:=by
 let#[#[z,hd,xs,rel,o,es,h1,h2,h3,h4,h5],_,_]:=I.hok d _ h;have hl:xs.length=kvs.length:=(jV rel).symm;have hs:es.size=xs.length:=by rw[<- c8,h4,aq]
 show#[hd,z,es,#[o,h1,h2,h3],∅,λi e he=>?_];let#[x,hx,r1,r2,r3]:=mO rel he;show#[entryOfKey (HM.eU X.prog X.w) x,?_,?_,?_];rw[<- gh,h4,aW,hx];rfl;change Value.ref x.2.1=_;rw[r2];show r3
def DO(d it:Addr)(ep:Nat)(kvs:gk):Turn P w K tg (Ls P w d ep kvs) [it] it (λi h=>h.IsKeyIter it d i kvs.length ep) where
 mem:=by simp
 obj:=λi h st b hb=>by
  have e:b=it:=by simpa using hb
  subst e;let#[o,e,c,dd]:=st;show#[o,e,λv z=>by rw[dd] at z;cases z]
 keep:=λi h h' st k=>st.at λo e=>k it (by simp) o e
 item:=by intro X hP hw hK hc i u5 s σ H E I hf st hg;subst hP hw hK;let#[hd,hi]:=hg;let#[_,_,es,rd,hs,hat]:=I.raw hd;let#[f0,f1,f2,f3,f4,f5]:=hf it (by simp);have he:kvs[i]?=some kvs[i]:=dJ hi;let#[u,hu,hk,_]:=hat i _ he;rw[<- hs] at st;show SN.Av st rd hu λh' st' sb=>?_;have I1:Inv X u5 σ H { s with heap:=h' }:=I.turned (t':=s.toks) (λb o hb e=>(sb.2 b hb).trans e) f0 f1 f3 f4 f5;rw[hs] at st';let#[o,e,c,dd]:=id st';show#[u.key,rfl,zR (s:={ s with heap:=h' }) e c dd (by decide) #[.ref kvs[i].2.1,H,I1,hk,#[rfl,_,he,rfl],st',λb hb=>(hf b hb).1]]
 done:=by intro X hP hw hK hc i u5 s σ H E I hf st hg;subst hP hw hK;let#[hd,hi]:=hg;let#[_,_,es,rd,hs,hat]:=I.raw hd;let#[f0,f1,f2,f3,f4,f5]:=hf it (by simp);subst hi;rw[<- hs] at st;show SN.Fl (I.ok.hd hc) st rd λh' eb=>#[rfl,I.turned (t':=s.toks) (λb o hb e=>eb b o hb e) f0 f1 f3 f4 f5]
 self:=λ_ _ _ _ _ st h=>wpAny_pyIter_keyiter st h
def T9(P:Program)(w:World)(R:It->Hp->Prop):V->Hp->Prop:=λx H=>∃d ep kvs,x=.ref d/\H d=some^.ext (dz P w d ep kvs)/\R (Ls P w d ep kvs) H
def Lu(P:Program)(w:World)(tl:TE):TI:=λσ H R=>tl σ H^T9 P w R
def pT{l:Expr}(hl:PE X l tl):PI X tg l^Lu X.prog X.w tl:=by
 intro u5 s σ H R I h;show c7 (hl u5 s σ H _ I h) λv s1 zq=>?_;let#[x,H1,I1,r1,q1]:=zq;let#[d,ep,kvs,e,hd,q]:=q1;subst e;cases r1;let#[lo,_,es,rd,hs,hat]:=I1.raw hd;show SN.Au lo rd ?_;show#[s1.heap.objs.size,[s1.heap.objs.size],_,_,H1,rfl,I1.kept (t':=s1.toks) λb o e=>dH _ e,DO d _ ep kvs,#[_,iX _ rfl,rfl,by rw[<- hs];rfl],λb hb=>?_,q];have e:b=s1.heap.objs.size:=by simpa using hb
 subst e;show I1.oF (ay _)^I1.hok.fresh^ay _
section
variable {nx bk ct:St->Hp->Prop}{σ:St}
def Xe{R:It->Hp->Prop}(h:tl σ H^T9 P w R):Lu P w tl σ H R:=h
def afi{R:It->Hp->Prop}(hd:H d=some^.ext (dz P w d ep kvs))(h:R (Ls P w d ep kvs) H):T9 P w R (.ref d) H:=#[d,ep,kvs,rfl,hd,h]
theorem OQ{tb:TS}(Pv:Nat->St->Hp->Prop)(h0:Pv 0 σ H)(hl:∀i σ H,i<=kvs.length->Pv i σ H->H d=some^.ext (dz P w d ep kvs))
  (hs:∀i e σ H,kvs[i]?=some e->Pv i σ H->g (.ref e.2.1) σ H λσ2 H2=>tb #[Pv (i+1),rt,nx,Pv (i+1)] σ2 H2)(hd:∀σ H,Pv kvs.length σ H->nx σ H):QZ (Ls P w d ep kvs) g tb nx rt σ H :=
 #[λi m σ H=>m=kvs.length-i/\i<=kvs.length/\Pv i σ H,#[kvs.length,∅,∅,h0],λi m σ' H' ⟨e,hi,p⟩=>by
  rcases bg i kvs.length with hlt|hge;show .inr #[#[hl i _ _ hi p,hlt],Pv (i+1),λσ2 H2 q=>#[kvs.length-(i+1),∅,rfl,hlt,q],?_];rintro x H2 ⟨rfl,e,he,rfl⟩;show hs i e σ' _ he p
  .have e:i=kvs.length:=∅;subst e;show .inl #[#[hl _ _ _ hi p,rfl],hd _ _ p]]
theorem yL{τ:St}(Pv:Nat->List V->Hp->Prop)(h0:Pv 0 [] H)(hl:∀i ys H,i<=kvs.length->Pv i ys H->H d=some^.ext (dz P w d ep kvs))
  (hs:∀i e ys H,kvs[i]?=some e->Pv i ys H->ys.length<sizeLine/\tt (some^.ref e.2.1::τ) H λb H3=>if b=true then te (some^.ref e.2.1::τ) H3 λy H4=>Pv (i+1) (ys++[y]) H4 else Pv (i+1) ys H3)
  (hd:∀ys H,Pv kvs.length ys H->∀p H',eV H p (.lst ys) H'->Q (.ref p) H'):Dh (Ls P w d ep kvs) tt te τ Q H:=by
 show#[λi m ys H=>m=kvs.length-i/\i<=kvs.length/\Pv i ys H,#[kvs.length,by simp,aI _,h0],?_];rintro i m ys H ⟨rfl,hi,p⟩;have q:=hl i ys H hi p;by_cases hlt:i<kvs.length
 .have hx:kvs[i]?=some kvs[i]:=by simp[hlt]
  let#[hz,q']:=hs i _ ys H hx p;show .inr #[#[q,hlt],hz,Pv (i+1),λσ' H' p'=>#[kvs.length-(i+1),∅,rfl,hlt,p'],λx H' y=>?_];let#[e,e2,he,y]:=y;subst e y;rw[hx] at he;cases he;show q'
 .have e:i=kvs.length:=∅;subst e;show .inl #[#[q,rfl],λr hr=>hd ys H p r _ #[hr,rfl]]
end
noncomputable def j9(ks:Nat->HM.bu×Addr)(vs:Nat->V):Nat->gk
 | 0=>[]
 | n+1=>kG (j9 ks vs n) (ks n).1 (ks n).2^vs n
theorem uS(ks:Nat->HM.bu×Addr)(vs:Nat->V):∀n,(j9 ks vs n).length<=n
 | 0=>ay _
 | n+1=>by have h1:=uS ks vs n;have h2:=AL (j9 ks vs n) (ks n).1 (ks n).2^vs n;change(kG (j9 ks vs n) (ks n).1 (ks n).2^vs n).length<=n+1;lia
def HD(h:k∉kvs.map (·.1)):j8 kvs k=none:=by unfold j8;rw[List.find?_eq_none.mpr λx hx e=>h^aD.mpr #[x,hx,by simpa using e]];rfl
def uT(h:k∉kvs.map (·.1)):kG kvs k a v=kvs++[(k,a,v)]:=by unfold kG;rw[HD h];rfl
theorem xj{ks:Nat->HM.bu×Addr}{vs:Nat->V}:∀{n:Nat},(∀i j,i<j->j<n->(ks i).1≠(ks j).1)->j9 ks vs n=(List.range n).map λi=>((ks i).1,(ks i).2,vs i)
 | 0,_=>rfl
 | n+1,h=>by have ih:=xj (ks:=ks) (vs:=vs) (n:=n) λi j hi hj=>h i j hi ∅;change kG (j9 ks vs n) (ks n).1 (ks n).2^vs n=_;rw[ih,uT,qN,bG];rfl;intro hm;let#[x,hx,e]:=aD.mp hm;let#[i,hi,rfl]:=aD.mp hx;show h i n (fN.mp hi) ∅ e
def Fz(dd:h.DictOfH (HM.eU prog w) d xs)(hd:d≠it)(hi:∀o vs n,h.get? it=some o->o.data≠.seq vs n)(k:∀b o,b≠it->h.get? b=some o->h'.get? b=some o):h'.DictOfH (HM.eU prog w) d xs:=by let#[o,es,ep,h1,h2,h3,h4,h5,h6]:=dd;show#[o,es,ep,k d o hd h1,h2,h3,h4,λx hx=>?_,h6];show HM.bU.stay (h5 x hx) λb o vs n _ ds e=>k b o (λz=>by subst z;show hi o vs n e ds) e
theorem AO{s0:Shared}{its:Array Value}{ks:Nat->HM.bu×Addr}{vs:Nat->V}(hu:A.units+10<cLine)(hd:d≠it)(hdl:d≠l)(hli:l≠it)(hh:A.in1.handled=none)(hn:n<=sizeLine)(hsz:its.size=n)
  (hni:∀o vs n,s0.heap.get? it=some o->o.data≠.seq vs n)(hnd:∀o vs n,s0.heap.get? d=some o->o.data≠.seq vs n)
  (hp:∀i,i<n->∃(T:Addr)(v:Value)(o:Obj)(c:Nat),its[i]?=some^.ref T/\s0.heap.get? T=some o/\o.cls=.type "tuple" /\ o.data=.seq #v[.ref (ks i).2,v] c/\T≠it/\T≠d/\HM.bU s0.heap (ks i).1 (ks i).2/\RelV (vs i) v)
  (hl:s0.heap.IsList l its)
  (hR:∀h' tk rs,(∀b o,b≠it->b≠d->s0.heap.get? b=some o->h'.get? b=some o)->h'.DictOfH (HM.eU prog w) d rs->oQ (j9 ks vs n) rs->R (.ok^.ret .none) { s0 with heap:=h',toks:=tk }):
  ∀(k i:Nat)(h:Heap)(t:Nat)(rs:List (HM.bu×Addr×Value))(c:Tok),n-i=k->i<=n->(∀b o,b≠it->b≠d->s0.heap.get? b=some o->h.get? b=some o)->h.IsListIter it l i->h.DictOfH (HM.eU prog w) d rs->oQ (j9 ks vs i) rs ->
   codeAny (model prog w) A (.builtin "dict.update.loop" #[[.ref d,.ref it,.int i c,.none],[]]) R { s0 with heap:=h,toks:=t }:=by
 have lst:∀h:Heap,(∀b o,b≠it->b≠d->s0.heap.get? b=some o->h.get? b=some o)->h.IsList l its:=λh kp=>let⟨o,q,r⟩:=hl;#[o,kp l o hli (bz hdl) q,r];have itd:∀{h:Heap}{i:Nat},h.IsListIter it l i->∀o vs n,h.get? it=some o->o.data≠.seq vs n:=λhit o vs n e z=>by let#[o',e',_,d']:=hit;rw[e] at e';cases e';rw[d'] at z;cases z
 intro k;induction k with
 | zero =>
  intro i h t rs c hk hi kp hit dd rel;have e:i=n:=∅;subst e;show codeAny_builtin F.gE ?_;rw[gY F.cO _];change wpAny _ A.in1 (pyNext (.ref it) >>= _) _ _ _;show au (wpAny_pyNext_list_end (s:={ s0 with heap:=h,toks:=t }) hh hit (lst h kp) (rN ∅) λh' k'=>?_);change wpAny _ A.in1 (Builtin.Dict.addKeywords d [] >>= _) _ _ _;show au^aN^aN ?_;show hR h' t rs (λb o b1 b2 q=>k' b o b1^kp b o b1 b2 q) (Fz dd hd (itd hit) λb o b1 q=>k' b o b1 q) rel
 | succ k ih =>
  intro i h t rs c hk hi kp hit dd rel;have hlt:i<n:=∅;let#[T,v,o,cc,hx,hT,hTc,hTd,n1,n2,hk0,rv]:=hp i hlt;show codeAny_builtin F.gE ?_;rw[gY F.cO _];change wpAny _ A.in1 (pyNext (.ref it) >>= _) _ _ _;show au (wpAny_pyNext_list_item (s:={ s0 with heap:=h,toks:=t }) hit (lst h kp) hx λh1 Tt Rb=>?_);have k1:∀b o,b≠it->h.get? b=some o->h1.get? b=some o:=λb o b1 q=>Rb.extBut b o b1 q;have ht:h1.get? T=some o:=k1 T o n1^kp T o n1 n2 hT;have d1:h1.DictOfH (HM.eU prog w) d rs:=Fz dd hd (itd hit) k1;have hk1:HM.bU h1 (ks i).1 (ks i).2:=HM.bU.stay hk0 λb o vs n _ ds e=>by
   have b1:b≠it:=λz=>by subst z;show hni o vs n e ds
   have b2:b≠d:=λz=>by subst z;show hnd o vs n e ds
   show k1 b o b1^kp b o b1 b2 e
  have tyT:({ s0 with heap:=h1,toks:=t }:Shared).TypeIs (.ref T) "tuple" := #[_,ht,hTc];change wpAny _ A.in1 (holding [Value.ref T] _ >>= _) _ _ _;show au^wpAny_holding ?_;show au^wpAny_tryCatch ?_;unfold Builtin.Dict.pairItems;show au^wpAny_typeOf tyT ?_;change wpAny _ _ (seqItems? (.ref T) >>= _) _ _ _;show au^wpAny_seqItems ht hTd^aN ?_;change wpAny _ _ (holding [.ref (ks i).2,v]^dictSet d (.ref (ks i).2) v) _ _ _;show wpAny_holding (wpAny_dictSet_heap (hsz:=?_) (by change A.in1.units+2<cLine;erw[Around.in1];lia) hk1 d1 λh2 d2 sb=>?_);show aN #[plainId_quiet F.cO _,?_];show ih (i+1) h2 _ (storedH rs (ks i).1 (ks i).2 v) 0 ∅ hlt (λb o b1 b2 q=>?_) ?_ d2 (rel.put (ks i).1 rv);show sb.extBut b o b2^k1 b o b1^kp b o b1 b2 q;let#[oi,zK,ri]:=Tt;show#[oi,sb.extBut it oi (bz hd) zK,ri];rw[<- jV rel];show bO (uS ks vs i)^bO (jE hlt) hn
theorem AQ{its:Array Value}{ks:Nat->HM.bu×Addr}{vs:Nat->V}{Q:Value->Shared->Prop}(hu:A.units+20<cLine)(hx:PlainL s.heap l its)(hh:A.in1.in1.handled=none)(hn:n<=sizeLine)(hsz:its.size=n)
  (hp:∀i,i<n->∃(T:Addr)(v:Value)(o:Obj)(c:Nat),its[i]?=some^.ref T/\s.heap.get? T=some o/\o.cls=.type "tuple" /\ o.data=.seq #v[.ref (ks i).2,v] c/\HM.bU s.heap (ks i).1 (ks i).2/\RelV (vs i) v)
  (q:∀h' tk rs,(∀b o,s.heap.get? b=some o->h'.get? b=some o)->h'.DictOfH (HM.eU prog w) s.heap.objs.size rs->oQ (j9 ks vs n) rs->Q (.ref s.heap.objs.size) { s with heap:=h',toks:=tk }):
  wpAny (model prog w) A (call (.type "dict") [.ref l]) Q E s:=by show callType_codes (Q₁:=λx s1=>x=.ref s.heap.objs.size/\s1={ s with heap:=s.heap.push { cls:=.type "dict", data:=.dict #[] } }) F.kt_called_dict (F.kt_typeCall_dict_1 _) F.entry_dict_init (kt_code_dict_new _ #[rfl,rfl]) ?_;rintro _ _ ⟨rfl,rfl⟩;have dd:(s.heap.push { cls:=.type "dict", data:=.dict #[] }).DictOfH (HM.eU prog w) s.heap.objs.size []:=Heap.DictOfH.new s.heap;have hx1:PlainL (s.heap.push { cls:=.type "dict", data:=.dict #[] }) l its:=hx.keeps λb o e=>dH _ e;show#[dd.typeIs,F.args_dict_init_2 _ _,?_];unfold Builtin.«dict.__init__»;show au ?_;unfold Builtin.Dict.selfAndRest;show au^wpAny_notOrdered_dict dd.typeIs ?_;show aN (a:=(s.heap.objs.size,[Value.ref l])) ?_;change wpAny _ _ (Builtin.Dict.updateFrom "dict.__init__" s.heap.objs.size (.ref l) [] .none) _ _ _;unfold Builtin.Dict.updateFrom;let#[#[cls,dc,da,sl],c,e0,e1,e2,e3]:=hx1;simp only at e1 e2 e3;subst e1 e2 e3;show au^wpAny_typeOf (T := "list") #[_,e0,rfl] ?_;rw[if_pos^by decide];show au (ZP.E7 e0 hh λh1 t1 k1=>?_);change wpAny _ _ (rule _ >>= _) _ _ _;show au^wpAny_rule ?_;have hl1:h1.IsList l its:=#[_,k1 _ _ e0,rfl,c,rfl];show au^wpAny_pyIter_list (s:={ s with heap:=h1,toks:=t1 }) hl1 ?_;show aN #[plainId_quiet F.cO _,?_];have sz:∀b o,s.heap.get? b=some o->b≠s.heap.objs.size:=λb o e=>aT^aK e;have k0:∀b o,s.heap.get? b=some o->h1.get? b=some o:=λb o e=>k1 b o^dH _ e;have k2:∀b o,h1.get? b=some o->(h1.push { cls:=.type "list_iterator", data:=.fields #v[.ref l,.int 0 0] }).get? b=some o:=λb o e=>dH _ e;have Ou:∀b o,h1.get? b=some o->b≠h1.objs.size:=λb o e=>aT^aK e;have hdo:h1.get? s.heap.objs.size=some { cls:=.type "dict", data:=.dict #[] }:=k1 _ _^iX _ rfl;have hdi:s.heap.objs.size≠h1.objs.size:=Ou _ _ hdo;let#[ol,nl,Dg,_]:=hx;show AO (s0:={ s with heap:=h1.push { cls:=.type "list_iterator", data:=.fields #v[.ref l,.int 0 0] },toks:=t1 }) (it:=h1.objs.size) (l:=l) (d:=s.heap.objs.size) (its:=its) (n:=n) (ks:=ks) (vs:=vs) (by erw[Around.in1];lia) hdi (bz^sz _ _ Dg) (Ou _ _^k0 _ _ Dg) hh hn hsz (λo vs n e z=>?_) (λo vs n e z=>?_) (λi hi=>?_) (let⟨o,a,r⟩:=hl1;#[o,k2 _ _ a,r]) (λh' tk rs k' d' rel=>?_) _ 0 _ t1 [] 0 rfl (aI _) (λb o _ _ e=>e) #[_,iX _ rfl,rfl,rfl] #[_,#[],0,k2 _ _ hdo,#[rfl,rfl,rfl],rfl,rfl,(λx hx=>nomatch hx),kW] .nil;have e':some ({ cls:=.type "list_iterator", data:=.fields #v[.ref l,.int 0 0] }:Obj)=some o:=(iX _ rfl).symm.trans e;cases e';cases z;have e':=(k2 _ _ hdo).symm.trans e;cases e';cases z;let#[T,v,o,c,a1,a2,a3,a4,a5,a6]:=hp i hi;show#[T,v,o,c,a1,k2 _ _^k0 _ _ a2,a3,a4,Ou _ _^k0 _ _ a2,sz _ _ a2,HM.bU.stay a5 λb o _ _ _ _ e=>k2 _ _^k0 _ _ e,a6];show#[rfl,q h' tk rs (λb o e=>k' b o (Ou _ _^k0 _ _ e) (sz _ _ e)^k2 _ _^k0 _ _ e) d' rel]
abbrev pU(H:Hp):List V->List (HM.bu×Addr×V)->Prop:=Paired λu p=>∃t,u=.ref t/\H t=some^.tup [.ref p.2.1,p.2.2]/\aS H (.ref p.2.1) p.1
def Rj(K:aF)(P:Program)(w:World):List V->Hp->VK->Prop:=λvs H Q=>∃a us ps,vs=[.ref a]/\bB K H a us/\pU H us ps/\(ps.map (·.1)).Nodup/\∀p ep H',eV H p (.ext (dz P w p ep ps)) H'->Q (.ref p) H'
end L2
namespace SN
def OR{es:Array DictEntry}(hd:(d==sysModules)=false):
  MeetsIn prog w (Builtin.«dict.__len__» #[[.ref d],[]]) (λ_ R s=>jQ s.heap d es ep/\R (.ok^.ret^.int es.size s.toks) { s with toks:=s.toks+1 }) :=
 .of_wp λA R s ⟨hm,h⟩=>by let#[o,ho,hc,hdat]:=hm;change wpAny _ _ (dictSize d >>= _) _ _ s;unfold dictSize;show au^au^wpAny_dictEntries ho hdat^aN ?_;change wpAny _ _ (Builtin.Dict.pendingCount d >>= _) _ _ s;show au^wpAny_pendingCount_other hd ?_;show wpAny_ret_mkInt ?_;rw[Nat.add_zero];show h
theorem yM{es:Array DictEntry}{Q:Value->Shared->Prop}(hd:(d==sysModules)=false)(hm:jQ s.heap d es ep)(hfit:(es.size:Int)<2 ^ 63)
  (h:Q (.int es.size (s.toks+1)) { s with toks:=s.toks+1+1 }):wpAny (model prog w) A (call (.builtin "len") [.ref d]) Q E s:=by
 show tW kind_len plain_len entry_len (args_len1 _) ?_;unfold Builtin.«len»;show au (m:=oneArg "len" _)^aN ?_;show au (m:=callSpecial? (.ref d)^Str.ofString "__len__") (wpAny_callSpecial?_slot (name:=Str.ofString "__len__") hm.ty F.slot_dict_len
  (call_meetsIn F.slot_dict_len hm.ty F.entry_dict_len (F.args_dict_len_1 _) (OR (es:=es) (ep:=ep) hd) #[hm,?_]))
 change wpAny _ _ _ _ _ { s with toks:=s.toks+1 };show au^wpAny_holding^aN ?_;show au^wpAny_letGo ?_;change wpAny _ _ (if((es.size:Nat):Int)<0 then _ else _) _ _ _;rw[if_neg ∅];change wpAny _ _ (if((es.size:Nat):Int)>=2 ^ 63 then _ else _) _ _ _;rw[if_neg ∅];show au^wpAny_mkInt^aN #[_,rfl,h]
end SN
namespace L2
variable {kvs:gk}
def Rk(P:Program)(w:World):List V->Hp->VK->Prop:=λxs H Q=>∃d ep kvs,xs=[.ref d]/\H d=some^.ext (dz P w d ep kvs)/\Q (.int kvs.length) H
theorem xm:dU X (.builtin "len")^Rk X.prog X.w:=by intro u5 s σ H xs us Q I r h;let#[d,ep,kvs,rfl,hd,q]:=h;let#[u,rfl,ru]:=vals1 r;cases ru;let#[lo,z,es,rd,hs,hat]:=I.raw hd;show SN.yM lo rd (by rw[sizeLine_eq] at z;lia) ?_;show#[.int kvs.length,H,I.tok _,#[_,by rw[hs]],q]
def ab6(hd:H d=some^.ext (dz P w d ep kvs))(q:Q (.int kvs.length) H):Rk P w [.ref d] H Q:=#[d,ep,kvs,rfl,hd,q]
def Xf(K:aF)(P:Program)(w:World):List V->Hp->VK->Prop:=λxs H Q=>∃d ep kvs T b,xs=[.ref d,.ty T]/\H d=some^.ext (dz P w d ep kvs)/\PySem.W.kitOne K (.type "dict")^.type T=some b/\Q (.bl b) H
def VE:dU X (.builtin "isinstance")^Xf X.K X.prog X.w:=by
 intro u5 s σ H xs us Q I r h;let#[d,ep,kvs,T,b,rfl,hd,e,q]:=h;cases r with
 | cons r1 r =>
  cases r with
  | cons r2 r =>
   cases r;cases r1;cases r2;let#[lo,z,es,#[o,h1,h2,_],hs,hat]:=I.raw hd;show gC PySem.W.kitx_dict I.yi #[o,h1,h2.1] e (λz=>nomatch z) λtk=>#[.bl b,H,I.tok _,rfl,q]
def Lv(P:Program)(w:World):List V->Hp->VK->Prop:=λxs H Q=>∃d ep kvs,xs=[.ref d]/\H d=some^.ext (dz P w d ep kvs)/\∀p H',eV H p (.lst (kvs.map λe=>V.ref e.2.1)) H'->Q (.ref p) H'
theorem uU{us:List V}{ps:gk}(h:pU H us ps)(hi:i<ps.length):∃t,us[i]?=some^.ref t/\H t=some^.tup [.ref (ps.getD i ((0,none),0,.dD)).2.1,(ps.getD i ((0,none),0,.dD)).2.2]/\aS H (.ref (ps.getD i ((0,none),0,.dD)).2.1) (ps.getD i ((0,none),0,.dD)).1:=by
 have hl:=h.length;let#[p,hp,t,e,h1,h2]:=mO h (i:=i) (x:=us[i]'∅)^dJ _;have ep:ps.getD i ((0,none),0,.dD)=p:=by rw[nR,hp];rfl
 rw[ep];show#[t,by rw[dJ ∅,e],h1,h2]
theorem uV(hu:X.A.units+64<cLine)(hc:X.calm=true):dU X (.type "dict")^Rj X.K X.prog X.w:=by
 intro u5 s σ H xs us Q I r h;let#[l,ul,ps,rfl,hS,hP,nd,q]:=h;let#[u,rfl,r1]:=vals1 r;cases r1;let#[its,rv,pl,hz]:=I.list hS;have e1:ul.length=ps.length:=hP.length;have hA:X.A.in1.in1.handled=none:=I.ok.hd hc;have big:@LT.lt Nat _ sysModules s.heap.objs.size:=I.big;have n6:@Ne Nat s.heap.objs.size sysModules:=∅;have hl:=rv.length;have eb:j9 (λi=>((ps.getD i ((0,none),0,.dD)).1,(ps.getD i ((0,none),0,.dD)).2.1)) (λi=>(ps.getD i ((0,none),0,.dD)).2.2) ps.length=ps:=by
  rw[xj];show range_getD _ ps
  .intro i j hi hj e;have gi:∀k(hk:k<ps.length),ps.getD k ((0,none),0,.dD)=ps[k]:=λk hk=>by rw[nR,dJ hk];rfl
   dsimp only at e;rw[gi i ∅,gi j hj] at e;have:=(tY nd (i:=i) (j:=j) (h₀:=by rw[aq];lia) (h₁:=by rw[aq];lia)).mp (by rw[tZ,tZ];show e);lia
 show AQ (n:=ps.length) (ks:=λi=>((ps.getD i ((0,none),0,.dD)).1,(ps.getD i ((0,none),0,.dD)).2.1)) (vs:=λi=>(ps.getD i ((0,none),0,.dD)).2.2) ∅ pl hA ∅ (by rw[aY];lia) (λi hi=>?_) λh' tk rs k' d' rel=>?_
 .let#[t,ht,htt,hh]:=uU hP hi;let#[w,hw,rw']:=rv.get ht;cases rw';let#[its2,rv2,pt,_]:=I.tuple^cY.of htt;let#[o,ho,hc',n,hd]:=pt;cases rv2 with
  | cons a1 b1 =>
   cases b1 with
   | cons a2 b2 =>
    cases b2;cases a1;show#[t,_,o,n,by simpa using hw,ho,hc',hd,I.hrm hh,a2]
 .rw[eb] at rel;have I3:Inv X u5 σ H { s with heap:=h',toks:=tk }:=I.kept k';have fd:gU X u5 H s.heap.objs.size:=I.oF (ay _)^I.hok.fresh^ay _;let#[ep,ho]:=DN (X:=X) (by rw[<- e1];show hz) (beq_eq_false_iff_ne.mpr n6) rel d';have I4:=I3.z9 fd (o:=.ext (dz X.prog X.w s.heap.objs.size ep ps)) ho;show#[.ref _,_,I4,rfl,q _ ep _ #[fd.1,rfl]]
def FA{us:List V}{ps:gk}(hS:bB K H a us)(hP:pU H us ps)(nd:(ps.map (·.1)).Nodup)(h:∀p ep H',eV H p (.ext (dz P w p ep ps)) H'->Q (.ref p) H'):Rj K P w [.ref a] H Q:=#[a,us,ps,rfl,hS,hP,nd,h]
section
variable {nx bk ct:St->Hp->Prop}{σ:St}{ty:TE}
def ZI(h:∀p ep H',eV H p (.ext (dz P w p ep [])) H'->Q (.ref p) H'):Lq P w σ H Q:=h
def nW{k:HM.bu}(hd:H d=some^.ext (dz P w d ep kvs))(hk:cu H kvs)(hb:aS H (.ref b) k)(hv:j8 kvs k=some v)(h:Q v H):Lm P w (.ref d) (.ref b) H Q:=#[d,b,ep,kvs,k,v,rfl,rfl,#[hd,hk],hb,hv,h]
def Lw{k:HM.bu}{R:Hp->Prop}(hd:H d=some^.ext (dz P w d ep kvs))(hk:cu H kvs)(hb:aS H (.ref b) k)(hz:kvs.length<=1000000)(h:∀rP H',qE H d (.ext (dz P w d rP^kG kvs k b v)) H'->R H'):Ln P w v (.ref d) (.ref b) H R:=#[d,b,ep,kvs,k,rfl,rfl,#[hd,hk],hb,hz,h]
def ZJ(h:tv σ H λv H1=>td σ H1 λx H2=>ty σ H2 λy H3=>Ln P w v x y H3 λH4=>nx σ H4):Lo P w td ty tv #[nx,rt,bk,ct] σ H:=h
def ZK{rd:V->V->Hp->VK->Prop}(h:td σ H λx H1=>ty σ H1 λy H2=>Lm P w x y H2 λv H3=>tv σ H3 λy2 H4=>rd v y2 H4 λz H5=>Ln P w z x y H5 λH6=>nx σ H6):Lp P w td ty tv rd #[nx,rt,bk,ct] σ H:=h
end
end L2
namespace SN
variable {es:Array DictEntry}
theorem HE{e:DictEntry}{Q:Option Value->Shared->Prop}(hit:s.heap.IsValIter it d i es.size ep)(x:jQ s.heap d es ep)(he:es[i]?=some e)
  (hQ:∀h',h'.IsValIter it d (i+1) es.size ep->Heap.SameBut it s.heap h'->Q (some e.val) { s with heap:=h' }):wpAny (model prog w) A (pyNext^.ref it) Q E s:=by
 have ty:=hit.typeIs;let#[o,ho,hc,hf]:=hit;let#[od,hod,_,rX]:=x;unfold pyNext;show au^wpAny_attempt^wpAny_callSpecial?_slot (name:=Str.ofString "__next__") ty yd^wpAny_call_entry yd ty F.entry_dict_valueiterator_next ?_^F.args_dict_valueiterator_next_1 _;show au^aN^au^au ?_
 first|show au (wpAny_typeNameOfWhole_valiter ty^aN^au^wpAny_fieldsOf ho hf ?_)|show au^wpAny_typeNameOf_valiter ty^aN^au^wpAny_fieldsOf ho hf ?_
 rw[show Builtin.Dict_items.ownsTuple "dict_valueiterator" = false by decide];erw[bW,if_false];change wpAny _ _ (if(Value.ref d==Value.none)=true then _ else _) _ _ s;rw[if_neg^show ¬(Value.ref d==Value.none)=true from kq];show au^aN^au^wpAny_dictEntries hod rX ?_;rw[if_neg^by simp];show au^aN^au^wpAny_dictEpoch hod rX ?_;rw[if_neg^by simp];show aN ?_;erw[show ¬((i:Int)<0) by lia,if_false,jg,he];show au ?_
 first|show au (wpAny_typeNameOfWhole_valiter ty^aN^au^wpAny_isOneOf_valiter ty ?_)|show au^wpAny_typeNameOf_valiter ty^aN^au^wpAny_isOneOf_valiter ty ?_
 change wpAny _ _ (setField (.ref it) 1 (rawInt ((i:Int)+1)) >>= _) _ _ s;have Ae:(s.heap.update it^Obj.mapFields (·.setIfInBounds 1 (rawInt ((i:Int)+1)))).IsValIter it d (i+1) es.size ep :=
  #[_,gI _ ho^kY^fB hf _,(nu ..).trans hc,by rw[fB hf];simp[rawInt]]
 show au^wpAny_setField ho hf (by simp)^au^wpAny_holding ?_;show au^wpAny_isOneOf_valiter (s:={ s with heap:=s.heap.update it (Obj.mapFields (·.setIfInBounds 1 (rawInt ((i:Int)+1)))) }) Ae.typeIs ?_;show au (wpAny_isOneOf_valiter (s:={ s with heap:=s.heap.update it (Obj.mapFields (·.setIfInBounds 1 (rawInt ((i:Int)+1)))) }) Ae.typeIs^show wpAny _ _ (pure e.val) _ _ _ from ?_);show aN^aN #[_,rfl,aN^hQ _ Ae (kQ ..)]
theorem Lx{Q:Option Value->Shared->Prop}(hh:A.handled=none)(hit:s.heap.IsValIter it d es.size es.size ep)(x:jQ s.heap d es ep)
  (hQ:∀h',Heap.ExtBut it s.heap h'->Q none { s with heap:=h' }):wpAny (model prog w) A (pyNext^.ref it) Q E s:=by
 have ty:=hit.typeIs;let#[o,ho,hc,hf]:=hit;let#[od,hod,_,rX]:=x;unfold pyNext;show au^wpAny_attempt^wpAny_callSpecial?_slot (name:=Str.ofString "__next__") ty yd^wpAny_call_entry yd ty F.entry_dict_valueiterator_next ?_^F.args_dict_valueiterator_next_1 _;show au^aN^au^au ?_
 first|show au (wpAny_typeNameOfWhole_valiter ty^aN^au^wpAny_fieldsOf ho hf ?_)|show au^wpAny_typeNameOf_valiter ty^aN^au^wpAny_fieldsOf ho hf ?_
 rw[show Builtin.Dict_items.ownsTuple "dict_valueiterator" = false by decide];erw[bW,if_false];change wpAny _ _ (if(Value.ref d==Value.none)=true then _ else _) _ _ s;rw[if_neg^show ¬(Value.ref d==Value.none)=true from kq];show au^aN^au^wpAny_dictEntries hod rX ?_;rw[if_neg^by simp];show au^aN^au^wpAny_dictEpoch hod rX ?_;rw[if_neg^by simp];show aN ?_;erw[show ¬((es.size:Int)<0) by lia,if_false,jg,rN^ay es.size];show au ?_
 first|show au (wpAny_typeNameOfWhole_valiter ty^aN ?_)|show au^wpAny_typeNameOf_valiter ty^aN ?_
 change wpAny _ _ (setField (.ref it) 0 .none >>= _) _ _ s;show au (wpAny_setField ho hf (by simp)^show wpAny _ _ (newExc (.type "StopIteration") [] >>= _) _ _ _ from au ?_);erw[newExc,newTuple];show au (wpAny_newObj_type ?_^by size_fits);show au (m:=firstArgMember _ _) (wpAny_of_eq (a:=Value.none) (by first|rfl|(erw[firstArgMember];rfl))^wpAny_newObj_type ?_^by size_fits);erw[raiseNew];show au^wpAny_handled ?_;rw[show A.in1.handled=none from hh];show au^aN^wpAny_throw^au ?_;show wpAny_isInstance (T := "StopIteration") (b:=true) #[_,iX _ rfl,rfl] isSubtype_stop ?_;show aN^hQ _^((kQ ..).extBut.push _).push _
def HF{v:Addr}{Q:Value->Shared->Prop}(hv:s.heap.IsValuesView v d)(x:jQ s.heap d es ep)
  (hQ:Q (.ref s.heap.objs.size) { s with heap:=s.heap.push { cls:=.type "dict_valueiterator", data:=.fields #v[.ref d,.int 0 0,.int es.size 0,.int ep 0] } }):wpAny (model prog w) A (pyIter^.ref v) Q E s:=by
 let#[ov,hov,hcv,hdv]:=id hv;let#[o,ho,hc,hdat]:=id x;show wpAny_pyIter_slot hv.typeIs F.slot_dict_values_iter^wpAny_call_entry F.slot_dict_values_iter hv.typeIs F.entry_dict_values_iter ?_^F.args_dict_values_iter_1 _;unfold Builtin.«dict_values.__iter__»;show au^aN ?_;show au ?_;unfold Builtin.Dict_items.dictOf;show au^wpAny_field hov hdv (x:=.ref d) rfl^aN ?_;show au ?_;unfold Builtin.Dict_items.newIterator;show au^wpAny_dictEntries ho hdat ?_;show au^wpAny_dictEpoch ho hdat ?_;have hown:Builtin.Dict_items.ownsTuple "dict_valueiterator" = false:=by decide
 erw[hown,bW,if_false];show wpAny_newObj_type^aN #[_,rfl, "dict_valueiterator", _,#[_,iX _ rfl,rfl],F.slot_dict_valueiterator_next.lookup,?_];simpa[rawInt] using hQ
def DP(hh:A.handled=none)(I d:Addr)(hne:d≠I)(es:Array DictEntry)(ep:Nat):Walks prog w A I [I,d] [I] es.size (λi v=>∃e,es[i]?=some e/\v=e.val) (λi h=>h.IsValIter I d i es.size ep/\jQ h d es ep) where
 sub:=λb hb=>by simp at hb;simp[hb]
 frame:=λ_ _ _ st hk=>#[st.1.at λo e=>hk I (by simp) o e,st.2.at' λo e=>hk d (by simp) o e]
 item:=λi s Q E hi st hQ=>by have e1:es[i]?=some es[i]:=gf hi;show HE st.1 st.2 e1 λh' h1 h2=>hQ _ h' s.toks #[_,e1,rfl] #[h1,st.2.at' λo e=>h2.extBut d o hne e] λb o hb e=>h2.extBut b o (λh=>hb^by simp[h]) e
 done:=λs Q E st hQ=>Lx hh st.1 st.2 λh' h1=>hQ h' s.toks λb o hb e=>h1 b o (λh=>hb^by simp[h]) e
 self:=λ_ _ _ _ st hQ=>wpAny_pyIter_valiter st.1 hQ
def DQ{v:Addr}{num:Nat->Int}{Q:Value->Shared->Prop}(hh:A.handled=none)(hv:s.heap.IsValuesView v d)(x:jQ s.heap d es ep)(hne:0<es.size)(hn:∀(i:Nat)(e:DictEntry),es[i]?=some e->∃t,e.val=Value.int (num i) t)
  (h:∀u h' tk,(∃e,es[argBest (λi j=>decide (num i>num j)) (es.size-1)]?=some e/\u=e.val)->(∀b o,s.heap.get? b=some o->h'.get? b=some o)->Q u { s with heap:=h',toks:=tk }):
  wpAny (model prog w) A (call (.builtin "max") [.ref v]) Q E s:=by
 let#[o,ho,r]:=id x;have hlt:=aK ho;show call_max_walk^HF hv x ?_;show#[_,_,_,_,_,_,_,rfl,DP (A:=A.in1) hh s.heap.objs.size d (aT hlt) es ep,#[#[_,iX _ rfl,rfl,rfl],x.at' λo e=>dH _ e],?_,hne,CmpOf.ints_gt num (λi u ⟨e,he,eu⟩=>by let#[t,ht]:=hn i e he;show#[t,by rw[eu,ht]]),λu h' tk hP hk=>?_]
 .intro b hb;rw[iJ];simp at hb;rcases hb with e|e;subst e;show jT _;subst e;show jS hlt
 .show h u h' tk hP λb o e=>hk b o (λhm=>by simp at hm;subst hm;show absurd (aK e)^gK _)^dH _ e
def DR(hd:(d==sysModules)=false):
  MeetsIn prog w (Builtin.«dict.values» #[[.ref d],[]]) (λ_ R s=>jQ s.heap d es ep /\
   R (.ok^.ret^.ref s.heap.objs.size) { s with heap:=s.heap.push { cls:=.type "dict_values", data:=.fields #v[.ref d] } }) :=
 .of_wp λA R s ⟨hm,h⟩=>by show au ?_;unfold Builtin.Dict.noArgs;show au^wpAny_notOrdered_dict hm.ty ?_;change wpAny _ _ (pure d) _ _ s;show aN ?_;change wpAny _ _ (Builtin.Dict.showsAll d >>= _) _ _ s;unfold Builtin.Dict.showsAll;rw[if_neg (by rw[hd];show kq)];show au^aN ?_;show au^wpAny_newObj_type^aN #[_,rfl,h]
end SN
namespace L2
variable {kvs:gk}
def AR(v d:Addr):Heap->Prop:=λh=>h.IsValuesView v d
section
variable {o f:Expr}{ty:TE}
def Rl{σ:St}(I:Inv X u5 σ H s)(h:H d=some^.ext (dz X.prog X.w d ep kvs)):
  s.TypeIs (.ref d) "dict" /\ (∀b,Value.ref d=.ref b->∃ob,s.heap.get? b=some ob/\ob.dict=none)/\(d==sysModules)=false:=by let#[lo,_,es,rd,_,_]:=I.raw h;show#[rd.ty,λb q=>?_,lo];cases q;let#[ob,h1,h2,_]:=rd;show#[ob,h1,h2.2.1]
def Ly(P:Program)(w:World)(Q:VK):V->Hp->Prop:=λx H=>∃d ep kvs,x=.ref d/\H d=some^.ext (dz P w d ep kvs)/\∀v H',eV H v (.ext (AR v d)) H'->Q (.ref v) H'
def Rm(P:Program)(w:World)(td:TE):TE:=λσ H Q=>td σ H^Ly P w Q
def Lz(ho:PE X o td)(hbase:attributeBase o "values" X.env^eval o X.env=eval o X.env:=by rfl)(hline:(apos.endLine==cpos.line)=true:=by rfl):PE X (.Call (.Attribute o "values" apos) [] [] cpos)^Rm X.prog X.w td:=by intro u5 s σ H Q I h;show wpAny_Call_method0_late hbase hline (c7 (ho u5 s σ H _ I h) λu s1 zq=>?_);let#[x,H1,I1,r1,d,ep,kvs,ex,hd,q1]:=zq;subst ex;obtain rfl:u=Value.ref d:=r1;let#[t1,t2,lo]:=Rl I1 hd;let#[_,_,es,rd,_,_]:=I1.raw hd;show#["dict", _,PySem.F.plainAttrs_dict,PySem.F.slot_dict_values,PySem.F.type_dict_values,t1,t2,tV rfl^PySem.evalArgs_none ?_];show call_meetsIn PySem.F.slot_dict_values t1 PySem.F.entry_dict_values (PySem.F.args_dict_values_1 _) (SN.DR (es:=es) (ep:=ep) lo) #[rd,?_];show#[.ref s1.heap.objs.size,_,I1.laid (a:=s1.heap.objs.size) (o:=.ext (AR s1.heap.objs.size d)) (t':=s1.toks) (λ_ _ q=>dH _ q) (ay _) #[#[_,iX _ rfl,rfl,rfl],#[_,iX _ rfl],λg1 g2 ⟨ob,a1,a2⟩ he=>#[ob,he _ a1,a2]],rfl,q1 _ _ #[I1.hok.fresh^ay _,rfl]]
def Rn(P:Program)(w:World):List V->Hp->VK->Prop:=λxs H Q=>∃(v d:Addr)(ep:Nat)(kvs:gk)(ns:List Int),xs=[.ref v]/\H v=some^.ext (AR v d)/\H d=some^.ext (dz P w d ep kvs)/\kvs.map (·.2.2)=ns.map V.int/\ns≠[]/\∀m,m∈ns->(∀x∈ns,x<=m)->Q (.int m) H
theorem HG(hc:X.calm=true):dU X (.builtin "max")^Rn X.prog X.w:=by
 intro u5 s σ H xs us Q I r h;let#[v,d,ep,kvs,ns,rfl,hv,hd,en,hne,q]:=h;let#[u,rfl,ru]:=vals1 r;cases ru;let#[vv,_,_]:=I.hok v _ hv;let#[lo,z,es,rd,hs,hat]:=I.raw hd;have hl:kvs.length=ns.length:=by have:=congrArg List.length en;simpa using this
 have hpos:0<es.size:=by
  rw[hs,hl];cases ns with
  | nil=>show absurd rfl hne
  | cons=>simp
 have hn:∀(i:Nat)(e:DictEntry),es[i]?=some e->∃t,e.val=Value.int (ns.getD i 0) t:=λi e he=>by
  have hi:i<kvs.length:=by rw[<- hs];show(nU.mp he).1
  let#[u,hu,_,hr]:=hat i _^dJ hi;rw[he] at hu;cases hu;have e1:kvs[i].2.2=V.int^ns.getD i 0:=by
   have:(kvs.map (·.2.2))[i]?=(ns.map V.int)[i]?:=by rw[en]
   rw[aW,aW,dJ hi,dJ (show i<ns.length by lia)] at this;rw[nR,dJ (show i<ns.length by lia)];show Option.some.inj this
  rw[e1] at hr;show hr
 show SN.DQ (num:=λi=>ns.getD i 0) (I.ok.hd hc) vv rd hpos hn λu h' tk hu k=>?_;let#[e,he,rfl]:=hu;let#[b1,b2]:=mL (λi=>ns.getD i 0) (es.size-1);let#[t,ht]:=hn _ _ he;rw[ht];have at_:∀i,i<ns.length->ns[i]?=some^ns.getD i 0:=λi hi=>by rw[nR,dJ hi];rfl
 show#[.int _,H,I.kept k,#[_,rfl],q _ (eY (at_ _ ∅)) λx hx=>?_];let#[i,hi]:=fM.mp hx;have hil:=(eX hi).1;rw[at_ i hil] at hi;rw[<- Option.some.inj hi];show b2 i ∅
def Xg(P:Program)(w:World)(ty tx:TE)(σ:St)(Q:VK):V->Hp->Prop:=λx H1=>∃d ep kvs,x=.ref d/\H1 d=some^.ext (dz P w d ep kvs)/\ty σ H1 λy H2=>tx σ H2 λz H3=>∃b ep kvs k,y=.ref b/\DH P w H3 d ep kvs/\aS H3 (.ref b) k/\Q ((j8 kvs k).getD z) H3
def Ua(P:Program)(w:World)(td ty tx:TE):TE:=λσ H Q=>td σ H^Xg P w ty tx σ Q
def HH(hu:X.A.units+64<cLine)(ho:PE X o td)(he:PE X e ty)(hf:PE X f tx)(m:M2 X o "get" apos e f cpos):PE X (.Call (.Attribute o "get" apos) [e,f] [] cpos)^Ua X.prog X.w td ty tx:=by
 intro u5 s σ H Q I h;show wpAny_Call_method m.base m.few m.line PySem.F.plainAttrs_dict o4 PySem.F.type_dict_get (c7 (ho u5 s σ H _ I h) λu s1 zq=>?_);let#[x,H1,I1,rx,d,ep,kvs,ex,hd,q1]:=zq;subst ex;obtain rfl:u=Value.ref d:=rx;let#[t1,t2,lo]:=Rl I1 hd;show#[t1,t2,?_];rw[m.trees];show tV rfl (Calls.evalArgs_plain (qF (c7 (he u5 s1 σ H1 _ I1 q1) λiv s2 ⟨y,H2,I2,ry,q2⟩ =>
  qF (c7 (hf u5 s2 σ H2 _ I2 q2) λfv s3 ⟨z,H3,I3,rz,b,ZL,ag6,k,ey,HJ,hb,q3⟩=>Calls.spliced_nil ?_))))
 subst ey;obtain rfl:iv=Value.ref b:=ry;let#[_,_,xs,rel,dd]:=I3.dh HJ;show call_meetsIn o4 dd.typeIs PySem.F.entry_dict_get (PySem.F.args_dict_get_3 _ _ _) (meetsH_dict_get_default (HM.eU X.prog X.w) d b lo fv) #[yK (X:=X) hu,k,xs,I3.hrm hb,dd,?_];show#[_,H3,I3.tok _,(rel.val k).getD rz,q3]
end
section
variable {o i f:Expr}{ty:TE}
def rq(e1:X.prog=P)(e2:X.w=w)(hu:X.A.units+64<cLine)(ho:PE X o td)(hi:PE X i ty)(hs:J3 i):PE X (.Subscript o i pos)^N1 (Lm P w) td ty:=e1▸e2▸jI hu ho hi hs
def DS(e1:X.prog=P)(e2:X.w=w)(hu:X.A.units+64<cLine)(ho:PE X o td)(he:PE X e ty)(hf:PE X f tx)(m:M2 X o "get" apos e f cpos):PE X (.Call (.Attribute o "get" apos) [e,f] [] cpos)^Ua P w td ty tx:=e1▸e2▸HH hu ho he hf m
theorem DT(hc:X.calm=true):dU X (.type "list")^Lv X.prog X.w:=by
 intro u5 s σ H xs us Q I r h;let#[d,ep,kvs,rfl,hd,q]:=h;let#[u,rfl,ru]:=vals1 r;cases ru;let#[lo,z,es,rd,hs,hat]:=I.raw hd;show PySem.W.kdl_call (SN.Fo (es:=es) (ep:=ep) lo) (I.ok.hd hc) rd ∅ λh' tk acc' c' hk hS hacc=>?_;show#[.ref s.heap.objs.size,_,I.laid (t':=tk) hk (ay _) (o:=.lst (kvs.map λe=>V.ref e.2.1)) #[by rw[aq];show z,acc'.toList,c',?_,?_],rfl,q _ _ #[I.hok.fresh^ay _,rfl]]
 .have go:∀{l:List (HM.bu×Addr×V)}{vs:List Value},vs.length=l.length->(∀(j:Nat) e,l[j]?=some e->vs[j]?=some^.ref e.2.1)->Vals (l.map λe=>V.ref e.2.1) vs:=by
   intro l;induction l with
   | nil=>intro vs hl _;cases vs with
    | nil=>show .nil
    | cons v vs=>simp at hl
   | cons e l ih =>
    intro vs hl hv;cases vs with
    | nil=>simp at hl
    | cons v vs =>
     have h0:=hv 0 e rfl;erw[List.getElem?_cons_zero,Option.some.injEq] at h0;subst h0;show .cons rfl (ih (by simpa using hl) λj x hx=>by simpa using hv (j+1) x^by simpa using hx)
  show go (by rw[c8,hacc.1,hs]) λj e he=>?_;let#[u,hu,hk,_]:=hat j e he;have hj:j<acc'.size:=by rw[hacc.1];show(nU.mp hu).1
  let#[e2,Zx,ee]:=hacc.2 j acc'[j]^gf hj;rw[gh,gf hj,ee];rw[hu] at Zx;cases Zx;rw[hk]
 .rw[hS,Array.toArray_toList]
end
section
variable {σ:St}{ty:TE}
def OS(hd:H d=some^.ext (dz P w d ep kvs))(h:∀p H',eV H p (.lst (kvs.map λe=>V.ref e.2.1)) H'->Q (.ref p) H'):Lv P w [.ref d] H Q:=#[d,ep,kvs,rfl,hd,h]
def ab7(h:td σ H^Ly P w Q):Rm P w td σ H Q:=h
def ZM(hd:H d=some^.ext (dz P w d ep kvs))(h:∀v H',eV H v (.ext (AR v d)) H'->Q (.ref v) H'):Ly P w Q (.ref d) H:=#[d,ep,kvs,rfl,hd,h]
def Ub{v:Addr}(hv:H v=some^.ext (AR v d))(hd:H d=some^.ext (dz P w d ep kvs))(en:kvs.map (·.2.2)=ns.map V.int)(hne:ns≠[])(h:∀m,m∈ns->(∀x∈ns,x<=m)->Q (.int m) H):Rn P w [.ref v] H Q:=#[v,d,ep,kvs,ns,rfl,hv,hd,en,hne,h]
def Xh(h:td σ H^Xg P w ty tx σ Q):Ua P w td ty tx σ H Q:=h
end
end L2
namespace MX
section
variable {P:Nat->Value->Prop}{St:Nat->Heap->Prop}
def nm:(toString "max" ++ toString ".loop" : String) = "max.loop" := by decide
theorem loop(W:Walks prog w A.in1 I fp wr n P St)(bt:Nat->Nat->Bool)(hcmp:CmpOf prog w A.in1 .Gt P bt)(S:Addr)(hSf:S∉fp):
  ∀(k j:Nat)(s:Shared)(vb:Value)(c:Nat),n-(j+1)=k->j+1<=n->St (j+1) s.heap->P (argBest bt j) vb ->
  s.heap.get? S=some { cls:=.type "list", dict:=none,data:=.seq #v[vb,vb] c,slots:=#[] } ->
  (∀v h' tk,P (argBest bt (n-1)) v->(∀b o,b∉wr->b≠S->s.heap.get? b=some o->h'.get? b=some o)->R (.ok^.ret v) { s with heap:=h',toks:=tk }) ->
  codeAny (model prog w) A (.builtin "max.loop" #[[.ref I,.none,.ref S],kw]) R s:=by
 have OT:S∉wr:=λh=>hSf^W.sub _ h;intro k;induction k with
 | zero =>
  intro j s vb c hk hj hst Ro hS hR;have hin:j+1=n:=∅;show codeAny_builtin om ?_;rw[gY gp _];show(show wpAny _ A.in1 (seqItems? (.ref S) >>= _) _ _ s from au^wpAny_seqItems hS rfl ?_);show(show wpAny _ A.in1 (tryCatch (pyNext^.ref I) _ >>= _) _ _ s from au^wpAny_tryCatch (W.done s _ _ (hin▸hst) λh' tk hk'=>?_));show(show wpAny _ A.in1 (updateSeq S (λ_=>#[]) >>= _) _ _ _ from au^wpAny_updateSeq (hk' S _ OT hS) rfl^au^wpAny_letGo^aN ?_);show hR vb _ tk (by rw[<- hin];show Ro) λb o FD OU e=>(jf _ _^bz OU).trans^hk' b o FD e
 | succ k ih =>
  intro j s vb c hk hj hst Ro hS hR;have hlt:j+1<n:=∅;show codeAny_builtin om ?_;rw[gY gp _];show(show wpAny _ A.in1 (seqItems? (.ref S) >>= _) _ _ s from au^wpAny_seqItems hS rfl ?_);show(show wpAny _ A.in1 (tryCatch (pyNext^.ref I) _ >>= _) _ _ s from au^wpAny_tryCatch (W.item (j+1) s _ _ hlt hst λv h' tk hP uW hk'=>?_));have hS':=hk' S _ OT hS;show(show wpAny _ A.in1 (tryCatch (holding [v,v] (richCompare .Gt v vb >>= _)) _ >>= _) _ _ _ from au^wpAny_tryCatch^wpAny_holding^au^hcmp (j+1) (argBest bt j) v vb _ _ _ hP Ro ?_);show au^wpAny_holding^wpAny_truthy_bool^au^wpAny_letGo^aN ?_;cases hb:bt (j+1)^argBest bt j with
  | true =>
   erw[if_true];show au^wpAny_updateSeq hS' rfl^au^wpAny_letGo ?_;rw[nm];show aN #[plainId_quiet gp _,ih (j+1) _ v _ ∅ hlt (W.frame _ _ _ uW λb hbf o e=>(jf _ _ (λh:S=b=>hSf (by rw[h];show hbf))).trans e) (by erw[argBest,hb,if_true];show hP) (gI _ hS' rfl) λv' h'' LA Xi LB=>?_];show hR v' h'' LA Xi λb o FD OU e=>LB b o FD OU^(jf _ _^bz OU).trans^hk' b o FD e
  | false =>
   erw[bW,if_false];show au^wpAny_letGo ?_;rw[nm];show aN #[plainId_quiet gp _,ih (j+1) _ vb c ∅ hlt uW (by erw[argBest,hb,bW,if_false];show Ro) hS' λv' h'' LA Xi LB=>hR v' h'' LA Xi λb o FD OU e=>LB b o FD OU^hk' b o FD e]
def first(W:Walks prog w A.in1 I fp wr n P St)(bt:Nat->Nat->Bool)(hcmp:CmpOf prog w A.in1 .Gt P bt)(S:Addr)(hSf:S∉fp)(hn:0<n){c:Nat}(hst:St 0 s.heap)
  (hS:s.heap.get? S=some { cls:=.type "list", dict:=none,data:=.seq #[] c,slots:=#[] })
  (hR:∀v h' tk,P (argBest bt (n-1)) v->(∀b o,b∉wr->b≠S->s.heap.get? b=some o->h'.get? b=some o)->R (.ok^.ret v) { s with heap:=h',toks:=tk }):
  codeAny (model prog w) A (.builtin "max.loop" #[[.ref I,.none,.ref S],kw]) R s:=by have OT:S∉wr:=λh=>hSf^W.sub _ h;show codeAny_builtin om ?_;rw[gY gp _];show(show wpAny _ A.in1 (seqItems? (.ref S) >>= _) _ _ s from au^wpAny_seqItems hS rfl ?_);show(show wpAny _ A.in1 (tryCatch (pyNext^.ref I) _ >>= _) _ _ s from au^wpAny_tryCatch (W.item 0 s _ _ hn hst λv h' tk hP uW hk'=>?_));have hS':=hk' S _ OT hS;show(show wpAny _ A.in1 (updateSeq S (λ_=>#v[v,v]) >>= _) _ _ _ from au^wpAny_updateSeq hS' rfl ?_);rw[nm];show aN #[plainId_quiet gp _,loop W bt hcmp S hSf _ 0 _ v _ rfl hn (W.frame _ _ _ uW λb hbf o e=>(jf _ _ (λh:S=b=>hSf (by rw[h];show hbf))).trans e) hP (gI _ hS' rfl) λv' h'' LA Xi LB=>?_];show hR v' h'' LA Xi λb o FD OU e=>LB b o FD OU^(jf _ _^bz OU).trans^hk' b o FD e
def none_{d:Value}(W:Walks prog w A.in1 I fp wr 0 P St)(S:Addr)(hSf:S∉fp){c:Nat}(hst:St 0 s.heap)
  (hS:s.heap.get? S=some { cls:=.type "list", dict:=none,data:=.seq #[] c,slots:=#[] })
  (hR:∀h' tk,(∀b o,b∉wr->s.heap.get? b=some o->h'.get? b=some o)->R (.ok^.ret d) { s with heap:=h',toks:=tk }):
  codeAny (model prog w) A (.builtin "max.loop" #[[.ref I,.none,.ref S],[(x,d)]]) R s:=by show codeAny_builtin om ?_;rw[gY gp _];show(show wpAny _ A.in1 (seqItems? (.ref S) >>= _) _ _ s from au^wpAny_seqItems hS rfl ?_);show(show wpAny _ A.in1 (tryCatch (pyNext^.ref I) _ >>= _) _ _ s from au^wpAny_tryCatch (W.done s _ _ hst λh' tk hk'=>?_));change wpAny _ A.in1 (rule _ >>= _) _ _ _;show au^wpAny_rule^aN^hR h' tk hk'
end
theorem FE{id:String}{b:Builtin}{args:List Value}{Q:Value->Shared->Prop}(hk:builtinKind id=none)(hp:plainId id=true)(hb:entryFor table id=some b)(ha:argsOk id #[args,kw])
  (hc:wpAny (model prog w) A.in1 (b #[args,kw]) (λfin s'=>match fin with
   | .done f=>(match(Except.ok f:Result) with|.ok (.ret v)=>Q v s'|.ok _=>False|.error e=>E e s')
   | .again c'=>c'.quiet=true/\codeAny (model prog w) A c' (λr s'=>match r with|.ok (.ret v)=>Q v s'|.ok _=>False|.error e=>E e s') s') E s):wpAny (model prog w) A (call (.builtin id) args kw) Q E s:=by
 show wpAny_call^codeAny_call_builtin hp hb ?_;erw[checkBuiltinCall,hk];cases ab9:Manifest.signature? id with
 | none=>show aN hc
 | some sig =>
  have h2:Bind.checkArgs id sig #[args,kw]=pure ():=by simpa only[argsOk,ab9] using ha
  show(show wpAny _ A.in1 (Bind.checkArgs id sig #[args,kw]) _ _ s from ?_);rw[h2];show aN hc
def HK(a d:Value):argsOk "max" #[[a],[("default", d)]]:=by unfold argsOk;kernel_rfl
theorem HL{x d:Value}{Q:Value->Shared->Prop}
  (h:wpAny (model prog w) A.in1 (pyIter x) (λit s₂=>∃I fp wr n P St bt,it=.ref I/\Walks prog w A.in1 I fp wr n P St/\St 0 s₂.heap/\(∀b∈fp,b<s₂.heap.objs.size)/\CmpOf prog w A.in1 .Gt P bt /\
   ∀v h' tk,(if n=0 then v=d else P (argBest bt (n-1)) v)->(∀b o,b∉wr->s₂.heap.get? b=some o->h'.get? b=some o)->Q v { s₂ with heap:=h',toks:=tk }) E s):
  wpAny (model prog w) A (call (.builtin "max") [x] [("default", d)]) Q E s:=by
 show FE F.kind_max F.plain_max F.entry_max (HK _ _) ?_;show(show wpAny _ A.in1 (Builtin.Builtins.bindParams "max" ["key", "default"] 0 #[[],[("default", d)]] >>= _) _ _ s from ?_);show au^wpAny_of_eq (show Builtin.Builtins.bindParams "max" ["key", "default"] 0 #[[],[("default", d)]]=pure [none,some d] by first|rfl|kernel_rfl) ?_;show au^aN^au (wpAny_mono h (λit s₂ h₂=>?_) λ_ _ e=>e);let#[I,fp,wr,n,P,St,bt,rfl,W,hst,hfp,hcmp,hQ]:=h₂;show au^wpAny_newObj_type ?_;have hSf:s₂.heap.objs.size∉fp:=λhm=>gK _^hfp _ hm;rw[nm];have uW:=W.frame 0 s₂.heap (s₂.heap.push { cls:=.type "list", data:=.seq ([]:List Value).toArray }) hst λb _ o e=>dH _ e;rcases Nat.eq_zero_or_pos n with e|hn
 .subst e;show aN #[plainId_quiet gp _,none_ W s₂.heap.objs.size hSf uW (iX _ rfl) λh' tk hk=>?_];show hQ d h' tk (by rw[if_pos rfl]) λb o FD e=>hk b o FD^dH _ e
 .show aN #[plainId_quiet gp _,first W bt hcmp s₂.heap.objs.size hSf hn uW (iX _ rfl) λv h' tk hP hk=>?_];show hQ v h' tk (by rw[if_neg ∅];show hP) λb o FD e=>hk b o FD (aT^aK e)^dH _ e
end MX
namespace L2
def FF(K:aF)(vs:List V)(y:V)(H:Hp)(Q:VK):Prop:=∃p xs d,vs=[.ref p]/\y=.int d/\bB K H p^xs.map V.int/\∀m:Int,(xs=[]->m=d)->(xs≠[]->m∈xs/\∀x∈xs,x<=m)->Q (.int m) H
def Rp(K:aF)(t:TA)(tv:TE):TE:=λσ H Q=>t σ H λvs H1=>tv σ H1 λy H2=>FF K vs y H2 Q
section
variable {v:Expr}{t:TA}
theorem OV{σ:St}{vs:List V}{d:Value}(hc:X.calm=true)(I:Inv X u5 σ H s)(r:Vals vs us)(ry:RelV y d)(h:FF X.K vs y H Q):
  wpAny (model X.prog X.w) X.A (call (.builtin "max") us [("default", d)]) (λu s'=>∃x H',Inv X u5 σ H' s'/\RelV x u/\Q x H') E s:=by
 let#[p,xs,dd,rfl,rfl,hS,q]:=h;let#[u,rfl,ru]:=vals1 r;cases ru;let#[t0,rfl]:=ry;let#[its,rv,pl,hz]:=I.list hS;let#[ps,rfl,e]:=wZ rv;have hl:s.heap.IsList p^intItems ps.toArray:=by have:=pl.isList;rw[show(ps.map λp=>Value.int p.1 p.2).toArray=intItems ps.toArray by unfold intItems;simp] at this;show this
 have hsz:(intItems ps.toArray).size=ps.length:=by simp[intItems]
 have OW:xs.length=ps.length:=by rw[<- e,aq]
 show MX.HL (iter_intList hl λs₂ e2 st hfp hlI=>?_);subst e2;show#[_,_,_,_,_,_,_,rfl,Walks.list (A:=X.A.in1) (I.ok.hd hc) _ p hlI^intItems ps.toArray,st,hfp,CmpOf.ints_gt (numAt ps.toArray) (λ_ _=>intItems_at),λu h' tk hP hk=>?_];rw[hsz] at hP;have kept:=old_kept (s:=s) (l:=p) hk;by_cases h0:ps.length=0;rw[if_pos h0] at hP;have ex:xs=[]:=List.eq_nil_of_length_eq_zero ∅;subst hP;show#[.int dd,H,I.kept kept,#[t0,rfl],q dd (λ_=>rfl) λz=>absurd ex z]
 .rw[if_neg h0] at hP;let#[t1,rfl]:=intItems_at hP;let#[b1,b2]:=mL (numAt ps.toArray) (ps.length-1);have at_:∀i,i<ps.length->xs[i]?=some^numAt ps.toArray i:=λi hi=>by rw[<- e];simp[numAt,dJ hi]
  show#[.int _,H,I.kept kept,#[t1,rfl],q _ (λz=>?_) λ_=>#[eY (at_ _ ∅),λx hx=>?_]];rw[z] at OW;show absurd OW.symm h0
  .let#[i,hi]:=fM.mp hx;have hil:i<ps.length:=by rw[<- OW];show(eX hi).1
   rw[at_ i hil] at hi;rw[<- Option.some.inj hi];show b2 i ∅
def OX(hc:X.calm=true)(hg:Gl X "max")(hm:X.mg "max" = none)(ha:PA X [e] t)(hv:PE X v tv)(he:backTo pos^starEach [e] X.env=(false,eval e X.env)::backTo pos^starEach [] X.env:=by rfl)
  (hpl:(backTo pos^starEach [e] X.env).any (·.1)=false:=by rfl)(hal:(backToKw pos^keywordEach [#[some "default", v,kp]] X.env).all (·.1.isSome)=true:=by rfl)(hkw:(backToKw pos^keywordEach [#[some "default", v,kp]] X.env).any (·.1.isNone)=false:=by rfl)
  (hfm:(backToKw pos^keywordEach [#[some "default", v,kp]] X.env).filterMap (·.1)=[("default" : Str)]:=by rfl):PE X (.Call (.Name "max" p) [e] [#[some "default", v,kp]] pos)^Rp X.K t tv:=by intro u5 s σ H Q I h;show wpAny_Call_Name_kw^jF I hg hm BT.KL ?_;show callWith_kw (kws:=[#[some "default", v,kp]]) ?_ he hpl hal hkw;show c7 (ha pos u5 s σ H _ I h) λus s1 zq=>?_;let#[vs,H1,I1,r1,q1]:=zq;show kws_cons (c7 (hv u5 s1 σ H1 _ I1 q1) λd s2 zq=>?_);let#[y,H2,I2,ry,q2]:=zq;show kws_nil ?_;rw[hfm];show OV hc I2 r1 ry q2
end
section
variable {σ:St}{t:TA}
def ZN(h:t σ H λvs H1=>tv σ H1 λy H2=>FF K vs y H2 Q):Rp K t tv σ H Q:=h
def Uc{p:Addr}{xs:List Int}{d:Int}(hS:bB K H p^xs.map V.int)(h:∀m:Int,(xs=[]->m=d)->(xs≠[]->m∈xs/\∀x∈xs,x<=m)->Q (.int m) H):FF K [.ref p] (.int d) H Q:=#[p,xs,d,rfl,rfl,hS,h]
end
section
variable {κ:Type} [DecidableEq κ] {knd:HeapKind prog w κ}
end
end L2
namespace SN
end SN
namespace L2
section
variable {o:Expr}
end
section
variable {σ:St}
end
section
variable {mb:Str->Option Value}{CX:GZ}{fa:Addr}{s₁:Shared}
def Start(h:Heap)(K:aF)(H:Hp):Prop:=∀b u,H b=some u->K.lookup b=none/\((∃o xs,u=.zI o^.lst xs)\/(u=.qC #[]/\isCodeTable h b))
def Start.noDict(S:Start s₁.heap K H)(hok:lX P w H s₁.heap){o:Obj}{es:Array DictEntry}(e:s₁.heap.get? b=some o)(d:o.data=.dict es ep):H b=none:=by
 cases q:H b with
 | none=>rfl
 | some u =>
  have z:=hok b u q;rcases(S b u q).2 with⟨o',xs,rfl⟩|⟨rfl,_⟩
  .let#[_,_,its,n,_,z2]:=z;have z3:=e.symm.trans z2;rw[Option.some.inj z3] at d;cases d
  .have z3:=e.symm.trans (show s₁.heap.get? b=some _ from z);rw[Option.some.inj z3] at d;cases d
def Start.Xj(S:Start s₁.heap K H)(hok:lX P w H s₁.heap){o:Obj}(e:s₁.heap.get? b=some o)(d:o.cls=.type "module"):H b=none:=by
 cases q:H b with
 | none=>rfl
 | some u =>
  have z:=hok b u q;rcases(S b u q).2 with⟨o',xs,rfl⟩|⟨rfl,_⟩
  .let#[_,_,its,n,_,z2]:=z;have z3:=e.symm.trans z2;rw[Option.some.inj z3] at d;have d:=Value.type.inj d;show absurd d (by decide)
  .have z3:=e.symm.trans (show s₁.heap.get? b=some _ from z);rw[Option.some.inj z3] at d;cases d
def yN{ts:List Addr}(bt:∀b∈ts,s₁.heap.BuiltinsAt mg b)(KX:K.In s₁.heap)(hns:s₁.heap.Ns mainGlobals mg)(hb:s₁.heap.Ns builtinsNs mb)(hbb:∀y:Str,y ≠ "__name__" -> mb y=bootBuiltins y)(hlim:s₁.heap.NoLimit)(hg:s₁.gens=#[])
  (S:Start s₁.heap K H)(hok:lX P w H s₁.heap)(hr:iZ k callerA)(F:∀base:Heap,K.In base->base.Ns mainGlobals mg->(∀b∈ts,base.BuiltinsAt mg b)->bQ P w K mg base CX k fa fd [x] sp)
  (hbind:∀(s:Shared)(u:Value),BindsTo s fd #[[u],[]] [(x,u)])(CM:sp [.ref a] H (λv _=>v=.bl true) λ_ _ _=>False)(Ws:∀e s',CX [] H s₁ (λ_ _ _=>False) e s'->False):
  codeAny (model P w) callerA (.call (.ref fa) #[[.ref a],[]]) (λr s'=>r=.ok^.ret^.bool true/\OldK s₁.heap s'.heap/\s'.os=s₁.os/\AllBare s'.gens) s₁:=by
 have ns:∀{b:Addr}{m:Str->Option Value},s₁.heap.Ns b m->(qO s₁.heap H).Ns b m:=λ⟨o,es,ep,e,d,r⟩=>#[o,es,ep,o7 e^S.noDict hok e d,d,r];have kb:K.In^qO s₁.heap H:=λb o e=>by
  show o7 (KX b o e) ?_;cases q:H b with
  | none=>rfl
  | some u=>show absurd ((S b u q).1.symm.trans e) (by simp)
 have bb:∀b∈ts,(qO s₁.heap H).BuiltinsAt mg b:=λb hb=>by let#[bm,o,h1,h2,h3,h4,h5,h6,h7]:=bt b hb;show#[bm,o,h1,h2,h3,h4,o7 h5^S.Xj hok h5 h6,h6,h7]
 let#[mc,l1,l2]:=hlim;have env:JR P w K mg (qO s₁.heap H) callerA [] s₁ H :=
  { frames:=rfl,mod:=#[kb,ns hns,#[mb,ns hb,hbb],mc,ns l1,l2],bs:=λb o e=>ED e,NU:=by rw[wH];show ay _,sD:=trivial,Sj:=(λb z=>nomatch (show b∈([]:List Addr) from z)),hok:=hok,bare:=.of_eq hg }
 show codeAny_mono ((F _ kb (ns hns) bb).run callerA [] s₁ H #[[.ref a],[]] [.ref a] [.ref a] _ _ hr env (hbind s₁^.ref a) (.cons rfl .nil) CM) ?_;intro r s' h
 match r,h with
 | .error e,h=>show(Ws e s' h).elim
 | .ok .next,h=>show False.elim h
 | .ok .brk,h=>show False.elim h
 | .ok .cont,h=>show False.elim h
 | .ok (.ret u),⟨v,H',os,bare,un,Od,rv,q⟩ =>
  have q':v=.bl true:=q;subst q';have hu:u=Value.bool true:=rv;subst hu;show#[rfl,#[λb o e=>?_,λb o e=>un.there b o e (λz=>nomatch z)],os,bare];cases q:H b with
  | none=>show .inl^un.keep b o e q (λz=>nomatch z) (λz=>nomatch z)
  | some y =>
   have z:=hok b y q;rcases(S b y q).2 with⟨o',xs,rfl⟩|⟨rfl,ct⟩
   .have z2:=Od b _^un.v9 b o' _ q;have e1:o=o':=Option.some.inj^e.symm.trans z.1;subst e1;show .inl z2.1
   .let#[more,z1]:=un.yh b _ q;have z2:s'.heap.get? b=some _:=Od b _ z1;have e1:=Option.some.inj (e.symm.trans^show s₁.heap.get? b=some _ from z);subst e1;show .inr^.inl #[ct,rfl,#[],more,rfl,z2]
end
def HN{l:PySem.W.OpenLaw}{q:Program}{loose:List Str}{XP:(Str->Option Value)->Heap->Prop}{YP:World->Heap->Prop}{d:DefRec}{K:Params->aF}{sp:aF->Sp}{ts:List Addr}
  (hn:l.most=some n)(hn2:n<=sizeLine)(hdf:d.params.defaults=[])(hr:iZ k callerA)
  (hY:∀(w:World)(h:Heap),YP w h->(K w.params).In h)(hT:∀(w:World)(h:Heap),YP w h->∀b∈ts,h.get? b=some^PySem.W.tabObj #[]/\isCodeTable h b)(hTK:∀w:World,∀b∈ts,(K w.params).lookup b=none)
  (F:∀(w:World)(mg:Str->Option Value)(fa:Addr)(h:Heap),(K w.params).In h->h.Ns mainGlobals mg->mg d.name=some (.ref fa) ->
   ∃fd:FuncData,(∀(s:Shared)(u:Value),BindsTo s fd #[[u],[]] [(x,u)])/\∀base:Heap,(K w.params).In base->base.Ns mainGlobals mg->(∀b∈ts,base.BuiltinsAt mg b)->bQ l.prog w (K w.params) mg base gj k fa fd [x]^sp^K w.params)
  (CM:∀(K:aF)(H:Hp)(a:Addr)(ns:List Int),ns.length<=n->bB K H a^ns.map V.int->(∀b∈ts,H b=some^.qC #[])->sp K [.ref a] H (λv _=>v=.bl true) λ_ _ _=>False):
  PySem.W.WalkO q loose XP YP l.row.toRowW d [] (λf vs=>PySem.call f vs):=by
 show Att.rS hn hdf λw s₀ s₁ mg mb fa o pm cd doc a vs ns G Y ho hd hcd hmg hobj hints hlen hg=>?_;have KX:=hY w _ Y;have TT:=hT w _ Y;let#[fd,hbd,hF]:=F w mg fa _ KX G.T.g hmg;have hl:ns.length<=sizeLine:=bO hlen hn2;have na:a∉ts:=λz=>by have e:=hobj.symm.trans (TT a z).1;have e2:=congrArg Obj.cls^Option.some.inj e;cases e2
 let H:Hp:=λb=>if b∈ts then some^.qC #[] else if b=a/\(K w.params).lookup a=none then some (.zI { cls:=.type "list", data:=.seq vs.toArray } (.lst^ns.map V.int)) else none
 have hHt:∀b∈ts,H b=some^.qC #[]:=λb hb=>if_pos hb;have hHa:(K w.params).lookup a=none->H a=some (.zI { cls:=.type "list", data:=.seq vs.toArray } (.lst^ns.map V.int)):=λz=>(if_neg na).trans^if_pos #[rfl,z];have cs:∀b u,H b=some u->(b∈ts/\u=.qC #[])\/(b=a/\(K w.params).lookup a=none/\u=.zI { cls:=.type "list", data:=.seq vs.toArray } (.lst^ns.map V.int)):=λb u e=>by by_cases h1:b∈ts;show .inl #[h1,Option.some.inj^e.symm.trans^hHt b h1];have e1:H b=_:=if_neg h1;by_cases h2:b=a/\(K w.params).lookup a=none;show .inr #[h2.1,h2.2,Option.some.inj^e.symm.trans^e1.trans^if_pos h2];have:=e.symm.trans^e1.trans^if_neg h2;cases this
 have bt:∀b∈ts,s₁.heap.BuiltinsAt mg b:=λb hb=>by let#[bm,ob,b1,b2,b3,b4,b5,b6]:=G.T.bmain;show#[bm,ob,b1,b2,λz=>?_,λz=>?_,b3,b4,b5,b6];let#[o,es,ep,e,d,_]:=G.T.g;rw[z,e] at b3;cases b3;rw[d] at b6;cases b6;rw[z,(TT b hb).1] at b3;cases b3;cases b4
 show yN (H:=H) bt KX G.T.g G.T.b G.T.builtins G.T.nolimit hg ?_ ?_ hr hF hbd (CM _ H a ns hlen ?_ hHt) λe s' z=>z
 .intro b u e;rcases cs b u e with⟨h1,rfl⟩|⟨rfl,h2,rfl⟩;show#[hTK w b h1,.inr #[rfl,(TT b h1).2]];show#[h2,.inl #[_,_,rfl]]
 .intro b u e;rcases cs b u e with⟨h1,rfl⟩|⟨rfl,h2,rfl⟩;show(TT b h1).1;show#[hobj,by rw[aq];show hl,vs,_,nC hints,hobj]
 .cases hk:(K w.params).lookup a with
  | none=>show .inl^.inr #[_,hHa hk]
  | some oa =>
   have e:=Option.some.inj^(KX a oa hk).symm.trans hobj;subst e;show .inr #[_,vs.toArray,_,hk,rfl,rfl,rfl,by rw[aY,hints.length];show hl,by simpa using nC hints]
end L2
namespace MK
open PySem PySem.Spec PyProof.Rows PySem.W
noncomputable def pV(kf:Nat->Int):Nat->Nat
 | 0=>0
 | j+1=>if kf^pV kf j<kf (j+1) then j+1 else pV kf j
theorem LC(kf:Nat->Int):∀j,pV kf j<=j/\∀i,i<=j->kf i<=kf^pV kf j/\(i<pV kf j->kf i<kf^pV kf j)
 | 0=>by
  show#[ay _,λi hi=>?_];obtain rfl:i=0:=∅;show#[j3 _,λh=>absurd h^gK _]
 | j+1=>by let#[h1,h2]:=LC kf j;erw[pV];split;rename_i h;show#[ay _,λi hi=>?_];by_cases e:i=j+1;subst e;show#[j3 _,λh=>absurd h^gK _];have:=(h2 i ∅).1;show#[∅,λ_=>∅];rename_i h;show#[∅,λi hi=>?_];by_cases e:i=j+1;subst e;show#[∅,λz=>∅];show h2 i ∅
section
variable {S:Addr}{J:Shared->Prop}{kf:Nat->Int}
structure OY (J:Shared->Prop) (I S l:Addr) (vs:List Value):Prop where
 lst:∀s,J s->s.heap.IsList l vs.toArray
 chg:∀(s:Shared)(h':Heap)(tk:Nat),J s->(∀b o,b≠I->b≠S->s.heap.get? b=some o->h'.get? b=some o)->J { s with heap:=h',toks:=tk }
 lI:l≠I
 SI:S≠I
def Turn(prog:Program)(w:World)(A:Around)(q:Addr)(J:Shared->Prop)(I S:Addr)(vs:List Value)(kf:Nat->Int):Prop :=
 ∀i v s oI oS,vs[i]?=some v->J s->s.heap.get? I=some oI->s.heap.get? S=some oS->(∀u,oI.data≠.cell u)->(∀u,oS.data≠.cell u) ->
  wpAny (model prog w) A (call (.ref q) [v]) (λx s'=>(∃t,x=.int (kf i) t)/\J s'/\s'.heap.get? I=some oI/\s'.heap.get? S=some oS) (λ_ _=>False) s
theorem loop(hh:A.handled=none)(D:OY J I S l vs)(turn:Turn prog w A.in1 q J I S vs kf):
  ∀(k j:Nat)(s:Shared)(vb:Value)(tb:Tok)(c:Nat),vs.length-(j+1)=k->j+1<=vs.length->J s->s.heap.IsListIter I l (j+1)->vs[pV kf j]?=some vb ->
  s.heap.get? S=some { cls:=.type "list", dict:=none,data:=.seq #v[vb,.int (kf^pV kf j) tb] c,slots:=#[] } ->
  (∀v s',vs[pV kf (vs.length-1)]?=some v->J s'->R (.ok^.ret v) s') ->
  codeAny (model prog w) A (.builtin "max.loop" #[[.ref I,.ref q,.ref S],kw]) R s:=by
 have W:=Walks.list (prog:=prog) (w:=w) (A:=A.in1) hh I l D.lI vs.toArray;have hsz:vs.toArray.size=vs.length:=aY ..;have OT:S∉[I]:=λz=>D.SI^aA.mp z;intro k;induction k with
 | zero =>
  intro j s vb tb c hk hj hJ hit Ro hS hR;have hin:j+1=vs.length:=∅;show codeAny_builtin om ?_;rw[gY gp _];show(show wpAny _ A.in1 (seqItems? (.ref S) >>= _) _ _ s from au^wpAny_seqItems hS rfl ?_);show(show wpAny _ A.in1 (tryCatch (pyNext^.ref I) _ >>= _) _ _ s from au^wpAny_tryCatch (W.done s _ _ #[by rw[hsz,<- hin];show hit,D.lst s hJ] λh' tk hk'=>?_));have hS':=hk' S _ OT hS;show(show wpAny _ A.in1 (updateSeq S (λ_=>#[]) >>= _) _ _ _ from au^wpAny_updateSeq hS' rfl^au^wpAny_letGo^aN ?_);show hR vb _ (by rw[<- hin];show Ro)^D.chg s _ tk hJ (λb o h1 h2 e=>(jf _ _^bz h2).trans^hk' b o (λz=>h1^aA.mp z) e)
 | succ k ih =>
  intro j s vb tb c hk hj hJ hit Ro hS hR;have hlt:j+1<vs.length:=∅;show codeAny_builtin om ?_;rw[gY gp _];show(show wpAny _ A.in1 (seqItems? (.ref S) >>= _) _ _ s from au^wpAny_seqItems hS rfl ?_);show(show wpAny _ A.in1 (tryCatch (pyNext^.ref I) _ >>= _) _ _ s from au^wpAny_tryCatch (W.item (j+1) s _ _ (by rw[hsz];show hlt) #[hit,D.lst s hJ] λv h' tk hP uW hk'=>?_));have hv:vs[j+1]?=some v:=by simpa using hP
  let#[oI,hoI,hoc,hod]:=id uW.1;have hS':=hk' S _ OT hS;have J1:=D.chg s h' tk hJ (λb o h1 _ e=>hk' b o (λz=>h1^aA.mp z) e);show(show wpAny _ A.in1 (tryCatch (holding [v]^call (.ref q) [v]) _ >>= _) _ _ _ from au^wpAny_tryCatch^wpAny_holding (wpAny_mono (turn (j+1) v _ oI _ hv J1 hoI hS' (λu z=>by rw[hod] at z;cases z) (λu z=>by cases z)) (λx s2 he=>?_) λ_ _ z=>z.elim));let#[#[t2,rfl],J2,ZQ,Hr]:=he;have acf:s2.heap.IsListIter I l (j+1+1):=#[oI,ZQ,hoc,hod];show(show wpAny _ A.in1 (tryCatch (holding [v,.int (kf (j+1)) t2] (richCompare .Gt (.int (kf (j+1)) t2) (.int (kf^pV kf j) tb) >>= _)) _ >>= _) _ _ _ from
   au^wpAny_tryCatch^wpAny_holding^au^CmpOf.ints_gt (prog:=prog) (w:=w) (A:=A.in1) (P:=λi v=>∃t,v=.int (kf i) t) kf (λi v h=>h) (j+1) (pV kf j) _ _ _ _ _ #[t2,rfl] #[tb,rfl] ?_)
  show au^wpAny_holding^wpAny_truthy_bool ?_;show au^wpAny_letGo^aN ?_;by_cases hb:kf (j+1)>kf^pV kf j
  .have eb:pV kf (j+1)=j+1:=by erw[pV];rw[if_pos hb]
   obtain⟨c2,hc2⟩:∃c2,(s2.heap.update S (Obj.mapSeq λ_=>#v[v,.int (kf (j+1)) t2])).get? S=some { cls:=.type "list", dict:=none,data:=.seq #v[v,.int (kf (j+1)) t2] c2,slots:=#[] }:=#[_,get?_update_seq Hr λ_=>#v[v,.int (kf (j+1)) t2]];have hI3:=(jf s2.heap (Obj.mapSeq λ_=>#v[v,.int (kf (j+1)) t2]) D.SI).trans ZQ;erw[hb,decide_true,if_true];show au^wpAny_updateSeq Hr rfl^au^wpAny_letGo ?_;rw[MX.nm];show aN #[plainId_quiet gp _,ih (j+1) _ v t2 c2 ∅ hlt ?_ #[oI,hI3,hoc,hod] (by rw[eb];show hv) (by rw[eb];show hc2) hR];show D.chg s2 _ s2.toks J2 (λb o _ h2 e=>(jf _ _^bz h2).trans e)
  .have eb:pV kf (j+1)=pV kf j:=by erw[pV];rw[if_neg hb]
   erw[hb,decide_false,bW,if_false];show au^wpAny_letGo ?_;rw[MX.nm];show aN #[plainId_quiet gp _,ih (j+1) _ vb tb c ∅ hlt J2 acf (by rw[eb];show Ro) (by rw[eb];show Hr) hR]
def first(hh:A.handled=none)(D:OY J I S l vs)(turn:Turn prog w A.in1 q J I S vs kf)(hn:0<vs.length){c:Nat}(hJ:J s)(hit:s.heap.IsListIter I l 0)
  (hS:s.heap.get? S=some { cls:=.type "list", dict:=none,data:=.seq #[] c,slots:=#[] })(hR:∀v s',vs[pV kf (vs.length-1)]?=some v->J s'->R (.ok^.ret v) s'):
  codeAny (model prog w) A (.builtin "max.loop" #[[.ref I,.ref q,.ref S],kw]) R s:=by
 have W:=Walks.list (prog:=prog) (w:=w) (A:=A.in1) hh I l D.lI vs.toArray;have hsz:vs.toArray.size=vs.length:=aY ..;have OT:S∉[I]:=λz=>D.SI^aA.mp z;show codeAny_builtin om ?_;rw[gY gp _];show(show wpAny _ A.in1 (seqItems? (.ref S) >>= _) _ _ s from au^wpAny_seqItems hS rfl ?_);show(show wpAny _ A.in1 (tryCatch (pyNext^.ref I) _ >>= _) _ _ s from au^wpAny_tryCatch (W.item 0 s _ _ (by rw[hsz];show hn) #[hit,D.lst s hJ] λv h' tk hP uW hk'=>?_));have hv:vs[0]?=some v:=by simpa using hP
 let#[oI,hoI,hoc,hod]:=id uW.1;have hS':=hk' S _ OT hS;have J1:=D.chg s h' tk hJ (λb o h1 _ e=>hk' b o (λz=>h1^aA.mp z) e);show(show wpAny _ A.in1 (tryCatch (holding [v]^call (.ref q) [v]) _ >>= _) _ _ _ from au^wpAny_tryCatch^wpAny_holding (wpAny_mono (turn 0 v _ oI _ hv J1 hoI hS' (λu z=>by rw[hod] at z;cases z) (λu z=>by cases z)) (λx s2 he=>?_) λ_ _ z=>z.elim));let#[#[t2,rfl],J2,ZQ,Hr]:=he;obtain⟨c2,hc2⟩:∃c2,(s2.heap.update S (Obj.mapSeq λ_=>#v[v,.int (kf 0) t2])).get? S=some { cls:=.type "list", dict:=none,data:=.seq #v[v,.int (kf 0) t2] c2,slots:=#[] }:=#[_,get?_update_seq Hr λ_=>#v[v,.int (kf 0) t2]];have hI3:=(jf s2.heap (Obj.mapSeq λ_=>#v[v,.int (kf 0) t2]) D.SI).trans ZQ;show(show wpAny _ A.in1 (updateSeq S (λ_=>#v[v,.int (kf 0) t2]) >>= _) _ _ _ from au^wpAny_updateSeq Hr rfl ?_);rw[MX.nm];show aN #[plainId_quiet gp _,loop hh D turn _ 0 _ v t2 c2 rfl hn (D.chg s2 _ s2.toks J2 (λb o _ h2 e=>(jf _ _^bz h2).trans e)) #[oI,hI3,hoc,hod] hv hc2 hR]
def HP{Q:Value->Shared->Prop}(hh:A.handled=none)(hls:s.heap.IsList l vs.toArray)(hn:0<vs.length)
  (D:OY J s.heap.objs.size (s.heap.objs.size+1) l vs)(turn:Turn prog w A.in1 q J s.heap.objs.size (s.heap.objs.size+1) vs kf)
  (hJ:∀h',(∀b o,s.heap.get? b=some o->h'.get? b=some o)->J { s with heap:=h' })(hQ:∀v s',vs[pV kf (vs.length-1)]?=some v->J s'->Q v s'):
  wpAny (model prog w) A (call (.builtin "max") [.ref l] [("key", .ref q)]) Q E s:=by show MX.FE F.kind_max F.plain_max F.entry_max (kmk_max_key _ _) ?_;show(show wpAny _ A.in1 (Builtin.Builtins.bindParams "max" ["key", "default"] 0 #[[],[("key", .ref q)]] >>= _) _ _ s from ?_);show au^wpAny_of_eq (show Builtin.Builtins.bindParams "max" ["key", "default"] 0 #[[],[("key", .ref q)]]=pure [some^.ref q,none] by first|rfl|kernel_rfl) ?_;show au^aN^au^wpAny_pyIter_list hls ?_;show au^wpAny_newList ?_^aI _;rw[MX.nm];have e1:(s.heap.push { cls:=.type "list_iterator", data:=.fields #v[.ref l,.int 0 0] }).objs.size=s.heap.objs.size+1:=iJ ..;rw[e1];show aN #[plainId_quiet gp _,first hh D turn hn (hJ _ λb o e=>dH _^dH _ e) #[_,dH _^iX _ rfl,rfl,rfl] (c:=0) ?_ λv s' hv j=>hQ v s' hv j];have:=iX (o:=seqObj "list" #[] 0) (s.heap.push { cls:=.type "list_iterator", data:=.fields #v[.ref l,.int 0 0] }) rfl;rw[e1] at this;show this
end
end MK
namespace L2
variable {p:Addr}{o:Obj}{y:Str}{params:Arguments}{body:Expr}
section
variable {σ:St}
def Inv.change{tk:Nat}(J:Inv X u5 σ H s)(f1:gU X u5 H a)(f2:gU X u5 H b)(k:∀c o,c≠a->c≠b->s.heap.get? c=some o->h'.get? c=some o):
  Inv X u5 σ H { s with heap:=h',toks:=tk }:=by
 have fp:∀c∈[a,b],gU X u5 H c:=λc hc=>by rcases aH.mp hc with e|hc;rw[e];show f1;rw[aA.mp hc];show f2
 have kp:∀c o,c∉[a,b]->s.heap.get? c=some o->h'.get? c=some o:=λc o hc e=>k c o (λz=>hc^by simp[z]) (λz=>hc^by simp[z]) e;have tr:∀c u,H c=some u->c∉[a,b]:=λc u e hc=>by rw[(fp c hc).1] at e;cases e
 have hok:lX X.prog X.w H h':=λc u e=>(J.hok c u e).stay (λd v hd q=>kp d v (by
  rcases hd with rfl|hd;show tr _ _ e
  .show tr _ _ hd) q) (λ_ q=>q) λ_ _ q=>q
 show J.step (H':=H) (h':=h') (g':=s.gens) (t':=tk) (d':=s.drawn) (ch:=[a,b]) (λc hc=>?_) (λc o _ _ hc e _=>kp c o hc e) (λc o _ _ hc e _=>#[o.slots,kp c o hc e]) (λc o _ e n=>n)
  (λc o hc e=>#[o,kp c o hc e]) (λ_ _ e=>e) (λ_ _ _ e=>e) (λ_ ps e=>#[#[],by rw[e];simp]) (λm hm=>?_) hok J.bare
 .let#[_,g2,g3,g4,g5,g6]:=fp c hc;show#[g4,g2,g5,g6]
 .let#[o,es,ep,e,r]:=hm;show#[o,es,ep,kp _ _ (λz=>(fp _ z).2.1 rfl) e,r]
def Inv.Xk(J:Inv X u5 σ H s)(f:gU X u5 H b)(e:s.heap.get? b=some o)(nc:∀u,o.data≠.cell u):Inv X ((b,o)::u5) σ H s :=
 #[J.ok,J.os,J.bare,J.base,J.loc,J.cell,J.free,J.jW,λp hp=>by
   rcases aP.mp hp with h|h;show J.pin p^kU _ h
   .rcases aH.mp h with rfl|h;show#[e,f.1,f.2.1,f.2.2.1,nc]
    .show J.pin p^dZ _ h,J.hok,J.len]
def Inv.DU{p:Addr×Obj}(J:Inv X (p::u5) σ H s):Inv X u5 σ H s :=
 #[J.ok,J.os,J.bare,J.base,J.loc,J.cell,J.free,J.jW,λq hq=>J.pin q (by
   rcases aP.mp hq with h|h;show kU _ h
   .show dZ _^cX _ h),J.hok,J.len]
def Inv.FG{p:Addr×Obj}(J:Inv X (p::u5) σ H s):s.heap.get? p.1=some p.2:=(J.pin p^dZ _^.head _).1
def LD(f1:gU X u5 H a)(f2:gU X u5 H b)(hl:∀s,Inv X u5 σ H s->s.heap.IsList l vs.toArray)(h1:l≠a)(h2:b≠a):MK.OY (Inv X u5 σ H) a b l vs :=
 #[hl,λs h' tk J k=>J.change f1 f2 k,h1,h2]
def LF{l:Addr}{kf:Nat->Int}(f1:gU X u5 H a)(f2:gU X u5 H b)(h2:b≠a)
  (h:∀i v s u5,vs[i]?=some v->Inv X u5 σ H s->wpAny (model X.prog X.w) A (call (.ref q) [v]) (λx s'=>(∃t,x=.int (kf i) t)/\Inv X u5 σ H s') (λ_ _=>False) s):
  MK.Turn X.prog X.w A q (Inv X u5 σ H) a b vs kf:=by
 intro i v s oI oS hv J e1 e2 n1 n2;have J1:=J.Xk f1 e1 n1;have f2':gU X ((a,oI)::u5) H b:=#[f2.1,f2.2.1,f2.2.2.1,f2.2.2.2.1,f2.2.2.2.2.1,λp hp=>by
  rcases aP.mp hp with z|z;show f2.2.2.2.2.2 p^kU _ z
  .rcases aH.mp z with rfl|z;show bz h2
   .show f2.2.2.2.2.2 p^dZ _ z]
 have J2:=J1.Xk f2' e2 n2;show wpAny_mono (h i v s _ hv J2) (λx s' hx=>#[hx.1,hx.2.DU.DU,hx.2.DU.FG,hx.2.FG]) λ_ _ z=>z
end
open PySem.W
noncomputable def VF(X:Cx)(N:List Str)(env:Env)(s:Shared)(H:Hp):Cx where
 prog:=X.prog
 w:=X.w
 K:=X.K
 mg:=X.mg
 base:=X.base
 A:=X.A.in1.deeper env
 N:=N
 s₀:=s
 H₀:=H
 env:=env
 outer:=X.stack
 stack:=env::X.stack
 ex:=[]
 fn:=λ_=>false
 calm:=true
 pn:=[]
 xe:=λe s'=>wpAny (model X.prog X.w) (X.A.in1.deeper env) (leaving env e) (λ_ _=>False) (λ_ _=>False) s'
structure uX (X:Cx) (scope:Scope) (cl:List (Str×Addr)) (y:Str) (fr:List Str) (ix:List Nat):Prop where
 calm:X.calm=true
 cell:∀z∈scope.names,z.2≠.cell
 kind:scope.kind=.function
 co:scope.isCoroutine=false
 gen:scope.isGenerator=false
 loc:scope.names.lookup y=some .local
 Kh:∀z c,cl.lookup z=some c->X.env.cells.lookup z=some c
 Oe:∀z,(scope.names.lookup z=some .cell\/scope.names.lookup z=some .free)->∃c,cl.lookup z=some c
 fx:∀(j:Nat) z,fr[j]?=some z->∃i:Nat,ix[j]?=some i/\X.N[i]?=some z/\(X.env.kindOf z=some .cell\/X.env.kindOf z=some .free)/\scope.names.lookup z=some .free
 len:fr.length=ix.length
section
variable {σ:St}
def LG{ctv:Value}{c':Addr}
  (O:uX X scope cl y fr ix)(hr:X.A.in1.depth<recursionLimit)(hbind:∀z:Value,bindArgs (kla_fn name qual params body scope cl pm (.ref c') ctv) #[[z],[]]=pure [(y,z)])
  (he:∀L s H,PE (VF X (y::fr) (envX qual scope L q (.ref c') cl) s H) body te)(I:Inv X u5 σ H s)
  (hq:s.heap.get? q=some^kla_obj name qual params body scope cl pm c' ctv)(hc:s.heap.CodeRec (.ref c') qual)(r:RelV v u)(h:te (some v::cut ix σ) H Q):
  wpAny (model X.prog X.w) X.A.in1 (call (.ref q) [u]) (EP X u5 σ Q) (λ_ _=>False) s:=by
 show wpAny_call^kla_callFunE hr hq rfl O.co O.gen rfl hc ?_;show wpAny_of_eq (hbind u) ?_;show wpAny_newFunctionEnv O.cell (λz hz=>?_) (λh₁ hns Ju=>?_) O.kind;rw[aA.mp hz];show O.loc;have old:∀b o,s.heap.get? b=some o->h₁.get? b=some o:=λb o e=>Ju.extBut b o (aT^aK e)^dH _ e;have Kl:∀b∈frs X.stack,b∈X.env.locals::X.fs:=I.yj;have ok:(VF X (y::fr) (envX qual scope s.heap.objs.size q (.ref c') cl) s H).Ok:=by
  show#[I.ok.mod,O.kind,rfl,rfl,ay _,λa b c h1 h2=>I.ok.inj a b c (O.Kh a c h1)^O.Kh b c h2,λa ha=>O.Oe a ha,λa c z _=>absurd z kq,λ_=>I.ok.hd O.calm,Around.frames_deeper I.ok.frames,.inr #[rfl,rfl],
   (λb z=>nomatch z),I.bs,bO I.ok.NU I.sz,(λb o _ z=>nomatch z),(λb z=>nomatch z),I.stack,I.yk]
 have J:Inv (VF X (y::fr) (envX qual scope s.heap.objs.size q (.ref c') cl) s H) [] (some v::cut ix σ) H { s with heap:=h₁,toks:=s.toks+[(y,u)].length }:=by
  show#[ok,rfl,I.bare,Un.kept old,#[_,hns,λi z x h1 h2 h3=>?_],λz c e=>?_,I.hok.fresh^ay _,λz c e=>I.jW z c^O.Kh z c e,(λp hp=>nomatch hp),I.hok.kept old,?_]
  .cases i with
   | zero =>
    have h1:some y=some z:=h1;have h2:some^some v=some^some x:=h2;obtain rfl:=Option.some.inj h1;obtain rfl:=Option.some.inj^Option.some.inj h2;show#[u,r,.inl #[O.loc,?_]];simp[List.lookup]
   | succ j =>
    have h1:fr[j]?=some z:=h1;have h2:(cut ix σ)[j]?=some^some x:=h2;let#[i,e1,e2,k,kc]:=O.fx j z h1;let#[c,e3]:=O.Oe z^.inr kc;have e4:σ[i]?=some^some x:=by
     unfold cut at h2;rw[aW,e1] at h2;have h2:some ((σ[i]?).join)=some^some x:=h2;have h2:=Option.some.inj h2;cases w:σ[i]? with
     | none=>rw[w] at h2;cases h2
     | some t=>rw[w] at h2;show congrArg some h2
    let#[m,_,hl]:=I.loc;let#[u',r',l]:=hl i z x e2 e4 (k.elim (λt=>.inr^.inl t) λt=>.inr^.inr t);show#[u',r',.inr #[.inr kc,c,e3,?_]];rcases l with⟨l1,_⟩|⟨_,c2,l2,l3⟩;rcases k with k|k<;>(rw[k] at l1;cases l1);have e5:=O.Kh z c e3;rw[l2] at e5;cases e5;let#[o,ho,hd]:=l3;show#[o,old _ _ ho,hd]
  .let#[x,o,ho,hd]:=I.cell z c^O.Kh z c e;show#[x,o,old _ _ ho,hd]
  .change(some v::cut ix σ).length=(y::fr).length;unfold cut;simp[O.len]
 show#[?_,kla_codeExpr (wpAny_mono (he _ s H [] _ _ H Q J h) (λx s' hx=>?_) λe s' hx=>hx)];let#[mc,#[o,es,ep,e,z],l2]:=I.ok.mod.nolimit;show#[mc,#[o,es,ep,old _ _ (I.bs _ _ e).1,z],l2];let#[v2,H2,J2,r2,q2]:=hx;show#[v2,H2,I.QB (ch:=[]) J2.os J2.base J2.hok J2.bare (λb z=>nomatch z),r2,q2]
end
def lP(c:Addr)(qual:Str):HO:=.ext λh=>h.CodeRec (.ref c) qual
def rA(q:Addr)(o:Obj):HO:=.ext λh=>h.get? q=some o
section
variable {σ:St}
def LH{G:Hp}{c:Addr}(x:h.CodeRec (.ref c) qual):dg P w G h c^lP c qual:=by show#[x,?_,λh1 h2 y k=>?_];let#[c2,oc,vs,t,e,hoc,_]:=x;cases e;show#[oc,hoc];let#[c2,oc,vs,t,e,hoc,hr]:=y;cases e;show#[c,oc,vs,t,rfl,k _ hoc,hr]
def FH{G:Hp}(x:h.get? q=some o):dg P w G h q^rA q o:=#[x,#[o,x],λ_ _ y k=>k _ y]
def Inv.grow{c:Addr}{ps more:Array Value}{tk:Nat}(I:Inv X u5 σ H s)(hP:H p=some^.qC ps)(x:Heap.ExtBut p s.heap h')(hge:s.heap.objs.size<=c)(hlt:c<h'.objs.size)
  (hrec:h'.CodeRec (.ref c) qual)(htb:h'.get? p=some^tabObj (ps++more))(hf:o.isFreed=false):
  Inv X u5 σ (upd (upd (upd H p^.qC (ps++more)) c^lP c qual) h'.objs.size^rA h'.objs.size o) { s with heap:=h'.push o,toks:=tk }:=by
 have tr:∀b u,H b=some u->b<s.heap.objs.size:=λb u e=>I.hok.lt e;have ne1:∀b,b<s.heap.objs.size->b≠c/\b≠h'.objs.size:=λb hb=>#[aT^bX hb hge,aT^Nat.lt_trans (bX hb hge) hlt];have at_:∀b,b<s.heap.objs.size->b≠p->upd (upd (upd H p^.qC (ps++more)) c^lP c qual) h'.objs.size (rA h'.objs.size o) b=H b:=λb hb hn=>by rw[bH (ne1 b hb).2,bH (ne1 b hb).1,bH hn]
 have ZR:upd (upd (upd H p^.qC (ps++more)) c^lP c qual) h'.objs.size (rA h'.objs.size o) p=some^.qC (ps++more):=by rw[bH (ne1 p^tr p _ hP).2,bH (ne1 p^tr p _ hP).1,eT]
 have ZS:∀b,H b=none->b≠p:=λb n z=>by rw[z,hP] at n;cases n
 have kp:∀b ob,b≠p->s.heap.get? b=some ob->(h'.push o).get? b=some ob:=λb ob hn e=>dH _^x b ob hn e;have hok:lX X.prog X.w (upd (upd (upd H p^.qC (ps++more)) c^lP c qual) h'.objs.size^rA h'.objs.size o)^h'.push o:=λb u e=>by by_cases h1:b=h'.objs.size;subst h1;rw[eT] at e;cases e;show FH^iX _ hf;rw[bH h1] at e;by_cases h2:b=c;subst h2;rw[eT] at e;cases e;let#[c2,oc,vs,t,e2,hoc,hr]:=hrec;cases e2;show LH #[b,oc,vs,t,rfl,dH _ hoc,hr];rw[bH h2] at e;by_cases h3:b=p;subst h3;rw[eT] at e;cases e;show dH _ htb;rw[bH h3] at e;show(I.hok b u e).stay (λd v hd q=>kp d v ?_ q) (λd q=>?_) λd xs q=>?_;rcases hd with rfl|hd;show h3;rintro rfl;rw[hP] at hd;cases hd;rw[at_ d (tr d _ q) (by rintro rfl;rw[hP] at q;cases q)];show q;rw[at_ d (tr d _ q) (by rintro rfl;rw[hP] at q;cases q)];show q
 show I.step (h':=h'.push o) (g':=s.gens) (t':=tk) (d':=s.drawn) (ch:=[]) (λb z=>nomatch z) (λb ob _ _ _ e n=>kp b ob (ZS b n) e) (λb ob _ _ _ e n=>#[ob.slots,kp b ob (ZS b n) e]) (λb ob _ e n=>?_) (λb ob _ e=>?_)
  (λb xs e=>?_) (λb ob u e=>?_) (λb qs e=>?_) (λm hm=>?_) hok I.bare
 .rw[at_ b (aK e)^ZS b n];show n
 .by_cases hb:b=p;subst hb;show#[_,dH _ htb];show#[ob,kp b ob hb e]
 .rw[at_ b (tr b _ e) (by rintro rfl;rw[hP] at e;cases e)];show e
 .rw[at_ b (tr b _ e) (by rintro rfl;rw[hP] at e;cases e)];show e
 .by_cases hb:b=p;subst hb;rw[hP] at e;cases e;show#[more,ZR];show#[#[],by rw[at_ b (tr b _ e) hb,e];simp]
 .let#[ob,es,ep,e,r]:=hm;show#[ob,es,ep,kp _ _ (ZS _ I.free) e,r]
def Ud(p:Addr)(qual:Str)(pos:Pos)(mk:Addr->Value->Obj):TE:=λ_ H Q =>
 (H p=some^.qC #[]/\∀c q ctv,H c=none->H q=none->c≠q->Q (.ref q)^upd (upd (upd H p (.qC #v[rawInt pos.line,rawInt pos.col,.ref c])) c^lP c qual) q^rA q^mk c ctv) \/
 (∃c,H p=some (.qC #v[rawInt pos.line,rawInt pos.col,.ref c])/\∀q ctv,H q=none->Q (.ref q)^upd H q^rA q^mk c ctv)
def Ue{cc:Addr}{clos:List (Str×Addr)}(hcd:X.env.code=.ref cc)(ch:codeHdIn X.K cc p=true)(Rq:X.base.BuiltinsAt X.mg p)
  (hcl:closureFor scope X.env=pure clos)(hdef:defaultsOf params X.env=([],[])):
  PE X (.Lambda params body scope pos) (Ud p (X.env.qual ++ "<lambda>") pos λc ctv=>kla_obj "<lambda>" (X.env.qual ++ "<lambda>") params body scope clos ((X.mg "__name__").getD .none) c ctv):=by
 intro u5 s σ H Q I h;have bk:∀b o,X.base.get? b=some o->s.heap.get? b=some o:=λb o e=>(I.bs b o e).1;have hg:s.heap.Ns mainGlobals X.mg:=by let#[o,es,ep,e,z]:=I.ok.mod.glob;show#[o,es,ep,bk _ _ e,z]
 have C:CodeHd X.base cc p:=codeHd_of_K I.ok.mod.Vy ch;have hb:s.heap.BuiltinsAt X.mg p:=by let#[bm,o,h1,h2,h3,h4,h5,h6]:=Rq;show#[bm,o,h1,h2,h3,h4,bk _ _ h5,h6]
 show kla_eval hdef ?_;rcases h with⟨hP,q⟩|⟨c,hP,q⟩
 .have hp:s.heap.get? p=some^tabObj #[]:=I.hok p _ hP;have ng:mainGlobals≠p:=λz=>by let#[o,es,ep,e,d,_]:=hg;rw[z,hp] at e;cases e;cases d
  show kla_makeFunction hcl I.ok.glob hg hcd (C.keeps bk) hp trivial rfl ng hb λc' ctv h' tk hx hge hlt hrec htb=>?_;have I2:=I.grow (more:=#v[rawInt pos.line,rawInt pos.col,.ref c']) (tk:=tk) (o:=kla_obj "<lambda>" (X.env.qual ++ "<lambda>") params body scope clos ((X.mg "__name__").getD .none) c' ctv) hP hx hge hlt hrec htb rfl;show#[.ref h'.objs.size,_,I2,rfl,q c' h'.objs.size ctv (I.hok.fresh hge) (I.hok.fresh^jE^Nat.lt_of_le_of_lt hge hlt)^aT hlt]
 .have hp:s.heap.get? p=some (tabObj #v[rawInt pos.line,rawInt pos.col,.ref c]):=I.hok p _ hP;show kla_makeFunctionHit hcl I.ok.glob hg hcd (C.keeps bk) hp (by simp[TriplesOk,rawInt]) (cv:=.ref c) (by simp[codeAmong,rawInt]) hb λctv h' tk hk hsz=>?_;show#[.ref h'.objs.size,_,I.laid (o:=rA h'.objs.size^kla_obj "<lambda>" (X.env.qual ++ "<lambda>") params body scope clos ((X.mg "__name__").getD .none) c ctv) (λb u e=>dH _^hk b u e) hsz^FH^iX _ rfl,rfl,q h'.objs.size ctv^I.hok.fresh hsz]
end
theorem AS:∀{as:List Addr}{us:List Value},Vals (as.map V.ref) us->us=as.map Value.ref
 | [],_,.nil=>rfl
 | a::as,_,.cons r t=>by have r:_=Value.ref a:=r;rw[r,AS t];rfl
def LI(K:aF)(qual:Str)(mk:Addr->Value->Obj)(te:TE)(ix:List Nat)(σ:St)(vs:List V)(y:V)(H:Hp)(Q:VK):Prop :=
 ∃(l:Addr)(as:List Addr)(q c:Addr)(ctv:Value)(kf:Nat->Int),vs=[.ref l]/\y=.ref q/\bB K H l^as.map V.ref/\H q=some^rA q^mk c ctv/\H c=some^lP c qual/\0<as.length /\
  (∀i a,as[i]?=some a->te (some^.ref a::cut ix σ) H λr H'=>r=.int^kf i/\H'=H)/\∀a,as[MK.pV kf (as.length-1)]?=some a->Q (.ref a) H
def LJ(K:aF)(qual:Str)(mk:Addr->Value->Obj)(te:TE)(ix:List Nat)(t:TA)(tl:TE):TE:=λσ H Q=>t σ H λvs H1=>tl σ H1 λy H2=>LI K qual mk te ix σ vs y H2 Q
section
variable {lam:Expr}{p:Pos}{t:TA}{σ:St}
def OZ{vs:List V}{z:V}{d:Value}
  (O:uX X scope cl y fr ix)(hr:X.A.in1.depth<recursionLimit)(hbind:∀(c':Addr)(ctv z:Value),bindArgs (kla_fn name qual params body scope cl pm (.ref c') ctv) #[[z],[]]=pure [(y,z)])
  (he:∀q c' L s H,PE (VF X (y::fr) (envX qual scope L q (.ref c') cl) s H) body te)(I:Inv X u5 σ H s)(r:Vals vs us)(rz:RelV z d)
  (h:LI X.K qual (λc ctv=>kla_obj name qual params body scope cl pm c ctv) te ix σ vs z H Q):
  wpAny (model X.prog X.w) X.A (call (.builtin "max") us [("key", d)]) (λu s'=>∃x H',Inv X u5 σ H' s'/\RelV x u/\Q x H') E s:=by
 let#[l,as,q,c,ctv,kf,rfl,rfl,hS,hq,hc,hn,hk,hQ]:=h;let#[u,rfl,ru]:=vals1 r;cases ru;have rz:d=Value.ref q:=rz;subst rz;have hl:∀u5 s,Inv X u5 σ H s->s.heap.IsList l (as.map Value.ref).toArray:=λu5 s J=>by let#[its,rv,pl,_]:=J.list hS;rw[AS rv] at pl;show pl.isList
 have hls:=hl u5 s I;have hlt:l<s.heap.objs.size:=by let#[o,ho,_]:=id hls;show aK ho
 have f1:gU X u5 H s.heap.objs.size:=I.oF (ay _)^I.hok.fresh^ay _;have f2:gU X u5 H (s.heap.objs.size+1):=I.oF (Nat.le_succ _)^I.hok.fresh^Nat.le_succ _;have n2:s.heap.objs.size+1≠s.heap.objs.size:=Nat.succ_ne_self _;have at_:∀i v,(as.map Value.ref)[i]?=some v->∃a,as[i]?=some a/\v=Value.ref a:=λi(v:Value) hv=>by rw[aW] at hv;let#[a,ha,rfl]:=cE.mp hv;show#[a,ha,rfl]
 show MK.HP (J:=Inv X u5 σ H) (kf:=kf) (I.ok.hd O.calm) hls (by rw[aq];show hn) (LD f1 f2 (hl u5) (aT hlt) n2) (LF (l:=l) f1 f2 n2 λi v s' JB hv J=>?_) (λh' kp=>I.kept kp) λv s' hv J=>?_;let#[a,ha,rfl]:=at_ i v hv;show wpAny_mono (LG (Q:=λr H'=>r=.int^kf i/\H'=H) O hr (hbind c ctv) (λL s H=>he q c L s H) J (J.hok q _ hq).1 (J.hok c _ hc).1 (show RelV (.ref a)^.ref a from rfl)^hk i a ha) (λx s2 hx=>?_) λ_ _ f=>f;let#[v2,H2,J2,r2,rfl,rfl]:=hx;show#[r2,J2];let#[a,ha,rfl]:=at_ _ v hv;rw[aq] at ha;show#[.ref a,H,J,rfl,hQ a ha]
def O0(O:uX X scope cl y fr ix)(hr:X.A.in1.depth<recursionLimit)
  (hbind:∀(c':Addr)(ctv z:Value),bindArgs (kla_fn name qual params body scope cl pm (.ref c') ctv) #[[z],[]]=pure [(y,z)])(he:∀q c' L s H,PE (VF X (y::fr) (envX qual scope L q (.ref c') cl) s H) body te)
  (hg:Gl X "max")(hm:X.mg "max" = none)(ha:PA X [e] t)(hv:PE X lam tl)(hb:backTo pos^starEach [e] X.env=(false,eval e X.env)::backTo pos^starEach [] X.env:=by rfl)
  (hpl:(backTo pos^starEach [e] X.env).any (·.1)=false:=by rfl)(hal:(backToKw pos^keywordEach [#[some "key", lam,kp]] X.env).all (·.1.isSome)=true:=by rfl)(hkw:(backToKw pos^keywordEach [#[some "key", lam,kp]] X.env).any (·.1.isNone)=false:=by rfl)
  (hfm:(backToKw pos^keywordEach [#[some "key", lam,kp]] X.env).filterMap (·.1)=[("key" : Str)]:=by rfl):
  PE X (.Call (.Name "max" p) [e] [#[some "key", lam,kp]] pos)^LJ X.K qual (λc ctv=>kla_obj name qual params body scope cl pm c ctv) te ix t tl:=by intro u5 s σ H Q I h;show wpAny_Call_Name_kw^jF I hg hm BT.KL ?_;show callWith_kw (kws:=[#[some "key", lam,kp]]) ?_ hb hpl hal hkw;show c7 (ha pos u5 s σ H _ I h) λus s1 zq=>?_;let#[vs,H1,I1,r1,q1]:=zq;show kws_cons (c7 (hv u5 s1 σ H1 _ I1 q1) λd s2 zq=>?_);let#[z,H2,I2,rz,q2]:=zq;show kws_nil ?_;rw[hfm];show OZ O hr hbind he I2 r1 rz q2
end
theorem uX.caps{nm:List Str}(calm:X.calm=true)(cell:∀y∈scope.names,y.2≠.cell)(kind:scope.kind=.function)(co:scope.isCoroutine=false)(gen:scope.isGenerator=false)
  (loc:scope.names.lookup x=some .local)(hcl:wg (λp=>X.env.cells.lookup p.1=some p.2) cl)(hnm:cl.map (·.1)=nm)(hfree:∀z∈scope.names,z.2=.free->z.1∈nm)(hlen:fr.length=ix.length)
  (hfx:wg (λp=>X.N[p.2]?=some p.1/\X.env.kindOf p.1=some .cell/\scope.names.lookup p.1=some .free)^fr.zip ix):uX X scope cl x fr ix:=by
 show#[calm,cell,kind,co,gen,loc,λy c h=>hcl.mem (y,c)^g8 h,λy h=>?_,λj z hz=>?_,hlen]
 .have hy:(y,NameKind.free)∈scope.names:=by rcases h with h|h;show absurd rfl^cell _^g8 h;show g8 h
  have hm:=hfree _ hy rfl;rw[<- hnm] at hm;let#[p,hp,e]:=aD.mp hm;cases q:cl.lookup y with
  | some c=>show#[c,rfl]
  | none =>
   have z:=List.lookup_eq_none_iff.mp q p hp;have e:p.1=y:=e;rw[e] at z;simp at z
 .have hj:j<fr.length:=(eX hz).1;have hi:ix[j]?=some (ix[j]'∅):=dJ ∅;have hm:(z,ix[j]'∅)∈fr.zip ix:=by show fM.mpr #[j,?_];rw[oz];show#[hz,hi]
  let#[h1,h2,h3]:=hfx.mem _ hm;show#[_,hi,h1,.inl h2,h3]
def QW.okC{N ps:List Str}(F:QW K x qual st f fd)(S:aG N ps^aB st)(len:∀vs H Q E,sp vs H Q E->vs.length=ps.length)
  (hbody:∀(A:Around)(outer:List Env)(s:Shared)(H:Hp)(vs:List V)(Q:VK)(E:XK),iZ k^A.deeper^envOfC qual (aB st) s.heap.objs.size f fd.code->sp vs H Q E ->
   ∃t,wI (zU gj P w K mg base N qual (aB st) f fd.code A outer s H E).Sm (jr st) t/\t { nx:=λ_ H'=>Q .dD H',rt:=Q } (start N vs) H):bQ P w K mg base gj (k+1) f fd ps sp:=by let#[oc,od,kV,doc,pm,an,cdv,ct,osl,rfl,lk,hcd]:=F.ex;show QM lk hcd S len λA outer s H vs Q E hr CM=>?_;let#[t,h,q]:=hbody A outer s H vs Q E hr CM;show#[t,h.Sm,q]
def LK(h:iZ (k+1) A):A.in1.depth<recursionLimit:=h.in1.depth
def fU(p:Addr)(H H':Hp):Prop:=∀b o,b≠p->H b=some o->H' b=some o
def fU.trans{H1 H2:Hp}(a:fU p H H1)(b:fU p H1 H2):fU p H H2:=λc o n h=>b c o n^a c o n h
def aC.AU(s:aC H H'):fU p H H':=λc o _ h=>s c o h
def sG(p:Addr)(qual:Str)(pos:Pos)(H:Hp):Prop:=H p=some^.qC #[]\/∃c,H p=some (.qC #v[rawInt pos.line,rawInt pos.col,.ref c])/\H c=some^lP c qual
def sG.ne(t:sG p qual pos H){o:HO}(h:H b=some o)(ho:∀ps,o≠.qC ps):b≠p:=λz=>by subst z;rcases t with e|⟨c,e,_⟩<;>(rw[e] at h;show ho _ (Option.some.inj h).symm)
def sG.same(t:sG p qual pos H)(s:aC H H'):sG p qual pos H':=t.elim (λe=>.inl^s _ _ e) λ⟨c,e,h⟩=>.inr #[c,s _ _ e,s _ _ h]
def sG.put{o:HO}(t:sG p qual pos H)(hf:H f=some^.lst xs)(s:qE H f o H'):sG p qual pos H':=by have k:∀{b:Addr}{u:HO},H b=some u->(∀ys,u≠.lst ys)->H' b=some u:=λh n=>s.keep (λz=>by subst z;rw[hf] at h;show n _ (Option.some.inj h).symm) h;rcases t with e|⟨c,e,h⟩;show .inl (k e λ_ z=>nomatch z);show .inr #[c,k e (λ_ z=>nomatch z),k h (λ_ z=>nomatch z)]
section
variable {σ:St}{p:Addr}{mk:Addr->Value->Obj}{t:TA}
def O1(h:t σ H λvs H1=>tl σ H1 λy H2=>LI K qual mk te ix σ vs y H2 Q):LJ K qual mk te ix t tl σ H Q:=h
def Ug(ht:sG p qual pos H)(h:∀c q ctv H',fU p H H'->H' q=some^rA q^mk c ctv->H' c=some^lP c qual->sG p qual pos H'->Q (.ref q) H'):Ud p qual pos mk σ H Q:=by
 rcases ht with hP|⟨c,hP,hc⟩
 .show .inl #[hP,λc q ctv fc fq ne=>?_];have np:p≠c:=λz=>by rw[<- z,hP] at fc;cases fc
  have nq:p≠q:=λz=>by rw[<- z,hP] at fq;cases fq
  have S5:upd (upd (upd H p (.qC #v[rawInt pos.line,rawInt pos.col,.ref c])) c^lP c qual) q (rA q^mk c ctv) p=some (.qC #v[rawInt pos.line,rawInt pos.col,.ref c]):=by rw[bH nq,bH np,eT]
  have hc':upd (upd (upd H p (.qC #v[rawInt pos.line,rawInt pos.col,.ref c])) c^lP c qual) q (rA q^mk c ctv) c=some^lP c qual:=by rw[bH ne,eT]
  show h c q ctv _ (λb o hb e=>?_) eT hc'^.inr #[c,S5,hc'];rw[bH^aV e fq,bH^aV e fc,bH hb];show e
 .show .inr #[c,hP,λq ctv fq=>?_];have s:=HQ fq^rA q^mk c ctv;show h c q ctv _ (λb o _ e=>s b o e) eT (s _ _ hc)^.inr #[c,s _ _ hP,s _ _ hc]
where
 HQ {H:Hp} {q:Addr} (fq:H q=none) (o:HO):aC H^upd H q o:=λb u e=>by rw[bH^aV e fq];show e
end
section
variable {p LL:Pos}{t:TA}
def O2{clos:List (Str×Addr)}{cc pt:Addr}(hcd:X.env.code=.ref cc)(ch:codeHdIn X.K cc pt=true)(Rq:X.base.BuiltinsAt X.mg pt)(hcl:closureFor scope X.env=pure clos)(hdef:defaultsOf params X.env=([],[]))
  (O:uX X scope clos y fr ix)(hr:X.A.in1.depth<recursionLimit)(hbind:∀(c':Addr)(ctv z:Value),bindArgs (kla_fn "<lambda>" (X.env.qual ++ "<lambda>") params body scope clos ((X.mg "__name__").getD .none) (.ref c') ctv) #[[z],[]]=pure [(y,z)])
  (he:∀q c' L s H,PE (VF X (y::fr) (envX (X.env.qual ++ "<lambda>") scope L q (.ref c') clos) s H) body te)(hg:Gl X "max")(hm:X.mg "max" = none)(ha:PA X [e] t)(hb:backTo pos^starEach [e] X.env=(false,eval e X.env)::backTo pos^starEach [] X.env:=by rfl)
  (hpl:(backTo pos^starEach [e] X.env).any (·.1)=false:=by rfl)(hal:(backToKw pos^keywordEach [#[some "key", .Lambda params body scope LL,kp]] X.env).all (·.1.isSome)=true:=by rfl)(hkw:(backToKw pos^keywordEach [#[some "key", .Lambda params body scope LL,kp]] X.env).any (·.1.isNone)=false:=by rfl)
  (hfm:(backToKw pos^keywordEach [#[some "key", .Lambda params body scope LL,kp]] X.env).filterMap (·.1)=[("key" : Str)]:=by rfl):
  PE X (.Call (.Name "max" p) [e] [#[some "key", .Lambda params body scope LL,kp]] pos) (LJ X.K (X.env.qual ++ "<lambda>") (λc ctv=>kla_obj "<lambda>" (X.env.qual ++ "<lambda>") params body scope clos ((X.mg "__name__").getD .none) c ctv) te ix t (Ud pt (X.env.qual ++ "<lambda>") LL λc ctv=>kla_obj "<lambda>" (X.env.qual ++ "<lambda>") params body scope clos ((X.mg "__name__").getD .none) c ctv)) :=
 O0 O hr hbind he hg hm ha (Ue hcd ch Rq hcl hdef) hb hpl hal hkw hfm
end
open Classical in
def Uh(h:Heap)(q:HM.bu)(v:Value):Bool:=decide (∃a,v=.ref a/\HM.bU h q a)
open Classical in
def LM{k q:HM.bu}(x:HM.bU h k a):Uh h q^.ref a=decide (k=q):=by unfold Uh;by_cases e:k=q;subst e;rw[decide_eq_true^show ∃b,Value.ref a=.ref b/\HM.bU h k b from#[a,rfl,x],decide_eq_true rfl];rw[decide_eq_false e,decide_eq_false];rintro⟨b,eb,y⟩;cases eb;show e^HM.bU.inj x y
section
variable {σ:St}
def O3(I:Inv X u5 σ H s)(q:HM.bu){ps:List HM.bu}(hp:aU H xs ps)(hv:Vals xs us):us.any^Uh s.heap q=decide (q∈ps):=by
 induction hp generalizing us with
 | nil=>cases hv;simp
 | @cons _ p _ ps h _ ih =>
  have h2:=h;let#[a,_,rfl,_]:=h;cases hv with
  | cons rv rs =>
  cases rv;rw[jB,LM^I.hrm h2,ih rs];by_cases e:p=q;simp[e];have e':¬q=p:=λz=>e z.symm;simp[e,e']
theorem LN(I:Inv X u5 σ H s){A:Around}(hu:A.units+2<cLine){b:Addr}{q:HM.bu}(hb:aS H (.ref b) q):∀{xs:List V}{ps:List HM.bu}{us:List Value},aU H xs ps->Vals xs us->∀u∈us,SeqAt.EqAt A s u (.ref b) (Uh s.heap q u)
 | _,_,_,.nil,.nil=>λu hu=>nomatch hu
 | _,_,_,.cons (b:=p) h r,.cons rv rs=>λu hm=>by rcases aH.mp hm with z|z;have h2:=h;let#[a,_,rfl,_]:=h;cases rv;subst z;have:=HM.rf q;rw[LM^I.hrm h2,<- HM.Fv];show SeqAt.eqAt_reads _ _ A s _ _ _ _ (I.hrm h2).reads (I.hrm hb).reads (HM.pO _) (HM.pO _) ∅;show LN I hu hb r rs u z
def Rr(K:aF):R2:=λx y H Q=>∃(b l:Addr)(q:HM.bu)(xs:List V)(ps:List HM.bu),x=.ref b/\y=.ref l/\aS H (.ref b) q/\bB K H l xs/\aU H xs ps/\Q (.bl (!decide (q∈ps))) H
theorem DV(hu:X.A.units+64<cLine):j7 X (compareOp .NotIn)^Rr X.K:=by intro u5 s σ H x y v u Q I rx ry h;let#[b,l,q,xs,ps,rfl,rfl,hb,hl,hp,k]:=h;cases rx;cases ry;let#[its,r,pl,hz]:=I.list hl;show SeqAt.notIn_listAt (Uh s.heap q) pl.isList (λw hw=>LN I (by change X.A.units+1+2<cLine;lia) hb hp r w^by simpa using hw) #[.bl _,H,I,rfl,?_];rw[show its.toArray.any^Uh s.heap q=its.any (Uh s.heap q) by simp,O3 I q hp r];show k
def HR{q:HM.bu}{ps:List HM.bu}(hb:aS H (.ref b) q)(hl:bB K H l xs)(hp:aU H xs ps)(h:Q (.bl (!decide (q∈ps))) H):Rr K (.ref b) (.ref l) H Q:=#[b,l,q,xs,ps,rfl,rfl,hb,hl,hp,h]
end
end L2
namespace L2
set_option genInjectivity false in
set_option genSizeOf false in
set_option genSizeOfSpec false in
structure DD (K:aF) (mg:Str->Option Value) (n:Str) (st:Stmt) (ps:List Str) where
 f:Addr
 d:FuncData
 F:QW K n n st f d
 b:Binds K d ps []
 m:mg n=some^.ref f
set_option genInjectivity false in
set_option genSizeOf false in
set_option genSizeOfSpec false in
structure DL (K:aF) (mg:Str->Option Value) (n:Str) (st:Stmt) (ps:List Str) (pp:Addr) extends DD K mg n st ps where
 cc:Addr
 cq:d.code=.ref cc
 ch:PySem.W.codeHdIn K cc pp=true
set_option genInjectivity false in
set_option genSizeOf false in
set_option genSizeOfSpec false in
structure CI (mg:Str->Option Value) (n:Str) (i:Int) where
 t:Tok
 c:mg n=some^.int i t
set_option genInjectivity false in
set_option genSizeOf false in
set_option genSizeOfSpec false in
structure CT (K:aF) (mg:Str->Option Value) (n:Str) (vs:List V) where
 a:Addr
 c:mg n=some^.ref a
 q:i6 K a vs
section
variable {n:Str}{ps:List Str}{oc:Value}{od an:Option Addr}{sl:Array^Option Value}{kV dc cd ct:Value}
abbrev DW(n:Str)(st:Stmt)(ps:List Str):Prop:=∀(kV doc pm:Value)(an:Option Addr)(cdv ct:Value)(us:List Value),us.length=ps.length->bindArgs (PySem.W.fnOf n n (lq st) (jr st) (aB st) .none kV doc pm an cdv ct) #[us,[]]=pure^ps.zip us
noncomputable def Rt(X:K.In h)(G:h.Ns mainGlobals mg)(hb:DW n st ps)(e:PySem.W.nsIn K mainGlobals n=some^some^.ref f)(l:K.lookup f=some #[oc,od,.func^PySem.W.fnOf n n (lq st) (jr st) (aB st) .none kV dc pm an cd ct,sl])
  (c:PySem.W.codeIn K cd n=true)(k:PySem.W.keepIn K^.ref f=true):DD K mg n st ps:=#[f,_,Kf l c k,(Kf l c k).binds hb,PySem.W.mg_of X G e]
noncomputable def Xl{cc pp:Addr}(X:K.In h)(G:h.Ns mainGlobals mg)(hb:DW n st ps)(e:PySem.W.nsIn K mainGlobals n=some^some^.ref f)(l:K.lookup f=some #[oc,od,.func^PySem.W.fnOf n n (lq st) (jr st) (aB st) .none kV dc pm an (.ref cc) ct,sl])
  (c:PySem.W.codeIn K (.ref cc) n=true)(k:PySem.W.keepIn K^.ref f=true)(ch:PySem.W.codeHdIn K cc pp=true):DL K mg n st ps pp:={ Rt X G hb e l c k with cc:=cc,cq:=rfl,ch:=ch }
noncomputable def Xm{i:Int}{t:Tok}(X:K.In h)(G:h.Ns mainGlobals mg)(e:PySem.W.nsIn K mainGlobals n=some^some^.int i t):CI mg n i:=#[t,PySem.W.mg_of X G e]
noncomputable def Xn{vs:List V}{its:Array Value}(X:K.In h)(G:h.Ns mainGlobals mg)(e:PySem.W.nsIn K mainGlobals n=some^some^.ref a)(l:K.lookup a=some #[.type "tuple", od,.seq its j,sl])(r:Vals vs its.toList)(hz:its.size<=1000):CT K mg n vs:=#[a,PySem.W.mg_of X G e,i6.mk' l r hz]
def DD.bind1(D:DD K mg n st [x])(hb:DW n st [x])(s:Shared)(v:Value):BindsTo s D.d #[[v],[]] [(x,v)]:=by let#[_,_,kV,dc,pm,an,cd,ct,_,e,_,_]:=D.F.ex;rw[e];show .of_eq^hb kV dc pm an cd ct [v] rfl
end
section
variable {n:Str}{ps:List Str}{t:TA}
def aJ(D:DD X.K X.mg n st ps)(F:bQ X.prog X.w X.K X.mg X.base gj k D.f D.d ps sp)(r:iZ j X.A)(ha:PA X (e::es) t)(hk:k<=j:=by first|decide|omega)(hg:Gl X n:=by rfl)(hdb:(n==("__debug__" : Str))=false:=by decide)
  (he:starEach (e::es) X.env=(false,eval e X.env)::starEach es X.env:=by rfl)(hpl:(backTo pos^starEach es X.env).any (·.1)=false:=by rfl):PE X (.Call (.Name n p) (e::es) [] pos) (JS sp [] E0 t) :=
 N7 F (r.mono hk) hg D.m D.F.kp D.b .nil Wt ha hdb he hpl
end
section
variable {nx bk ct:St->Hp->Prop}{σ:St}
end
section
variable {o:Expr}{ty:TE}
end
section
variable {σ:St}{t:TA}
end
section
variable {a b:Expr}
def bq(i:Nat)(hN:X.N.Nodup)(he:PE X e te)(hi:X.N[i]?=some x:=by rfl)(hx:Loc X.env.scope x:=by first|exact .inl rfl|exact .inr rfl)(hs:swapsWith e (some^.Name x pos') pos.line X.env=pure false:=by rfl)(hf:X.fn x=true\/X.env.scope.names.lookup x=some .local:=by first|exact .inl rfl|exact .inr rfl|assumption):
  PS X (.Assign [.Name x pos'] e pos)^NX te^gQ i:=Ss hN hi hx he hs hf
def di(i:Nat)(hN:X.N.Nodup)(hi:X.N[i]?=some x:=by rfl)(hx:Loc X.env.scope x:=by first|exact .inl rfl|exact .inr rfl)(hf:X.fn x=true\/X.env.scope.names.lookup x=some .local:=by first|exact .inl rfl|exact .inr rfl|assumption):PG X (.Name x pos)^gQ i:=EF hN hi hx hf
def br{r:R2}(hr:SK X r)(ha:PE X a ta)(hb:PE X b tb)(hs:ES b:=by exact λ_ _=>rfl):PE X (.Subscript a b pos)^N1 r ta tb:=Wf hr ha hb hs
def bY{op:CmpOp}{r:R2}(ho:j7 X (compareOp op) r)(ha:PE X a ta)(hb:PE X b tb)(hm:behindInMarks op b=false:=by exact iN _):PT X (.Compare a [op] [b] pos)^EL^N1 r ta tb:=cK ho ha hb hm
def bA.cz(x:Str)(fr:List Str)(ix:List Nat)(nm:List Str)(clos:closureFor scope X.env=pure cl)(calm:X.calm=true:=by rfl)(cell:∀y∈scope.names,y.2≠.cell:=by decide +kernel)(kind:scope.kind=.function:=by rfl)
  (names:∀y∈scope.names,y.2=.local->scope.names.lookup y.1=some .local:=by decide +kernel)(loc:scope.names.lookup x=some .local:=by rfl)(nd:(x::fr).Nodup:=by decide +kernel)
  (hcl:wg (λp=>X.env.cells.lookup p.1=some p.2) cl:=by repeat (first|exact trivial|refine⟨rfl,?_⟩))(hnm:cl.map (·.1)=nm:=by rfl)(hfree:∀z∈scope.names,z.2=.free->z.1∈nm:=by decide +kernel)(hlen:fr.length=ix.length:=by rfl)
  (hfx:wg (λp=>X.N[p.2]?=some p.1/\X.env.kindOf p.1=some .cell/\(relabel scope X.env).names.lookup p.1=some .cell)^fr.zip ix:=by repeat (first|exact trivial|refine⟨⟨rfl,rfl,rfl⟩,?_⟩)):bA X scope cl x fr ix :=
 bA.caps calm clos cell kind names loc nd hcl hnm hfree hlen hfx
end
end L2
set_option compiler.extract_closed false
local macro_rules | `(tactic| walk_at "len")=>`(tactic| first|omega|(simp only[aq, aO, cW, oA, L2.Ab] at *;omega)|exact eZ rfl)
local macro_rules | `(tactic| walk_at "fld")=>`(tactic| first|exact L2.ZT|exact L2.ZU|exact L2.ZV|exact L2.ZW)
local macro_rules | `(tactic| walk_at "flp")=>`(tactic| first|exact L2.ZX|exact L2.ZY|exact L2.ZZ|exact L2.Xo|exact L2.Xp|exact L2.Xq|exact L2.Xr)
local macro_rules | `(tactic| walk_at "fln")=>`(tactic| first|exact L2.Z0|exact L2.Z1|exact L2.Z2|exact L2.Z3|exact Nat.zero_lt_succ _)
set_option hygiene false in
local macro_rules | `(tactic| walk_at "sq1") => `(tactic| first | ((with_reducible refine L2.Tw ?_); walk_at "nx") | ((with_reducible refine L2.Dp (bk := bk2) (ct := ct2) ?_); walk_at "nx") | ((with_reducible refine L2.Dp (bk := bk1) (ct := ct1) ?_); walk_at "nx") | ((with_reducible refine L2.Dp (bk := bk0) (ct := ct0) ?_); walk_at "nx") | ((with_reducible refine L2.Tz ?_); walk_at "nl"; walk_at "nx"))
def L2.aC.at{a:PySem.Addr}{o:L2.HO}(e:L2.aC H H')(h:H a=some o):H' a=some o:=e _ _ h
def L2.aC.trF{H1 H2:L2.Hp}(b:L2.aC H1 H2)(a:L2.aC H H1):L2.aC H H2:=a.trans b
def L2.eV.fst{p:PySem.Addr}{o:L2.HO}(n:L2.eV H p o H'):H p=Option.none:=n.1
def L2.eV.fr2{H1 H2:L2.Hp}{p:PySem.Addr}{o:L2.HO}(n:L2.eV H1 p o H2)(s:L2.aC H H1):H p=Option.none:=s.free n.1
def L2.za0{α β:Type}{a:α}{b:β}:a=a/\b=b:=#[rfl,rfl]
def L2.zb0{α:Type}{a:α}:a=a/\L2.aC H H:=#[rfl,L2.aC.refl _]
def L2.zc0{a b:PySem.Addr}{ys:List L2.V}{R:L2.It->L2.Hp->Prop}(hx:L2.cY K H a xs)(hy:L2.cY K H b ys)(h:R (L2.WN K true true a b xs ys) H):L2.Tg K R [.ref a,.ref b] H:=L2.E5 (t1:=true) (t2:=true) hx hy h
def L2.zc1{a b:PySem.Addr}{ys:List L2.V}{R:L2.It->L2.Hp->Prop}(hx:L2.cY K H a xs)(hy:L2.bB K H b ys)(h:R (L2.WN K true false a b xs ys) H):L2.Tg K R [.ref a,.ref b] H:=L2.E5 (t1:=true) (t2:=false) hx hy h
def L2.zc2{a b:PySem.Addr}{ys:List L2.V}{R:L2.It->L2.Hp->Prop}(hx:L2.bB K H a xs)(hy:L2.cY K H b ys)(h:R (L2.WN K false true a b xs ys) H):L2.Tg K R [.ref a,.ref b] H:=L2.E5 (t1:=false) (t2:=true) hx hy h
def L2.zc3{a b:PySem.Addr}{ys:List L2.V}{R:L2.It->L2.Hp->Prop}(hx:L2.bB K H a xs)(hy:L2.bB K H b ys)(h:R (L2.WN K false false a b xs ys) H):L2.Tg K R [.ref a,.ref b] H:=L2.E5 (t1:=false) (t2:=false) hx hy h
namespace WK
open Lean in
def ids(c:String):Array Ident:=((c.drop 1).toString.splitOn ",").toArray.map λx=>mkIdent (.mkSimple x)
open Lean in
def one(c:String):MacroM (TSyntax `tactic):=do
 if c == "a" then `(tactic| assumption) else if c == "o" then `(tactic| omega) else if c == "r" then `(tactic| rfl) else if c == "d" then `(tactic| decide)
 else if c.startsWith "~" then `(tactic| try clear $(ids c)*) else if c.startsWith "^" then `(tactic| intro $(ids c)*) else if c.startsWith "?" then `(tactic| fail_if_success clear $(ids c)*)
 else if c.startsWith "@" then `(tactic| walk_at $(Syntax.mkStrLit (c.drop 1).toString)) else if c.startsWith "=" then `(tactic| with_reducible apply $(mkIdent (.mkSimple (c.drop 1).toString)))
 else if c.startsWith "*/" then `(tactic| apply $(mkIdent (c.drop 2).toString.toName)) else if c.startsWith "*" then `(tactic| apply $(mkIdent (`L2++(c.drop 1).toString.toName)))
 else `(tactic| with_reducible apply $(mkIdent (.str `L2 c)))
open Lean in
def alt(w : String): MacroM (TSyntax `tactic):=do
  let ws:=(w.splitOn " ").toArray;let mut t ← one ws[0]!
  for c in ws[1:] do
    if c=="&" then t ← `(tactic| ($t:tactic<;>intro _))
    else if c.startsWith "!" then
      for _ in[0:(c.drop 1).toString.toNat!] do t ← `(tactic| ($t:tactic;intro _))
    else if c.startsWith "~" || c.startsWith "^" then
      let u ← one c
      t ← `(tactic| ($t:tactic;$u:tactic))
    else
      let u ← if c == "a" || c == "o" || c == "r" || c == "d" then one c else `(tactic| walk_at $(Syntax.mkStrLit c))
      t ← `(tactic| ($t:tactic;(focus $u:tactic)))
  return t
open Lean in
def tab:String:="look:a;*eV.self a;*eV.keep a look;*qE.self a;*qE.keep a neq look;*aC.at a look\nneq:a;*/Ne.symm a;*eV.ne a look;*/Ne.symm ne1;*uf look look ic\nne1:*eV.ne a look\nsq:a;*i6.sq a;*bB.of look;*cY.of look;*aC.seq a sq;*aC.seq ns sq\nns:*eV.same a\nsame:*aC.refl;a;*aC.trF ns same;*aC.trF a same;*qE.same a sf sf\nsf:@same;@free\nfree:a;*eV.none a free;*aC.free a free;*eV.fst a;*eV.fr2 a same\ncond:o;d;*/And.intro o o;*/Or.inl an;*/Or.inr an;*/And.intro o od\nan:*/And.intro o o\nod:*/And.intro o d\nnxd:=Uo ~Uo,Ig,kt0,kf0;=Ig ~Uo,Ig,kt0,kf0;=Eh ~Eh,nx0;=hnx1 ~hnx1,nx1;=hnx2 ~hnx2,nx2;=hnx3 ~hnx3,nx3;=hnx4 ~hnx4,nx4;=Yh;=hct0;=hbk0;=hno1;=hct1;=hbk1;=hno2;=hct2;=hbk2\nnx:?Eh ^nx0,Eh;?hnx1 ^nx1,hnx1;?hnx2 ^nx2,hnx2;?hnx3 ^nx3,hnx3;^nx4,hnx4\nni:~Uo,Ig,kt0,kf0 ^kt0,kf0,Uo,Ig\nnl:?Yh ^no0,bk0,ct0,Yh,hbk0,hct0;?hno1 ^no1,bk1,ct1,hno1,hbk1,hct1;^no2,bk2,ct2,hno2,hbk2,hct2\nc2:*/Or.inl sq;*/Or.inr sq\nc3:*oG.int;*oG.bl;*oG.dD;*oG.str;*oG.tup look;*oG.lst look\nc6:a;d;o\ngo1:abT sq1|aeA;agn;s_c|W2 ni|aaY;s_b;aeq;abd;abe;abf;abg;abi;abj;abk;abl;abm;abn;Zi;Zj;Zk;agu;agv|agw;abh;agx;agy;agz;agA;agB;agC;aeM;aeN;aeO;agq;s_i cond;aev;aew;aex;aey|za0;zb0;S9;@nxd|aep;aaW;aaX;ago;s_u;aer;agp;aes;aet;aaZ;aeu;Ze;s_call;aez;aa0;agr;aeD;aeE|aa5 c0 !3;aa6 c0 !3;cL sq r;uB sq c1;QX c0 r;aa7 c2 r r;aeF c2 r r;aeK;WD;WW;abM o;aeJ o o;aa8;Zf;Zh sq;abc sq;aba sq r;Zg|abb;agt;aeH c2;WB c2 !3;aa9;aeI c3 r;aeL sq;Wy look len !2;abu;abv;abw;Zu;Zv;Zw;abx sq !3;aby sq r;aeV look look len !3;WJ look look len !2|aeW;abz sq;agH;aeX sq !3;abC;uD look r !2;abB;Q6;abD;abA r;abt;Zt;WI;ags;aeG;ab1;ab2 o;abG|WT look r;ae2;abH;ae9 look;ZC;agJ look;ae4 look;s_iEnum1;s_itE1 sq;s_split d len !3;ZJ;ZK;Xe;ZN;ab7;Xh;ZI !4;afi look|ab6 look;ZM look !3;abJ;ae5 look len !2;ZE !3;ab0 look;abK !3;ZD look !2;abL;ae6 r;ae7;ZA;WS r;jH sq c5 !3;Zz;abF;Zy;aeY sq|zc0 sq sq;zc1 sq sq;zc2 sq sq;zc3 sq sq|SY;aaQ;aeB;aeC;aa1 c6;aa2 c6|De &|aa3 c6;aa4 c6|Df &|Kq r;Kr r\nc1:r;*KJ\nc0:*/_root_.eZ r"
open Lean in
def row(f:String->MacroM (TSyntax `tactic))(c:String):MacroM (TSyntax `tactic):=do
 for l in tab.splitOn "\n" do
  if l.startsWith (c++":") then
   let g ← ((l.drop (c.length+1)).toString.splitOn "|").toArray.mapM λx=>do
    let r ← (x.splitOn ";").toArray.mapM f
    `(tactic| case' $(mkIdent `z):ident=>first $[| $r:tactic]*)
   return ← `(tactic| first $[| $g:tactic]*)
 Macro.throwUnsupported
open Lean in
def find(c:String):MacroM (TSyntax `tactic):=do
 if c=="go" then `(tactic| repeat' $(← row (λw=>if w=="@nxd" then row alt "nxd" else alt w) "go1"):tactic)
 else row alt c
end WK
local macro_rules | `(tactic| lk%$t)=>if WL.o t then `(tactic| walk_at "go") else Lean.Macro.throwUnsupported
local macro_rules | `(tactic| k_in%$t)=>if WL.o t then `(tactic| walk_at "start") else Lean.Macro.throwUnsupported
local macro_rules | `(tactic| walk_at "ic")=>`(tactic| (intro z;cases z))
local macro_rules | `(tactic| walk_at "c5")=>`(tactic| first|exact(λh=>absurd (show(1 : Nat)=0 from h.1) (by decide))|(intro h;simp only[L2.HT.dM] at h;omega))
local macro_rules | `(tactic| walk_at "goq")=>`(tactic| repeat' (first|with_reducible refine L2.ach ?_|with_reducible refine L2.Z4 ?_|with_reducible refine L2.Z5 ?_|walk_at "go1"))
local macro_rules | `(tactic| walk_at "start")=>`(tactic| try dsimp only[L2.zU, L2.Cx.Sm, L2.Cx.uo])
local macro_rules | `(tactic| case' $i:ident=>$s)=>if i.getId==`z then `(tactic| ($s)) else Lean.Macro.throwUnsupported
local macro_rules | `(tactic| walk_at $s:str)=>WK.find s.getString
namespace TG
open PySem L2 PySem.Spec PyProof.Rows
variable {n b s x g:Int}{p m d q:Nat}{r R:Row}{vs ys us:List V}{rs:List Row}{α β:Type}{o:HO}{t:HM.dX}{ts:List HM.dX}{φ:Heap->Prop}{kvs:gk}{ks:List HM.bu}{F:List (HM.bu×Int)}{qs:List Int}
set_option maxHeartbeats 4000000
noncomputable def top(i:Nat):Stmt:=PySem.Challenge.pw_turnguard_k65_whole_needed.main.body.getD i^.Pass #[0,0,0,0]
abbrev xo:Stmt:=top 8
abbrev pW:Stmt:=top 9
abbrev r6:Stmt:=top 10
abbrev FI:Stmt:=top 11
abbrev FJ:Stmt:=top 12
abbrev FL:Stmt:=top 13
abbrev LO:Stmt:=top 14
abbrev r9:Stmt:=top 15
abbrev xq:Stmt:=top 16
abbrev FN:Stmt:=top 17
abbrev uY:Stmt:=top 21
abbrev xr:Stmt:=top 22
abbrev lQ:Stmt:=top 23
abbrev xw:Stmt:=top 24
abbrev AV:Stmt:=top 25
abbrev xy:Stmt:=top 26
abbrev FO:Stmt:=top 27
abbrev AW:Stmt:=top 28
abbrev FP:Stmt:=top 29
abbrev uZ:Stmt:=top 30
abbrev AX:Stmt:=top 32
abbrev xA:Stmt:=top 33
abbrev LP:Stmt:=top 34
abbrev xB:Stmt:=top 35
abbrev mP:Stmt:=top 36
abbrev LQ:Stmt:=top 37
abbrev AY:Stmt:=top 39
abbrev FQ:Stmt:=top 40
abbrev mQ:Stmt:=top 41
abbrev xC:Stmt:=top 42
abbrev xD:Stmt:=top 44
abbrev FT:Stmt:=top 45
abbrev xE:Stmt:=top 46
abbrev AZ:Stmt:=top 47
abbrev LR:Stmt:=top 48
abbrev LS:Stmt:=top 49
abbrev s_row:Stmt:=top 50
abbrev LU:Stmt:=top 51
abbrev sj:Stmt:=top 52
abbrev LV:Stmt:=top 53
abbrev pX:Stmt:=top 54
abbrev LW:Stmt:=top 55
abbrev FU:Stmt:=top 56
abbrev pY:Stmt:=top 57
abbrev nX:Stmt:=top 58
abbrev FW:Stmt:=top 59
abbrev pZ:Stmt:=top 60
abbrev FY:Stmt:=top 61
abbrev LX:Stmt:=top 62
abbrev u0:Stmt:=top 63
abbrev LY:Stmt:=top 64
abbrev A0:Stmt:=top 65
abbrev A1:Stmt:=top 67
abbrev nY:Stmt:=top 68
abbrev A2:Stmt:=top 69
abbrev Ru:Stmt:=top 70
def DX:aG ["row"] ["row"]^aB xo:=by walk_at "sc"
def wu:aG ["row", "part"] ["row", "part"]^aB pW:=by walk_at "sc"
def qa:aG ["row", "moved", "numbers"] ["row", "moved"]^aB r6:=by walk_at "sc"
def A3:aG ["row", "boxes"] ["row"]^aB FI:=by walk_at "sc"
def LZ:aG ["row"] ["row"]^aB FJ:=by walk_at "sc"
def u7:aG ["row", "boxes", "found", "side"] ["row", "boxes"]^aB FL:=by walk_at "sc"
def ju:aG ["code", "reading", "giving", "ahead", "found", "spot", "coming", "seen", "place"] ["code"]^aB LO:=by walk_at "sc"
def jv:aG ["lists", "found", "some", "thing"] ["lists"]^aB r9:=by walk_at "sc"
def jJ:aG ["code", "found", "place", "row", "way"] ["code"]^aB xq:=by walk_at "sc"
def L1:aG ["code"] ["code"]^aB FN:=by walk_at "sc"
def jX:aG ["row", "things", "lively", "taken", "given", "onward"] ["row", "things", "lively"]^aB uY:=by walk_at "sc"
def oR:aG ["onward", "things", "lively", "found", "way"] ["onward", "things", "lively"]^aB xr:=by walk_at "sc"
def kH:aG ["row", "thing", "taken", "given", "found"] ["row", "thing", "taken", "given"]^aB lQ:=by walk_at "sc"
def fV:aG ["code", "lively", "found", "place", "row", "things", "thing", "later"] ["code"]^aB xw:=by walk_at "sc"
def HS:aG ["code"] ["code"]^aB AV:=by walk_at "sc"
def vc:aG ["later", "found"] ["later"]^aB xy:=by walk_at "sc"
def jK:aG ["later", "earlier", "waiting", "ready", "found", "harm", "other"] ["later"]^aB FO:=by walk_at "sc"
def nE:aG ["later", "found", "harm", "other"] ["later"]^aB AW:=by walk_at "sc"
def A4:aG ["code", "found"] ["code"]^aB FP:=by walk_at "sc"
def kI:aG ["later", "found", "most", "coming", "way", "harm"] ["later", "found", "most"]^aB uZ:=by walk_at "sc"
def xF:aG ["code", "place", "row"] ["code", "place"]^aB AX:=by walk_at "sc"
def vd:aG ["code", "place", "moved"] ["code", "place"]^aB xA:=by walk_at "sc"
def nF:aG ["code", "number", "found", "left", "fewer"] ["code", "number"]^aB LP:=by walk_at "sc"
def DY:aG ["found", "number"] ["found", "number"]^aB xB:=by walk_at "sc"
def fk:aG ["code", "number", "left", "place"] ["code", "number"]^aB mP:=by walk_at "sc"
def yO:aG ["code", "place", "number", "later", "way"] ["code", "place", "number"]^aB LQ:=by walk_at "sc"
def iO:aG ["code", "looked", "firsts", "hardened", "place", "row", "box"] ["code"]^aB AY:=by walk_at "sc"
def A5:aG ["code", "lively"] ["code"]^aB FQ:=by walk_at "sc"
def dw:aG ["code", "looked", "firsts", "many", "place", "row"] ["code", "looked"]^aB mQ:=by walk_at "sc"
def DZ:aG ["row", "place"] ["row", "place"]^aB xC:=by walk_at "sc"
def D3:aG ["_law_script", "_law_k"] ["_law_script", "_law_k"]^aB xD:=by walk_at "sc"
def A6:aG ["_law_cell", "_law_k", "_law_number"] ["_law_cell", "_law_k"]^aB FT:=by walk_at "sc"
def jL:aG ["_law_script", "_law_many", "_law_found", "_law_k", "_law_cell", "_law_number"] ["_law_script", "_law_many"]^aB xE:=by walk_at "sc"
def nG:aG ["_law_number", "_law_found", "_law_k"] ["_law_number"]^aB AZ:=by walk_at "sc"
def yP:aG ["_law_script", "_law_most", "_law_cell"] ["_law_script", "_law_most"]^aB LR:=by walk_at "sc"
def O4:aG ["_law_cell", "_law_p", "_law_many", "_law_way"] ["_law_cell", "_law_p", "_law_many", "_law_way"]^aB LS:=by walk_at "sc"
def lE:aG ["_law_cell", "_law_p", "_law_many", "_law_pool_here", "_law_way", "_law_kind", "_law_side", "_law_rest", "_law_k", "_law_i", "_law_j", "_law_q", "_law_value_of"] ["_law_cell", "_law_p", "_law_many", "_law_pool_here", "_law_way"]^aB s_row:=by walk_at "sc"
def yQ:aG ["_law_script", "_law_many", "_law_way", "_law_pool_here", "_law_numbers_here"] ["_law_script", "_law_many", "_law_way"]^aB LU:=by walk_at "sc"
def eE:aG ["_law_cell", "_law_p", "_law_many", "_law_pool_here", "_law_way", "_law_kind", "_law_rest", "_law_k", "_law_i", "_law_j", "_law_more", "_law_q"] ["_law_cell", "_law_p", "_law_many", "_law_pool_here", "_law_way"]^aB sj:=by walk_at "sc"
def yR:aG ["_law_rows", "_law_cell", "_law_p"] ["_law_rows", "_law_cell"]^aB LV:=by walk_at "sc"
def gu:aG ["_law_script", "_law_many", "_law_boxes", "_law_pool_here", "_law_numbers_here", "_law_way", "_law_rows"] ["_law_script", "_law_many", "_law_boxes"]^aB pX:=by walk_at "sc"
def sV:aG ["_law_script", "_law_cell", "_law_code_here"] ["_law_script"]^aB LW:=by walk_at "sc"
def A7:aG ["_law_row_here", "_law_place", "_law_places_here"] ["_law_row_here", "_law_place"]^aB FU:=by walk_at "sc"
def wz:aG ["_law_code_here", "_law_p"] ["_law_code_here", "_law_p"]^aB pY:=by walk_at "sc"
def ve:aG ["_law_code_here", "_law_p"] ["_law_code_here", "_law_p"]^aB nX:=by walk_at "sc"
def L3:aG ["_law_row_here"] ["_law_row_here"]^aB FW:=by walk_at "sc"
def wA:aG ["_law_row_here"] ["_law_row_here"]^aB pZ:=by walk_at "sc"
def L4:aG ["_law_row_here", "_law_side"] ["_law_row_here", "_law_side"]^aB FY:=by walk_at "sc"
def O5:aG ["_law_row_here", "_law_side"] ["_law_row_here", "_law_side"]^aB LX:=by walk_at "sc"
def bJ:aG ["_law_code_here", "_law_found", "_law_side", "_law_alive", "_law_changed", "_law_p", "_law_mask", "_law_q", "_law_given_here", "_law_box", "_law_rows"] ["_law_code_here"]^aB u0:=by walk_at "sc"
def qb:aG ["_law_row_here", "_law_thing", "_law_side", "_law_box", "_law_given_here", "_law_found"] ["_law_row_here", "_law_thing"]^aB LY:=by walk_at "sc"
def nH:aG ["_law_code_here", "_law_alive", "_law_harm", "_law_found", "_law_q", "_law_thing"] ["_law_code_here", "_law_alive", "_law_harm"]^aB A0:=by walk_at "sc"
def kJ:aG ["_law_code_here", "_law_way", "_law_many", "_law_alive", "_law_place", "_law_thing", "_law_k"] ["_law_code_here", "_law_way", "_law_many"]^aB A1:=by walk_at "sc"
def fW:aG ["_law_code_here", "_law_number", "_law_thinned", "_law_places_here", "_law_p", "_law_rest", "_law_soon", "_law_found"] ["_law_code_here", "_law_number", "_law_thinned", "_law_places_here"]^aB nY:=by walk_at "sc"
def HU:aG ["_law_code_here"] ["_law_code_here"]^aB A2:=by walk_at "sc"
def iP:aG ["_law_script", "_law_code_here", "_law_most", "_law_cell", "_law_number", "_law_thinned", "_law_places_here", "_law_p", "_law_found", "_law_kept"] ["_law_script"]^aB Ru:=by walk_at "sc"
abbrev bK:Addr:=172
set_option genInjectivity false in
set_option genSizeOf false in
set_option genSizeOfSpec false in
structure FZ (w:World) (K:aF) (mg:Str->Option Value) where
 qc:Addr
 yS:mg "PARTS" = some^.ref qc
 qd:Addr
 A8:i6 K qd [.str "side", .str "box", .str "value", .str "place"]
 qe:Addr
 A9:i6 K qe [.str "side", .str "box", .str "box", .str "place"]
 qf:Addr
 Ba:i6 K qf [.str "side", .str "sign", .str "box", .str "box", .str "box", .str "place"]
 qg:Addr
 Bb:i6 K qg [.str "box", .str "place"]
 qh:Addr
 Bc:i6 K qh [.str "box", .str "place", .str "place"]
 qi:Addr
 Bd:i6 K qi [.str "box", .str "place"]
 qj:Addr
 Be:i6 K qj [.str "place"]
 qk:Addr
 Bf:i6 K qk [.str "box"]
 yT:Ag w K qc [(.inr "num", .ref qd),(.inr "copy", .ref qe),(.inr "op", .ref qf),(.inr "out", .ref qg),(.inr "fork", .ref qh),(.inr "look", .ref qi),(.inr "mark", .ref qj),(.inr "back", .ref qk)]
set_option genInjectivity false in
set_option genSizeOf false in
set_option genSizeOfSpec false in
structure Txt (w:World) (K:aF) (mg:Str->Option Value) where
 ql:DD K mg "ways_of" xo ["row"]
 iQ:DD K mg "numbers_of" pW ["row", "part"]
 kK:DD K mg "to_places" r6 ["row", "moved"]
 reads:DD K mg "reads" FI ["row"]
 gives:DD K mg "gives" FJ ["row"]
 Bg:DD K mg "spots" FL ["row", "boxes"]
 live:DD K mg "live" LO ["code"]
 nI:DD K mg "each_once" r9 ["lists"]
 leading:DD K mg "leading" xq ["code"]
 meets:DD K mg "meets" FN ["code"]
 qm:DD K mg "lasts_by" uY ["row", "things", "lively"]
 sW:DD K mg "at_ways" xr ["onward", "things", "lively"]
 iU:DD K mg "things_behind" lQ ["row", "thing", "taken", "given"]
 qo:DD K mg "lasting" xw ["code"]
 yU:DD K mg "delays" AV ["code"]
 sX:DD K mg "lengths" xy ["later"]
 ended:DD K mg "ended" FO ["later"]
 turned:DD K mg "turned" AW ["later"]
 delay:DD K mg "delay" FP ["code"]
 rB:DL K mg "way_of" uZ ["later", "found", "most"] bK
 yV:DD K mg "can_go" AX ["code", "place"]
 without:DD K mg "without" xA ["code", "place"]
 O6:DD K mg "thin" LP ["code", "number"]
 qp:DD K mg "is_soon" xB ["found", "number"]
 iu:DD K mg "gone_through" mP ["code", "number"]
 need:DD K mg "need" LQ ["code", "place", "number"]
 yW:DD K mg "harden" AY ["code"]
 looks:DD K mg "looks" FQ ["code"]
 jw:DD K mg "first_places" mQ ["code", "looked"]
 doubled:DD K mg "doubled" xC ["row", "place"]
 iV:DD K mg "_law_cell_at" xD ["_law_script", "_law_k"]
 mixed:DD K mg "_law_mixed" FT ["_law_cell", "_law_k"]
 numbers:DD K mg "_law_numbers" xE ["_law_script", "_law_many"]
 spread:DD K mg "_law_spread" AZ ["_law_number"]
 pool:DD K mg "_law_pool" LR ["_law_script", "_law_most"]
 goes:DD K mg "_law_goes" LS ["_law_cell", "_law_p", "_law_many", "_law_way"]
 row:DD K mg "_law_row" s_row ["_law_cell", "_law_p", "_law_many", "_law_pool_here", "_law_way"]
 code:DD K mg "_law_code" LU ["_law_script", "_law_many", "_law_way"]
 nJ:DD K mg "_law_plain_row" sj ["_law_cell", "_law_p", "_law_many", "_law_pool_here", "_law_way"]
 O7:DD K mg "_law_bent" LV ["_law_rows", "_law_cell"]
 lF:DD K mg "_law_plain_code" pX ["_law_script", "_law_many", "_law_boxes"]
 O8:DD K mg "_law_tiny" LW ["_law_script"]
 moved:DD K mg "_law_moved" FU ["_law_row_here", "_law_place"]
 lG:DD K mg "_law_can_go" pY ["_law_code_here", "_law_p"]
 jY:DD K mg "_law_without" nX ["_law_code_here", "_law_p"]
 Bh:DD K mg "_law_leads" FW ["_law_row_here"]
 lH:DD K mg "_law_boxes_read" pZ ["_law_row_here"]
 given:DD K mg "_law_given" FY ["_law_row_here", "_law_side"]
 read:DD K mg "_law_read" LX ["_law_row_here", "_law_side"]
 qq:DD K mg "_law_live" u0 ["_law_code_here"]
 left:DD K mg "_law_left" LY ["_law_row_here", "_law_thing"]
 behind:DD K mg "_law_behind" A0 ["_law_code_here", "_law_alive", "_law_harm"]
 yX:DD K mg "_law_is_way" A1 ["_law_code_here", "_law_way", "_law_many"]
 i7:DD K mg "_law_needs_stand" nY ["_law_code_here", "_law_number", "_law_thinned", "_law_places_here"]
 places:DD K mg "_law_places" A2 ["_law_code_here"]
 law:DD K mg "law" Ru ["_law_script"]
 afl:mg "all" = none
 aci:mg "bool" = none
 D4:mg "dict" = none
 fX:mg "enumerate" = none
 Bj:mg "int" = none
 yY:mg "isinstance" = none
 dY:mg "len" = none
 vf:mg "list" = none
 L5:mg "max" = none
 Rv:mg "min" = none
 eK:mg "range" = none
 D5:mg "reversed" = none
 F0:mg "set" = none
 kL:mg "sorted" = none
 afm:mg "str" = none
 F1:mg "tuple" = none
 L6:mg "zip" = none
 acj:CI mg "BOTH" 2
 jM:CT K mg "DEEDS" [.str "num", .str "copy", .str "op"]
 kg:CT K mg "ENDS_OF_MARKS" [.str "mark", .str "out", .str "back"]
 kh:CT K mg "ENDS_OF_SPOTS" [.str "look", .str "out", .str "back"]
 gm:FZ w K mg
 xH:CT K mg "SIDES" [.int 0,.int 1]
def iw(H H':Hp):Prop:=∀b xs,H b=some^.tup xs->H' b=some^.tup xs
def sT(e:aC H H'):iw H H':=λb xs h=>e b _ h
def iw.refl(H:Hp):iw H H:=λ_ _ h=>h
def iw.trans{H1 H2:Hp}(a:iw H H1)(b:iw H1 H2):iw H H2:=λc o h=>b c o^a c o h
def bZ{n:Nat}(h:n<100000):n<sizeLine:=bX h (by decide)
theorem D6{xs:List α}{i:Int}(h0:0<=i)(h1:i<xs.length):∃v,qU xs i=some v/\v∈xs:=by have e:i=((i.toNat:Nat):Int):=∅;have h2:i.toNat<xs.length:=∅;show#[xs[i.toNat],?_,jC h2];have q:qU xs ((i.toNat:Nat):Int)=some xs[i.toNat]:=cR (by simp[h2]);rw[<- e] at q;show q
def sY{i:Int}(h0:0<=i)(h1:i<ns.length):∃v,qU (ns.map V.int) i=some^.int v:=by let#[v,e,m]:=D6 (xs:=ns.map V.int) h0 (by simpa using h1);let#[n,_,rfl]:=aD.mp m;show#[n,e]
def vg{i:Int}(h0:0<=i)(h1:i<ns.length):∃v,qU (ns.map V.int) i=some^.int v/\v∈ns:=by let#[v,e,m]:=D6 (xs:=ns.map V.int) h0 (by simpa using h1);let#[n,hn,rfl]:=aD.mp m;show#[n,e,hn]
theorem cV{a:Int}(h:0<b):0<=a % b/\a % b<b:=#[Int.emod_nonneg _ ∅,Int.emod_lt_of_pos _ h]
def Xs(K:aF):Sp:=λvs H Q _=>∃(a:Addr)(ns:List Int),vs=[.ref a]/\bB K H a^ns.map V.int/\ns.length<=63/\∀H',Q (.bl true) H'
inductive Row where
 | num (d k v q:Int)|copy (d k i q:Int)|op (d:Int) (s:Str) (k i j q:Int)|out (i q:Int)|fork (i q p:Int)|look (i q:Int)|mark (q:Int)|back (i:Int)
noncomputable def Row.key:Row->Str
 | .num .. => "num" | .copy .. => "copy" | .op .. => "op" | .out .. => "out" | .fork .. => "fork" | .look .. => "look" | .mark .. => "mark" | .back .. => "back"
noncomputable def Row.parts:Row->List Str
 | .num ..=>["side", "box", "value", "place"]|.copy ..=>["side", "box", "box", "place"]|.op ..=>["side", "sign", "box", "box", "box", "place"]|.out ..=>["box", "place"]
 | .fork ..=>["box", "place", "place"]|.look ..=>["box", "place"]|.mark ..=>["place"]|.back ..=>["box"]
noncomputable def Row.rest:Row->List V
 | .num d k v q=>[.int d,.int k,.int v,.int q]|.copy d k i q=>[.int d,.int k,.int i,.int q]|.op d s k i j q=>[.int d,.str s,.int k,.int i,.int j,.int q]
 | .out i q=>[.int i,.int q]|.fork i q p=>[.int i,.int q,.int p]|.look i q=>[.int i,.int q]|.mark q=>[.int q]|.back i=>[.int i]
def Row.vals(r:Row):List V:=.str r.key::r.rest
noncomputable def Row.ways:Row->List Int
 | .num _ _ _ q=>[q]|.copy _ _ _ q=>[q]|.op _ _ _ _ _ q=>[q]|.out _ q=>[q]|.fork _ q p=>[q,p]|.look _ q=>[q]|.mark q=>[q]|.back _=>[]
noncomputable def signs:List Str:=["+", "-", "*", "/", "<", "=", "&", "|", "^"]
def yZ(d:Int):Prop:=0<=d/\d<3
def i8(d:Int):Prop:=0<=d/\d<8
def isVal(d:Int):Prop:=0<=d/\d<281474976710656
def kM(n d:Int):Prop:=0<=d/\d<n
def Row.ok(n:Int):Row->Prop
 | .num d k v q=>yZ d/\i8 k/\isVal v/\kM n q
 | .copy d k i q=>yZ d/\i8 k/\i8 i/\kM n q
 | .op d s k i j q=>yZ d/\s∈signs/\i8 k/\i8 i/\i8 j/\kM n q
 | .out i q=>i8 i/\kM n q
 | .fork i q p=>i8 i/\kM n q/\kM n p
 | .look i q=>i8 i/\kM n q
 | .mark q=>kM n q
 | .back i=>i8 i
def Row.gG(h:r.ok n):∀q∈r.ways,0<=q/\q<n:=by cases r<;>erw[Row.ok] at h<;>erw[Row.ways,aH,g7,or_false]<;>intro q hq;rw[hq];show h.2.2.2;rw[hq];show h.2.2.2;rw[hq];show h.2.2.2.2.2;rw[hq];show h.2;rcases hq with e|e<;>rw[e];show h.2.1;show h.2.2;rw[hq];show h.2;rw[hq];show h;show hq.elim
def Row.jN(r:Row):r.ways.length<=2:=by cases r<;>simp[Row.ways]
def vh(H:Hp)(v:V)(r:Row):Prop:=∃a,v=.ref a/\H a=some^.tup r.vals
abbrev Rows(H:Hp):List V->List Row->Prop:=Paired^vh H
def vh.same(e:aC H H')(h:vh H v r):vh H' v r:=let⟨a,e1,e2⟩:=h;#[a,e1,e _ _ e2]
def vh.i9(e:iw H H')(h:vh H v r):vh H' v r:=let⟨a,e1,e2⟩:=h;#[a,e1,e _ _ e2]
theorem Rows.same(e:aC H H')(h:Rows H vs rs):Rows H' vs rs:=cQ (λ_ _ q=>q.same e) h
theorem Rows.i9(e:iw H H')(h:Rows H vs rs):Rows H' vs rs:=cQ (λ_ _ q=>q.i9 e) h
def bf{F:α->β->Prop}{xs:List α}{ys:List β}(hp:Paired F xs ys):∀{i:Nat}{x:α},xs[i]?=some x->∃y,ys[i]?=some y/\F x y:=by
 induction hp with
 | nil=>show λ{i x} h=>by simp at h
 | cons a _ ih =>
  intro i x h;cases i with
  | zero=>cases h;show#[_,rfl,a]
  | succ i=>show ih h
def rC{xs:List α}(hn:xs.Nodup){a:α}(hi:xs[i]?=some a)(hj:xs[j]?=some a):i=j:=by let#[h1,e1]:=eX hi;let#[h2,e2]:=eX hj;have q:=kX.mp hn;rcases nk i j with h|h|h;show absurd (e1.trans e2.symm)^q i j h1 h2 h;show h;show absurd (e2.trans e1.symm)^q j i h2 h1 h
def Ui(K:aF):Sp:=λvs H Q _=>∃(a:Addr)(ns:List Int)(k:Int),vs=[.ref a,.int k]/\bB K H a^ns.map V.int/\0<=k/\∀c:Int,Q (.int c) H
theorem gO(T:Txt w K mg):bQ P w K mg base gj 1 T.iV.f T.iV.d ["_law_script", "_law_k"]^Ui K:=by show T.iV.F.ok D3 (λvs H Q E h=>?_) (λcdv A outer s H vs Q E hr h=>?_);let#[a,ns,k,rfl,_]:=h;rfl;let#[a,ns,k,rfl,hS,h0,q]:=h;show#[_,(ak (bI (bY iY (pv 1)^aQ bx rfl T.dY BT.dW^aa (pv 0) af) (ao^aE^br bN (pv 0)^pv 1) aL)^ao^aE ai),?_];have hl:(ns.map V.int).length=ns.length:=aq _;change(_:TS) (Ends.mk _ _ _ _) [_,_] H;k_in;lk;let#[v0,hv0]:=sY (ns:=ns) (i:=k) ∅ ∅;show cL hS hv0 ?_;show q _;show q _
def O9:Sp:=λvs H Q _=>∃(n k:Int),vs=[.int n,.int k]/\∀c,0<=c->c<2147483587->Q (.int c) H
def qt(T:Txt w K mg):bQ P w K mg base gj 1 T.mixed.f T.mixed.d ["_law_cell", "_law_k"] O9:=by show T.mixed.F.ok A6 (λvs H Q E h=>?_) (λcdv A outer s H vs Q E hr h=>?_);let#[n,k,rfl,_]:=h;rfl;let#[n,k,rfl,q]:=h;show#[_,(ak (bq 2 A6.nd^az bh (az bL (az bL (az jG (az bh (pv 0) ai)^az bL ai^az jG ai^pv 1)^az jG ai^pv 1) ai) ai)^ao^aE^az bh (az jG (pv 2)^pv 2) ai),?_];change(_:TS) (Ends.mk _ _ _ _) [_,_,_] H;k_in;lk;show q _ (cV^by decide).1 (cV^by decide).2
def L7:Sp:=λvs H Q _=>∃(n:Int),vs=[.int n]/\∀c,Q (.int c) H
def HV(T:Txt w K mg):bQ P w K mg base gj 2 T.spread.f T.spread.d ["_law_number"] L7:=by
 show T.spread.F.ok nG (λvs H Q E h=>?_) (λcdv A outer s H vs Q E hr h=>?_);let#[n,rfl,_]:=h;rfl;let#[n,rfl,q]:=h;show#[_,(ak (bq 1 nG.nd ai)^ak (cP bD rfl (dI rfl T.eK^aa ai af) (di 2 nG.nd)^ao^bq 1 nG.nd^az bL (az jG (pv 1) ai)^aJ T.mixed (qt T) hr^aa (pv 0)^aa (pv 2) af)^ao^aE^pv 1),?_];change(_:TS) (Ends.mk _ _ _ _) [_,_,_] H;k_in;lk;show pH (λi σ' H'=>H'=H/\∃(m:Int)(x:Option V),σ'=[some^.int n,some^.int m,x]) ?_ ?_ ?_;show#[rfl,_,_,rfl]
 .rintro i σ' H' hi ⟨rfl,m,x,rfl⟩;lk;show#[n,_,rfl,λc c0 c1=>?_];lk;show#[rfl,_,_,rfl]
 .rintro σ' H' ⟨rfl,m,x,rfl⟩;lk;show q _
def za{n:Nat}{k:Int}(h0:0<=k)(h:k<n):Js n k=some k.toNat:=by unfold Js;rw[if_pos h0,if_pos h]
def ints_set(ms:List Int)(j:Nat)(v:Int):(ms.map V.int).set j^.int v=(ms.set j v).map V.int:=by rw[List.map_set]
def Uj(K:aF):Sp:=λvs H Q _=>∃(a:Addr)(ns:List Int)(n:Nat),vs=[.ref a,.int n]/\bB K H a^ns.map V.int/\ns.length<=63/\0<n/\n<=1000 /\
 ∀q H' (ks:List Int),aC H H'->H' q=some^.lst^ks.map V.int->ks.length=n->Q (.ref q) H'
theorem vm(T:Txt w K mg):bQ P w K mg base gj 3 T.numbers.f T.numbers.d ["_law_script", "_law_many"]^Uj K:=by
 show T.numbers.F.ok jL (λvs H Q E h=>?_) (λcdv A outer s H vs Q E hr h=>?_);let#[a,ns,n,rfl,_]:=h;rfl;let#[a,ns,n,rfl,hS,hn,h0,h1,q]:=h;show#[_,(ak (bI (bY cN (az bh (aJ T.iV (gO T) hr^aa (pv 0)^aa ai af) ai) ai) (ao^aE^cT (bA.cz "_law_k" ["_law_script"] [0] ["_law_script"] rfl) (dI rfl T.eK^aa (pv 1) af) (λ_ _ _ _=>dG) (λ_ _ _ _=>(aJ T.iV (gO T) hr^aa (pv 1)^aa (az bL ai^pv 0) af))) aL)^ak (ly (i:=2) jL.nd rfl (Or.inl rfl) (bA.plain rfl (by decide +kernel) (by decide +kernel) rfl (by decide +kernel) rfl) (dI rfl T.eK^aa (pv 1) af) (λ_ _ _ _=>dG) (λ_ _ _ _=>(az bL (az jG ai^pv 0) ai)))^ak (cP bD rfl (lz rfl T.fX^aa (cU jq (pv 0) eB^dF ai) af) (k7 (n:=2) rfl^bw (di 3 jL.nd)^bw (di 4 jL.nd) fE)^ak (bq 5 jL.nd^az bL (az jG (br bN (pv 2)^az bh (pv 3)^pv 1) ai)^az bh (pv 4) ai)^ao^mz (az bh (az bL (pv 5)^az jG ai^pv 3) ai)^yl (pv 2) (az bh (pv 3)^pv 1) set_list)^ao^aE^cT (bA.plain rfl (by decide +kernel) (by decide +kernel) rfl (by decide +kernel) rfl) (bP^pv 2) (λ_ _ _ _=>dG) (λ_ _ _ _=>(aJ T.spread (HV T) hr^aa (pv 0) af))),?_];change(_:TS) (Ends.mk _ _ _ _) [_,_,_,_,_,_] H;k_in;lk;show#[a,ns,0,rfl,hS,by decide,λc=>?_];lk
 .show iT (λi ys H'=>H'=H/\∃ks:List Int,ys=ks.map V.int/\ks.length=i) #[rfl,[],rfl,rfl] ?_ ?_
  .rintro i ys H' hi ⟨rfl,ks,rfl,hk⟩;show#[bZ (by rw[aq];lia),?_];lk;show#[a,ns,_,rfl,hS,∅,λc3=>?_];show#[rfl,ks++[_],by rw[bG];rfl,by simp[hk]]
  .rintro ys H' ⟨rfl,ks,rfl,hk⟩ p H4 n4;show q p H4 ks n4.same n4.self ∅
 .show iT (λi ys H'=>H'=H/\∃ks:List Int,ys=ks.map V.int/\ks.length=i) #[rfl,[],rfl,rfl] ?_ ?_
  .rintro i ys H' hi ⟨rfl,ks,rfl,hk⟩;show#[bZ (by rw[aq];lia),?_];lk;show#[rfl,ks++[_],by rw[bG];rfl,by simp[hk]]
  rintro ys H' ⟨rfl,ks,rfl,hk⟩ f H4 n4;have hk:ks.length=n:=∅;lk;rename_i c5 H5 n5;have Uk:=fP (ns.map V.int) none^some 63;rw[aq] at Uk;have hci:∃ms:List Int,gW (ns.map V.int) none^some 63=ms.map V.int:=#[_,by unfold gW;rw[<- List.map_drop,<- List.map_take]];let#[ms,hms]:=hci;rw[hms] at n5 Uk ⊢;rw[aq] at Uk;have hne:c5≠f:=λe=>by have h1:=n5.1;rw[e,n4.self] at h1;cases h1
  show uF (xs:=ms.map V.int) (λi σ' H6=>aC H' H6/\H6 c5=some^.lst^ms.map V.int/\∃(ks:List Int)(x y z:Option V),σ'=[some^.ref a,some^.int n,some^.ref f,x,y,z]/\H6 f=some^.lst^ks.map V.int/\ks.length=n) ?_ ?_ ?_ ?_;show#[n4.same.trans n5.same,n5.self,ks,_,_,_,rfl,n5.keep n4.self,hk];rintro i σ' H6 hi ⟨sm,hc,_⟩;show bB.of hc
  .rintro i x p σ' H6 H7 hx ⟨sm,hc,ks,x1,y1,z1,rfl,hf,hk⟩ n7;rw[aW] at hx;let#[z,hz,rfl]:=cE.mp hx;have HW:=n7.keep hf;have b:=cV (a:=(i:Int)) (b:=(n:Int)) ∅;lk;let#[v,hv]:=sY (ns:=ks) (i:=(i:Int) % (n:Int)) b.1 ∅;show cL (bB.of HW) hv ?_;lk;show uD HW (za b.1 (by rw[aq];lia)) ?_;intro H8 p8;rw[ints_set] at p8;lk;show#[p8.same (sm.trans n7.same) n4.1,p8.keep hne^n7.keep hc,_,_,_,_,rfl,p8.self,by rw[l8];show hk]
  .rintro σ' H6 ⟨sm,hc,ks,x1,y1,z1,rfl,hf,hk⟩;lk;show ig (xs:=ks.map V.int) (λi ys H7=>H7=H6/\∃ks:List Int,ys=ks.map V.int/\ks.length=i) #[rfl,[],rfl,rfl] ?_ ?_ ?_;rintro i ys H7 hi ⟨rfl,_⟩;show bB.of hf
   .rintro i x ys H7 hx ⟨rfl,ls,rfl,hl⟩;rw[aW] at hx;let#[z,hz,rfl]:=cE.mp hx;have hi:i<ks.length:=(eX hz).1;show#[bZ (by rw[aq];lia),?_];lk;show#[z,rfl,λc=>?_];show#[rfl,ls++[_],by rw[bG];rfl,by simp[hl]]
   .rintro ys H7 ⟨rfl,ls,rfl,hl⟩ p H8 n8;show q p H8 ls (sm.trans n8.same) n8.self (by rw[hl,aq,hk])
def Ul(K:aF):Sp:=λvs H Q _=>∃(a:Addr)(ns:List Int)(m:Int),vs=[.ref a,.int m]/\bB K H a^ns.map V.int/\0<m/\m<=1000 /\
 ∀q H' (ks:List Int),aC H H'->H' q=some^.lst^ks.map V.int->0<ks.length->ks.length<=1000->(∀k∈ks,i8 k)->Q (.ref q) H'
theorem F2(T:Txt w K mg):bQ P w K mg base gj 2 T.pool.f T.pool.d ["_law_script", "_law_most"]^Ul K:=by
 show T.pool.F.ok yP (λvs H Q E h=>?_) (λcdv A outer s H vs Q E hr h=>?_);let#[a,ns,n,rfl,_]:=h;rfl;let#[a,ns,m,rfl,hS,h0,h1,q]:=h;show#[_,(ak (bq 2 yP.nd^aJ T.iV (gO T) hr^aa (pv 0)^aa ai af)^jt (bI (bY cN (az bh (aJ T.iV (gO T) hr^aa (pv 0)^aa ai af) ai) ai) (ao^bq 2 yP.nd^aJ T.mixed (qt T) hr^aa (pv 2)^aa ai af) aL)^ao^aE^cT (bA.cz "_law_k" ["_law_cell"] [2] ["_law_cell"] rfl) (dI rfl T.eK^aa (az bL ai^az bh (pv 2)^pv 1) af) (λ_ _ _ _=>dG) (λ_ _ _ _=>(az bh (az bL (az bR (pv 1) ai)^az jG ai^pv 0) ai))),?_];change(_:TS) (Ends.mk _ _ _ _) [_,_,_] H;k_in;lk;show#[a,ns,1,rfl,hS,by decide,λc=>?_];lk;show rT (λσ' H'=>H'=H/\∃c:Int,σ'=[some^.ref a,some^.int m,some^.int c]) ?_ ?_
 .lk;show#[a,ns,0,rfl,hS,by decide,λc0=>?_];lk
  .show#[c,_,rfl,λc2 _ _=>?_];lk;show#[rfl,_,rfl]
  .show#[rfl,_,rfl]
 rintro _ H' ⟨rfl,c,rfl⟩;have b:=cV (a:=c) h0;lk;show iT (λi ys H1=>H1=H'/\∃ks:List Int,ys=ks.map V.int/\ks.length=i/\∀k∈ks,i8 k) #[rfl,[],rfl,rfl,λk h=>nomatch h] ?_ ?_
 .rintro i ys H1 hi ⟨rfl,ks,rfl,hk,hb⟩;show#[bZ (by rw[aq];lia),?_];lk;show#[rfl,ks++[_],by rw[bG];rfl,by simp[hk],λk h=>?_];rcases aP.mp h with h|h;show hb k h;rw[aA.mp h];show cV (by decide)
 .rintro ys H1 ⟨rfl,ks,rfl,hk,hb⟩ p H4 n4;show q p H4 ks n4.same n4.self ∅ ∅ hb
theorem L8(h0:0<=s)(h1:s<9):∃ch,qU ("+-*/<=&|^" : Str).cps.toList s=some ch/\(#[#v[ch]]:Str)∈signs:=by
 let#[ch,hch,Xu]:=D6 (xs:=("+-*/<=&|^" : Str).cps.toList) (i:=s) h0 (by change s<9;lia);have all:∀ch∈("+-*/<=&|^" : Str).cps.toList,(#[#v[ch]]:Str)∈signs:=by decide
 show#[ch,hch,all ch Xu]
noncomputable def picks(part:Str)(xs:List Str)(ys:List V):List V:=((xs.zip ys).filter λx=>decide (x.1=part)).map (·.2)
theorem D7{part x:Str}{xs:List Str}(hx:xs[i]?=some x)(hy:ys[i]?=some y):picks part (xs.take (i+1))^ys.take (i+1)=picks part (xs.take i)^ys.take i++if x=part then[y] else[]:=by have h1:i<xs.length:=(eX hx).1;have h2:i<ys.length:=(eX hy).1;unfold picks;rw[bS,bS,hx,hy,List.zip_append (by rw[cB,cB];lia),jh,bG];congr 1;by_cases e:x=part;simp[e];simp[e]
def Bk(r:Row):picks "place" r.parts r.rest=r.ways.map V.int:=by cases r<;>rfl
def F3(r:Row):r.rest.length=r.parts.length:=by cases r<;>rfl
def xJ(r:Row):r.rest.length<=6:=by cases r<;>simp[Row.rest]
def Xv(x:V)(xs:List V):gW (x::xs) (some 1) none=xs:=by
 unfold gW;have e:HT.dM (x::xs).length 0^some 1=1:=by rw[show(some (1:Int))=some ((1:Nat):Int) from rfl,HT.ny];simp
 rw[e,HT.o9];simp
def Bl(T:Txt w K mg)(r:Row):∃p,fQ [(.inr "num", .ref T.gm.qd),(.inr "copy", .ref T.gm.qe),(.inr "op", .ref T.gm.qf),(.inr "out", .ref T.gm.qg),(.inr "fork", .ref T.gm.qh),(.inr "look", .ref T.gm.qi),(.inr "mark", .ref T.gm.qj),(.inr "back", .ref T.gm.qk)] (.inr r.key:Key)=some^V.ref p/\i6 K p^r.parts.map V.str:=by cases r;show#[_,rfl,T.gm.A8];show#[_,rfl,T.gm.A9];show#[_,rfl,T.gm.Ba];show#[_,rfl,T.gm.Bb];show#[_,rfl,T.gm.Bc];show#[_,rfl,T.gm.Bd];show#[_,rfl,T.gm.Be];show#[_,rfl,T.gm.Bf]
def HX(K:aF):Sp:=λvs H Q _=>∃(a:Addr)(r:Row)(part:Str),vs=[.ref a,.str part]/\H a=some^.tup r.vals/\∀p H',aC H H'->H p=none->H' p=some^.lst^picks part r.parts r.rest->Q (.ref p) H'
theorem ki(T:Txt w K mg):bQ P w K mg base gj 1 T.iQ.f T.iQ.d ["row", "part"]^HX K:=by
 show T.iQ.F.ok wu (λvs H Q E h=>?_) (λcdv A outer s H vs Q E hr h=>?_);let#[a,r,part,rfl,_]:=h;rfl;let#[a,r,part,rfl,ha,q]:=h;show#[_,(ao^aE^Ac (iS.of (xs:=["own", "number"]) (bA.cz "own" ["part"] [1] ["part"] rfl)^by decide +kernel) (Dj rfl T.L6^aa (Ah T.gm.yT (gD (v:=.ref T.gm.qc) rfl T.gm.yS rfl) (br aZ (pv 0) ai) (λ_ _=>rfl))^aa (cU k9 (pv 0) (dF ai) eB) af) (λ_ _ _ _=>(sP (K:=K) rfl (n:=2) rfl^bw (di 0 (show(["own", "number", "part"]:List Str).Nodup from by decide +kernel))^bw (di 1 (show(["own", "number", "part"]:List Str).Nodup from by decide +kernel)) fE)) (λ_ _ _ _=>(lu^bY cN (pv 0)^pv 2)) (λ_ _ _ _=>(pv 1))),?_];let#[pp,hpp,cp]:=Bl T r;change(_:TS) (Ends.mk _ _ _ _) [_,_] H;k_in;lk;show WS hpp ?_;lk;rename_i t H1 n1;have et:gW r.vals (some 1) none=r.rest:=Xv _ _;rw[et] at n1 ⊢;have hlen:=F3 r;have hsm:=xJ r;show KD (λi zs τ H'=>aC H1 H'/\zs=picks part (r.parts.take i)^r.rest.take i/\∃x y,τ=[x,y,some^.str part]) ?_ ?_ ?_ ?_ ?_;show#[aC.refl _,by simp[picks],_,_,rfl];rintro i zs τ H' hi ⟨sm,rfl,x,y,rfl⟩;show#[i6.sq cp,cY.of^sm _ _ n1.self,?_];unfold picks;rw[aq];show bO (iL _ _) ?_;rw[List.length_zip,cB];lia;rw[aq];lia
 .rintro i x y p zs τ H' H2 hx hy ⟨sm,rfl,x0,y0,rfl⟩ n2;rw[aW] at hx;let#[x',hx',rfl]:=cE.mp hx;have e:=D7 (part:=part) hx' hy;lk
  .rename_i he;rw[if_pos he] at e;show#[by walk_at "same", e.symm,_,_,rfl]
  .rename_i he;rw[if_neg he,fL] at e;show#[by walk_at "same", e.symm,_,_,rfl]
 .rintro zs τ H' ⟨sm,rfl,x,y,rfl⟩ p H2 n2;show q p H2 (by walk_at "same") (by walk_at "free") ?_;rw[n2.self,aq,hlen,Nat.min_self,cg,<- hlen,cg]
def Um(K:aF):Sp:=λvs H Q _=>∃(a:Addr)(r:Row),vs=[.ref a]/\H a=some^.tup r.vals/\∀p H',aC H H'->H p=none->H' p=some^.lst^r.ways.map V.int->Q (.ref p) H'
def vn(T:Txt w K mg):bQ P w K mg base gj 2 T.ql.f T.ql.d ["row"]^Um K:=by show T.ql.F.ok DX (λvs H Q E h=>?_) (λcdv A outer s H vs Q E hr h=>?_);let#[a,r,rfl,_]:=h;rfl;let#[a,r,rfl,ha,q]:=h;show#[_,(ao^aE^aJ T.iQ (ki T) hr^aa (pv 0)^aa aR af),?_];change(_:TS) (Ends.mk _ _ _ _) [_] H;k_in;lk;show#[a,r, "place", rfl,ha,λp H' sm hp e=>?_];rw[Bk] at e;show q p H' sm hp e
noncomputable def Row.dN(f:Int->Int):Row->Row
 | .num d k v q=>.num d k v (f q)|.copy d k i q=>.copy d k i (f q)|.op d s k i j q=>.op d s k i j (f q)|.out i q=>.out i (f q)|.fork i q p=>.fork i (f q) (f p)|.look i q=>.look i (f q)|.mark q=>.mark (f q)|.back i=>.back i
def Row.HY(f:Int->Int)(r:Row):(r.dN f).key=r.key:=by cases r<;>rfl
def Row.HZ(f:Int->Int)(r:Row):(r.dN f).rest.length=r.rest.length:=by cases r<;>rfl
def Ie(f:Int->Int)(r:Row):∀(i:Nat)(x:Str)(y:V),r.parts[i]?=some x->r.rest[i]?=some y->(x = "place" /\ ∃z∈r.ways,y=.int z/\(r.dN f).rest[i]?=some^.int^f z)\/(x ≠ "place" /\ (r.dN f).rest[i]?=some y):=by
 intro i x y hx hy;cases r<;>rcases i with _|_|_|_|_|_|i<;>erw[Row.parts,Row.rest,List.getElem?_cons_zero,ou,List.getElem?_nil,Option.some.injEq,reduceCtorEq] at hx hy
 all_goals subst hx hy
 all_goals first
  | show .inl #[rfl,_,by simp[Row.ways],rfl,rfl]
  | show .inr #[by decide,rfl]
theorem F4{τ:L2.St}(f:Row->Row)(hS:bB K H a us)(hrs:Rows H us rs)(hz:us.length<=100000)
  (he:∀r∈rs,∀ra H1,aC H H1->H1 ra=some^.tup^Row.vals r->∀Q:VK,(∀t H2,aC H1 H2->H2 t=some^.tup (f r).vals->Q (.ref t) H2)->te (some^.ref ra::τ) H1 Q)
  (h:∀us' p H1 H',aC H H1->eV H1 p (.lst us') H'->Rows H' us'^rs.map f->Q (.ref p) H'):Dh (NB K a) Of te τ Q H:=by have sr:=hrs.length;show ig (xs:=us) (λi ys H'=>aC H H'/\Rows H' ys^(rs.take i).map f) #[aC.refl _,.nil] ?_ ?_ ?_;rintro i ys H' hi ⟨sm,_⟩;show sm.seq hS;rintro i x ys H' hx ⟨sm,hys⟩;have hi:i<us.length:=(eX hx).1;show#[bZ (by rw[hys.length,aq,cB];lia),?_];show Q6^SY ?_;let#[r,hr',#[ra,rfl,sH]]:=bf hrs hx;show he r (eY hr') ra H' sm (sm _ _ sH) _ λt H2 s2 ht=>#[sm.trans s2,?_];rw[bS,hr',bG];show cF (Rows.same s2 hys) #[t,rfl,ht];rintro ys H' ⟨sm,hys⟩ p H2 n2;rw[sr,cg] at hys;show h ys p H' H2 sm n2^hys.same n2.same
def D8(K:aF):Sp:=λvs H Q _=>∃(a m:Addr)(r:Row)(us:List V)(f:Int->Int),vs=[.ref a,.ref m]/\H a=some^.tup r.vals/\H m=some^.lst us/\(∀z∈r.ways,qU us z=some^.int^f z)/\∀t H',aC H H'->H' t=some^.tup (r.dN f).vals->Q (.ref t) H'
theorem qu(T:Txt w K mg):bQ P w K mg base gj 1 T.kK.f T.kK.d ["row", "moved"]^D8 K:=by
 show T.kK.F.ok qa (λvs H Q E h=>?_) (λcdv A outer s H vs Q E hr h=>?_);let#[a,m,r,us,f,rfl,_]:=h;rfl;let#[a,m,r,us,f,rfl,ha,hm,hf,q]:=h;show#[_,(ak (Ai (i:=2) qa.nd rfl (Or.inl rfl) (iS.of (xs:=["part", "number"]) (bA.cz "part" ["moved"] [1] ["moved"] rfl)^by decide +kernel) (Dj rfl T.L6^aa (Ah T.gm.yT (gD (v:=.ref T.gm.qc) rfl T.gm.yS rfl) (br aZ (pv 0) ai) (λ_ _=>rfl))^aa (cU k9 (pv 0) (dF ai) eB) af) (λ_ _ _ _=>(sP (K:=K) rfl (n:=2) rfl^bw (di 0 (show(["part", "number", "moved"]:List Str).Nodup from by decide +kernel))^bw (di 1 (show(["part", "number", "moved"]:List Str).Nodup from by decide +kernel)) fE)) (λ_ _ _ _=>dG) (λ_ _ _ _=>(fO (bY cN (pv 0) aR) (br (gr (K:=K) rfl) (pv 2)^pv 1)^pv 1)))^ao^aE^cA wX rfl T.F1 BT.EY^aa (az yt (bT^aa (br aZ (pv 0) ai) af)^pv 2) af),?_];let#[pp,hpp,cp]:=Bl T r;change(_:TS) (Ends.mk _ _ _ _) [_,_,_] H;k_in;lk;show WS hpp ?_;lk;rename_i t H3 n3;have et:gW r.vals (some 1) none=r.rest:=Xv _ _;rw[et] at n3 ⊢;have hlen:=F3 r;have hsm:=xJ r;have hml:=Row.HZ f r;have hm3:=n3.keep hm;show KD (λi zs τ H'=>aC H3 H'/\zs=(r.dN f).rest.take i/\∃x y,τ=[x,y,some^.ref m]) ?_ ?_ ?_ ?_ ?_;show#[aC.refl _,rfl,_,_,rfl];rintro i zs τ H' hi ⟨sm,rfl,x,y,rfl⟩;show#[i6.sq cp,cY.of^sm _ _ n3.self,?_];rw[cB];lia;rw[aq];lia
 .rintro i x y p zs τ H' H4 hx hy ⟨sm,rfl,x0,y0,rfl⟩ n4;rw[aW] at hx;let#[x',hx',rfl]:=cE.mp hx;have Z6:H4 m=some^.lst us:=n4.keep^sm _ _ hm3;rcases Ie f r i x' y hx' hy with⟨rfl,z,hz,rfl,e⟩|⟨hne,e⟩
  .lk;show cL (bB.of Z6) (hf z hz) ?_;show#[sm.trans n4.same,?_,_,_,rfl];rw[bS,e];rfl
  .lk;show#[sm.trans n4.same,?_,_,_,rfl];rw[bS,e];rfl
 .rintro zs τ H' ⟨sm,rfl,x,y,rfl⟩ p H4 n4;rw[aq,hlen,Nat.min_self,<- hlen,<- hml,cg] at n4;have Rw:H4 a=some^.tup r.vals:=n4.keep^sm _ _^n3.keep ha;lk;rename_i l5 H5 n5 l6 H6 n6 l7 H7 n7;show q _ _ ((((n3.same.trans sm).trans n4.same).trans n5.same).trans^n6.same.trans n7.same) ?_;rw[n7.self];change _=some^HO.tup (.str (r.dN f).key::(r.dN f).rest);rw[Row.HY];rfl
noncomputable def Row.nK:Row->List Int
 | .num _ k _ _=>[k]|.copy _ k i _=>[k,i]|.op _ _ k i j _=>[k,i,j]|.out i _=>[i]|.fork i _ _=>[i]|.look i _=>[i]|.mark _=>[]|.back i=>[i]
noncomputable def Row.fJ:Row->Bool
 | .num ..=>true|.copy ..=>true|.op ..=>true|_=>false
noncomputable def Row.sd:Row->Int
 | .num d _ _ _=>d|.copy d _ _ _=>d|.op d _ _ _ _ _=>d|_=>2
def xK(r:Row):picks "box" r.parts r.rest=r.nK.map V.int:=by cases r<;>rfl
def mR(h:r.ok n):∀b∈r.nK,0<=b/\b<8:=by cases r<;>erw[Row.ok] at h<;>erw[Row.nK,aH,g7,or_false]<;>intro b hb;rw[hb];show h.2.1;rcases hb with e|e<;>rw[e];show h.2.1;show h.2.2.1;rcases hb with e|e|e<;>rw[e];show h.2.2.1;show h.2.2.2.1;show h.2.2.2.2.1;rw[hb];show h.1;rw[hb];show h.1;rw[hb];show h.1;show hb.elim;rw[hb];show h
def Pa(r:Row):r.nK.length<=3:=by cases r<;>simp[Row.nK]
abbrev bE(H:Hp):List V->List (Int×Int)->Prop:=Paired λv p=>∃a,v=.ref a/\H a=some^.tup [.int p.1,.int p.2]
def bE.same(e:aC H H')(h:bE H vs ps):bE H' vs ps:=cQ (λ_ _ ⟨a,h1,h2⟩=>#[a,h1,e _ _ h2]) h
def bE.i9(e:iw H H')(h:bE H vs ps):bE H' vs ps:=cQ (λ_ _ ⟨a,h1,h2⟩=>#[a,h1,e _ _ h2]) h
noncomputable def iy(r:Row)(s:Int):Bool:=!r.fJ||decide (r.sd=s)||decide (r.sd=2)
noncomputable def lJ(r:Row)(bs:List Int):List (Int×Int):=[0,1].flatMap λs=>if iy r s then(SN.fG bs).map λb=>(s,b) else[]
def nL(r:Row):pF (.str r.key) [.str "num", .str "copy", .str "op"]=r.fJ:=by
 have k:∀x∈(["num", "copy", "op"]:List Str),pF (.str x) [.str "num", .str "copy", .str "op"]=true:=by decide +kernel
 have n:∀x∈(["out", "fork", "look", "mark", "back"]:List Str),pF (.str x) [.str "num", .str "copy", .str "op"]=false:=by decide +kernel
 cases r<;>first|show k _ (by simp[Row.key])|show n _ (by simp[Row.key])
def F5(h:r.fJ=true):qU r.vals 1=some^.int r.sd:=by cases r<;>first|rfl|cases h
def zc(d s:Int):pF (.int d) [.int s,.int 2]=(decide (d=s)||decide (d=2)):=by erw[pF,jB,List.any_nil,Bool.or_false,N9];rw[show(s==d)=decide (d=s) from by rw[Bool.beq_comm];rfl,show((2:Int)==d)=decide (d=2) from by rw[Bool.beq_comm];rfl]
def D9(r:Row)(bs:List Int)(h:([0,1]:List Int)[i]?=some s):(([0,1]:List Int).take (i+1)).flatMap (λs=>if iy r s then(SN.fG bs).map λb=>(s,b) else[])=(([0,1]:List Int).take i).flatMap (λs=>if iy r s then(SN.fG bs).map λb=>(s,b) else[])++if iy r s then(SN.fG bs).map λb=>(s,b) else[]:=by rw[bS,h,List.flatMap_append];simp
def kN(ns:List Int):(SN.fG ns).length<=8:=by unfold SN.fG;rw[aq];show bO (iL ..) (by simp)
def jO{F:α->β->Prop}{xs:List α}{ys:List β}{xs':List α}{ys':List β}(h:Paired F xs ys)(h':Paired F xs' ys'):Paired F (xs++xs') (ys++ys'):=by
 induction h with
 | nil=>show h'
 | cons a _ ih=>show .cons a ih
def F6:Sp:=λvs H Q _=>∃(a b:Addr)(r:Row)(bs:List Int),vs=[.ref a,.ref b]/\H a=some^.tup r.vals/\H b=some^.lst^bs.map V.int/\(∀n∈bs,0<=n/\n<8)/\bs.length<=3 /\
 ∀(l:Addr)(us:List V)(H':Hp),aC H H'->H l=none->H' l=some^.lst us->bE H' us^lJ r bs->Q (.ref l) H'
theorem Bm(T:Txt w K mg):bQ P w K mg base gj 1 T.Bg.f T.Bg.d ["row", "boxes"] F6:=by
 show T.Bg.F.ok u7 (λvs H Q E h=>?_) (λcdv A outer s H vs Q E hr h=>?_);let#[a,b,r,bs,rfl,_]:=h;rfl;let#[a,b,r,bs,rfl,ha,hb,F7,NF,q]:=h;show#[_,(ak (bq 2 u7.nd^bT af)^ak (cP bD rfl (JH^gD (v:=.ref T.xH.a) rfl T.xH.c rfl) (di 3 u7.nd)^ao^bI (PW.pt^lO (cK f7 (br aZ (pv 0) ai) (gD (v:=.ref T.jM.a) rfl T.jM.c rfl)^by with_unfolding_all rfl)^jk^cK fz (br aZ (pv 0) ai) (bC^aa (pv 3)^aa (gD (v:=.int 2) rfl T.acj.c #[_,rfl]) af)^by with_unfolding_all rfl) (ao^dR^i0 dj o5 o6 kC (pv 2)^aa (cT (bA.cz "box" ["side"] [3] ["side"] rfl) (bP^aQ (oN rfl) rfl T.kL BT.kF^aa (cA (qY rfl) rfl T.F0 BT.z8^aa (pv 1) af) af) (λ_ _ _ _=>dG) (λ_ _ _ _=>(bC^aa (pv 1)^aa (pv 0) af))) af) aL)^ao^aE^pv 2),?_];change(_:TS) (Ends.mk _ _ _ _) [_,_,_,_] H;have cd:=T.jM.q;have cs:=T.xH.q;k_in;lk;rename_i fo H1 n1;have ffo:=n1.1;have Xw:=n1.self;have s1:=n1.same;clear n1;show f_tup (xs:=[.int 0,.int 1]) (λi σ' H'=>∃x us,σ'=[some^.ref a,some^.ref b,some^.ref fo,x]/\aC H H'/\H' fo=some^.lst us/\bE H' us ((([0,1]:List Int).take i).flatMap λs=>if iy r s then(SN.fG bs).map λb=>(s,b) else[])) ?_ ?_ ?_ ?_;show#[none,[],rfl,s1,Xw,.nil];rintro i σ' H' _ ⟨x,us,rfl,s',_⟩;show i6.sq cs
 .rintro i x σ' H2 hx ⟨x0,us,rfl,s2,Ma,mF⟩;obtain⟨s,hs,rfl⟩:∃s,([0,1]:List Int)[i]?=some s/\x=.int s:=by
   match i,hx with
   | 0,hx=>cases hx;show#[0,rfl,rfl]
   | 1,hx=>cases hx;show#[1,rfl,rfl]
  have step:=D9 r bs hs;have sr:us.length<=16:=by
   have h1:=mF.length;rw[h1];have h8:=kN bs
   match i,hs with
   | 0,_=>show aI _
   | 1,_ =>
    change(([0]:List Int).flatMap _).length<=16;rw[List.flatMap_singleton];split;rw[aq];lia;show aI _
  clear Xw s1;show abh ?_;show W2 ?_;intro kt0 kf0 Uo Ig;have hK:∀H',aC H2 H'->H' fo=some^.lst us->iy r s=true->kt0 H':=λH3 s3 Mb Pb=>by
   show Uo _ ?_;clear Uo Ig;rw[Pb,if_pos rfl] at step;have Uq:=s3 _ _^s2 _ _ hb;have Ih:=mF.same s3;lk;show TN (bB.of Uq) F7 ∅ ?_;intro p4 H4 n4;lk;show Ff n4.self F7 ?_;intro p5 H5 n5;lk;show ig (xs:=(SN.fG bs).map V.int) (λj ys H'=>aC H5 H'/\bE H' ys (((SN.fG bs).take j).map λb=>(s,b))) #[aC.refl _,.nil] ?_ ?_ ?_;rintro j ys H' _ ⟨s',_⟩;show bB.of^s' _ _ n5.self
   .rintro j x ys H6 hx ⟨s6,hys⟩;rw[aW] at hx;let#[y,hy,rfl]:=cE.mp hx;have hyl:=hys.length;rw[aq,cB] at hyl;have h8:=kN bs;show#[bZ ∅,?_];lk;rename_i t7 H7 n7;show#[s6.trans n7.same,?_];rw[bS,hy,bG];show cF (hys.same n7.same) #[t7,rfl,n7.self]
   rintro ys H6 ⟨s6,hys⟩ p7 H7 n7;rw[aq,cg] at hys;have hyl:=hys.length;rw[aq] at hyl;have h8:=kN bs;have ack:=n7.keep^s6 _ _^n5.keep^n4.keep Mb;have Ur:=((n4.same.trans n5.same).trans s6).trans n7.same;have acm:=Ih.same Ur;have Us:=hys.same n7.same;have Z7:=n7.self;have npf:fo≠p7:=aV (s6 _ _^n5.keep^n4.keep Mb) n7.1;have s07:=(s2.trans s3).trans Ur;clear n4 n5 s6 n7 hys Ih Mb Uq Ur;lk;rename_i H8 p8;have tt:iw H7 H8:=λb xs e=>p8.keep (uf e ack (by intro z;cases z)) e;show#[_,_,rfl,p8.same s07 ffo,p8.self,?_];rw[step];show jO (acm.i9 tt)^Us.i9 tt
  clear Uo;have hN:∀H',aC H2 H'->H' fo=some^.lst us->iy r s=false->kf0 H':=λH3 s3 Mb Pb=>by show Ig _ ?_;clear Ig;rw[Pb] at step;lk;show#[_,_,rfl,s2.trans s3,Mb,?_];rw[step];simpa using mF.same s3
  clear Ig mF step;have ha2:=s2 _ _ ha;have hdi:=nL r;lk;rw[hdi];cases rX:r.fJ with
  | false =>
   erw[Bool.not_false,if_true];show hK H2 (aC.refl _) Ma (by unfold iy;rw[rX];rfl)
  | true =>
   erw[gH,bW,if_false];lk;show uB (cY.of ha2) (F5 rX) ?_;lk;rename_i t4 H4 n4;have esd:pF (.int r.sd) [.int s,.int 2]=iy r s:=by rw[zc];unfold iy;rw[rX];rfl
   rw[esd];cases hsr:iy r s with
   | true=>rw[if_pos rfl];show hK H4 n4.same (n4.keep Ma) hsr
   | false=>rw[if_neg^by decide];show hN H4 n4.same (n4.keep Ma) hsr
 .rintro σ' H2 ⟨x0,us,rfl,s2,Ma,mF⟩;lk;show q fo us H2 s2 ffo Ma mF
def Row.Bo(r:Row):List Int:=if r.fJ then r.nK.drop 1 else r.nK
def d7(r:Row):List (Int×Int):=lJ r r.Bo
noncomputable def bM(r:Row):List (Int×Int):=if r.fJ then lJ r^r.nK.take 1 else[]
def sZ:∀b∈r.Bo,b∈r.nK:=λb hb=>by unfold Row.Bo at hb;split at hb;show List.mem_of_mem_drop hb;show hb
theorem Pc(r:Row):r.Bo.length<=3:=by have:=Pa r;unfold Row.Bo;split;rw[qL];lia;show this
def Pd:Sp:=λvs H Q _=>∃(a:Addr)(r:Row)(n:Int),vs=[.ref a]/\H a=some^.tup r.vals/\r.ok n/\∀(l:Addr)(us:List V)(H':Hp),aC H H'->H l=none->H' l=some^.lst us->bE H' us^d7 r->Q (.ref l) H'
def Bp(T:Txt w K mg):bQ P w K mg base gj 2 T.reads.f T.reads.d ["row"] Pd:=by
 show T.reads.F.ok A3 (λvs H Q E h=>?_) (λcdv A outer s H vs Q E hr h=>?_);let#[a,r,n,rfl,_]:=h;rfl;let#[a,r,n,rfl,ha,hok,q]:=h;show#[_,(ak (bq 1 A3.nd^aJ T.iQ (ki T) hr^aa (pv 0)^aa aR af)^ao^aE^aJ T.Bg (Bm T) hr^aa (pv 0)^aa (fO (cK fz (br aZ (pv 0) ai) (gD (v:=.ref T.jM.a) rfl T.jM.c rfl)^by with_unfolding_all rfl) (cU jq (pv 1) (dF ai) eB)^pv 1) af),?_];change(_:TS) (Ends.mk _ _ _ _) [_,_] H;have cd:=T.jM.q;have hdi:=nL r;k_in;lk;show#[a,r, "box", rfl,ha,λp H1 s1 fp hp=>?_];rw[xK] at hp;have ha1:=s1 _ _ ha;have fin:∀(c:Addr)(H2:Hp),aC H H2->H2 a=some^.tup r.vals->H2 c=some^.lst^r.Bo.map V.int->F6 [.ref a,.ref c] H2 Q E0:=λc H2 s2 ha2 hc=>#[a,c,r,r.Bo,rfl,ha2,hc,λb hb=>mR hok b^sZ b hb,Pc r,λl us H3 s3 fl hl mF=>q l us H3 (s2.trans s3) (s2.free fl) hl mF];lk;rw[hdi];cases rX:r.fJ with
 | true =>
  rw[if_pos rfl];lk;rename_i c H2 n2;have ec:gW (r.nK.map V.int) (some 1) none=r.Bo.map V.int:=by unfold Row.Bo;rw[rX,if_pos rfl];cases r<;>first|rfl|cases rX
  rw[ec] at n2;show fin c H2 (s1.trans n2.same) (n2.keep ha1) n2.self
 | false =>
  rw[if_neg^by decide];lk;show fin p H1 s1 ha1 (by unfold Row.Bo;rw[rX];show hp)
def Pe:Sp:=λvs H Q _=>∃(a:Addr)(r:Row)(n:Int),vs=[.ref a]/\H a=some^.tup r.vals/\r.ok n/\∀(l:Addr)(us:List V)(H':Hp),aC H H'->H l=none->H' l=some^.lst us->bE H' us^bM r->Q (.ref l) H'
theorem Bq(T:Txt w K mg):bQ P w K mg base gj 2 T.gives.f T.gives.d ["row"] Pe:=by
 show T.gives.F.ok LZ (λvs H Q E h=>?_) (λcdv A outer s H vs Q E hr h=>?_);let#[a,r,n,rfl,_]:=h;rfl;let#[a,r,n,rfl,ha,hok,q]:=h;show#[_,(ao^aE^fO (cK fz (br aZ (pv 0) ai) (gD (v:=.ref T.jM.a) rfl T.jM.c rfl)^by with_unfolding_all rfl) (aJ T.Bg (Bm T) hr^aa (pv 0)^aa (cU jq (aJ T.iQ (ki T) hr^aa (pv 0)^aa aR af) eB^dF ai) af)^bT af),?_];change(_:TS) (Ends.mk _ _ _ _) [_] H;have cd:=T.jM.q;have hdi:=nL r;k_in;lk;rw[hdi];cases rX:r.fJ with
 | true =>
  rw[if_pos rfl];lk;show#[a,r, "box", rfl,ha,λp H1 s1 fp hp=>?_];rw[xK] at hp;have ha1:=s1 _ _ ha;lk;rename_i c H2 n2;have ec:gW (r.nK.map V.int) none^some 1=(r.nK.take 1).map V.int:=by cases r<;>rfl
  rw[ec] at n2;show#[a,c,r,r.nK.take 1,rfl,n2.keep ha1,n2.self,λb hb=>mR hok b^List.mem_of_mem_take hb,by rw[cB];lia,λl us H3 s3 fl hl mF=>q l us H3 ((s1.trans n2.same).trans s3) ((s1.trans n2.same).free fl) hl ?_];unfold bM;rw[rX];show mF
 | false =>
  rw[if_neg^by decide];lk;rename_i l H1 n1;show q l [] H1 n1.same n1.1 n1.self ?_;unfold bM;rw[rX];show .nil
inductive cH (rs:List Row) (p:Int×Int):Nat->Prop
 | here {k:Nat} {r:Row} (h:rs[k]?=some r) (m:p∈d7 r):cH rs p k
 | on {k q:Nat} {r:Row} (h:rs[k]?=some r) (m:p∉bM r) (w:((q:Nat):Int)∈r.ways) (l:cH rs p q):cH rs p k
def cH.lt{rs:List Row}{p:Int×Int}{k:Nat}(h:cH rs p k):k<rs.length:=by
 cases h with
 | here h _=>show(eX h).1
 | on h _ _ _=>show(eX h).1
def cH.read{p:Int×Int}(h:cH rs p k):∃r∈rs,p∈d7 r:=by
 induction h with
 | here h m=>show#[_,eY h,m]
 | on _ _ _ _ ih=>show ih
def jZ{p:Int×Int}{S:Nat->Prop}(h1:∀k r,rs[k]?=some r->p∈d7 r->S k)(h2:∀(k q:Nat) r,rs[k]?=some r->p∉bM r->((q:Nat):Int)∈r.ways->S q->S k):∀k,cH rs p k->S k:=by
 intro k h;induction h with
 | here h m=>show h1 _ _ h m
 | on h m w _ ih=>show h2 _ _ _ h m w ih
def isLive(rs:List Row)(k:Nat)(p:Int×Int):Bool:=@decide (cH rs p k)^Classical.propDecidable _
def fY{p:Int×Int}:isLive rs k p=true↔cH rs p k:=by unfold isLive;show @decide_eq_true_iff _^Classical.propDecidable _
noncomputable def bV:List (Int×Int):=[(0,0),(0,1),(0,2),(0,3),(0,4),(0,5),(0,6),(0,7),(1,0),(1,1),(1,2),(1,3),(1,4),(1,5),(1,6),(1,7)]
def ja(rs:List Row)(k:Nat):List (Int×Int):=bV.filter^isLive rs k
def Br:bV.Pairwise (λp q=>SN.rk p<SN.rk q):=by decide
theorem Bs{p:Int×Int}(h1:p.1=0\/p.1=1)(h2:0<=p.2/\p.2<8):p∈bV:=by let#[a,b]:=p;dsimp only at h1 h2;have hb:b=0\/b=1\/b=2\/b=3\/b=4\/b=5\/b=6\/b=7:=∅;rcases h1 with rfl|rfl<;>rcases hb with rfl|rfl|rfl|rfl|rfl|rfl|rfl|rfl<;>decide
def Bt{bs:List Int}(hb:∀b∈bs,0<=b/\b<8){p:Int×Int}(h:p∈lJ r bs):p∈bV:=by unfold lJ at h;let#[s,hs,h]:=l9.mp h;split at h;let#[b,hb1,rfl]:=aD.mp h;show Bs ?_^hb b^(SN.jy hb b).mp hb1;erw[aH,g7,or_false] at hs;show hs;show nomatch h
def reads_in(h:r.ok n){p:Int×Int}(hp:p∈d7 r):p∈bV:=Bt (λb hb=>mR h b^sZ b hb) hp
theorem F8:∀{xs ys:List (Int×Int)},xs.Pairwise (λp q=>SN.rk p<SN.rk q)->ys.Pairwise (λp q=>SN.rk p<SN.rk q)->(∀p,p∈xs↔p∈ys)->xs=ys
 | [],[],_,_,_=>rfl
 | [],y::ys,_,_,h=>absurd ((h y).mpr^by simp) (by simp)
 | x::xs,[],_,_,h=>absurd ((h x).mp^by simp) (by simp)
 | x::xs,y::ys,hx,hy,h=>by
  rw[qM] at hx hy;have e:x=y:=by rcases aH.mp ((h x).mp^by simp) with e|h1;show e;rcases aH.mp ((h y).mpr^by simp) with e|h2;show e.symm;have a1:=hy.1 x h1;have a2:=hx.1 y h2;lia
  subst e;congr 1;show F8 hx.2 hy.2 λp=>#[λhp=>?_,λhp=>?_];rcases aH.mp ((h p).mp^by simp[hp]) with e|h1;have:=hx.1 p hp;rw[e] at this;lia;show h1;rcases aH.mp ((h p).mpr^by simp[hp]) with e|h1;have:=hy.1 p hp;rw[e] at this;lia;show h1
def Pf(hok:∀r∈rs,r.ok n){qs:List (Int×Int)}(hup:qs.Pairwise (λp q=>SN.rk p<SN.rk q))(hm:∀p,p∈qs↔∃r∈rs,p∈d7 r)(k:Nat):qs.filter^isLive rs k=ja rs k:=by show F8 (hup.sublist List.filter_sublist) (Br.sublist List.filter_sublist) λp=>?_;rw[c9];unfold ja;rw[c9];show#[λ⟨h1,h2⟩=>#[?_,h2],λ⟨h1,h2⟩=>#[(hm p).mpr (fY.mp h2).read,h2]];let#[r,hr,hp]:=(hm p).mp h1;show reads_in (hok r hr) hp
def mS(rs:List Row)(k:Nat):(ja rs k).length<=16:=bO (iL _ _) (by decide)
theorem jn{α:Type}[DecidableEq α]:∀{xs ys:List α},xs.Nodup->(∀x∈xs,x∈ys)->xs.length<=ys.length
 | [],_,_,_=>aI _
 | x::xs,ys,h,q=>by rw[gZ] at h;have hx:=q x (by simp);have:=jn (ys:=ys.erase x) h.2 λy hy=>(List.mem_erase_of_ne (λ(e:y=x)=>h.1 (by rw[<- e];show hy))).mpr (q y^by simp[hy]);rw[List.length_erase_of_mem hx] at this;have hp:=List.length_pos_of_mem hx;rw[cW];lia
theorem Xx{p q:Int×Int}(h:SN.rk p<SN.rk q):p≠q:=λe=>by rw[e] at h;lia
def Mc(p:Int×Int):putK (ps.map λp=>(v7 p,V.bl true)) (v7 p)^.bl true=(if p∈ps then ps else ps++[p]).map λp=>(v7 p,V.bl true):=by
 have hany:((ps.map λp=>(v7 p,V.bl true)).any λkv=>decide (kv.1=v7 p))=decide (p∈ps):=by
  induction ps with
  | nil=>rfl
  | cons x ps ih =>
   rw[cG,jB,ih];by_cases e:x=p;simp[e];have e1:¬v7 x=v7 p:=λz=>e^OF z;have e2:¬p=x:=λz=>e z.symm;simp[e1,e2]
 unfold putK;rw[hany];by_cases h:p∈ps;rw[if_pos^decide_eq_true h,if_pos h,gq];show List.map_congr_left λx _=>?_;change(if v7 x=v7 p then(v7 x,V.bl true) else(v7 x,V.bl true))=_;split<;>rfl;rw[if_neg^by simpa using h,if_neg h,bG];rfl
noncomputable def cnt(rs:List Row)(j:Nat):Nat:=(rs.map λr=>r.ways.count (j:Int)).sum
def Me(h:rs[i]?=some r)(j:Nat):cnt (rs.take (i+1)) j=cnt (rs.take i) j+r.ways.count (j:Int):=by unfold cnt;rw[bS,h,bG,List.sum_append];simp
def Led(rs:List Row)(i j:Nat)(x:Int):Prop:=∃k r,k<i/\x=((k:Nat):Int)/\rs[k]?=some r/\((j:Nat):Int)∈r.ways
theorem Led.succ(h:rs[i]?=some r):Led rs (i+1) j x↔Led rs i j x\/(x=((i:Nat):Int)/\((j:Nat):Int)∈r.ways):=by constructor;rintro⟨k,r',h1,h2,h3,h4⟩;by_cases e:k=i;subst e;rw[h] at h3;cases h3;show .inr #[h2,h4];show .inl #[k,r',∅,h2,h3,h4];rintro(⟨k,r',h1,h2,h3,h4⟩|⟨h1,h2⟩);show#[k,r',∅,h2,h3,h4];show#[i,r,∅,h1,h,h2]
def vo(H:Hp)(rs:List Row)(as:List Addr):Prop:=∀(j:Nat) a,as[j]?=some a->∃l:List Int,H a=some^.lst^l.map V.int/\l.length<=2*rs.length/\∀x,x∈l↔Led rs rs.length j x
def Xy(H:Hp)(rs:List Row)(as:List Addr):Prop:=∀(j:Nat) a,as[j]?=some a->∃l:List Int,H a=some^.lst^l.map V.int/\l.length=cnt rs j
def vo.same{as:List Addr}(e:aC H H')(h:vo H rs as):vo H' rs as:=λj a ha=>by let#[l,h1,h2]:=h j a ha;show#[l,e _ _ h1,h2]
def Pg(K:aF):Sp:=λvs H Q _=>∃(p:Addr)(us:List V)(rs:List Row),vs=[.ref p]/\H p=some^.lst us/\Rows H us rs/\(∀r∈rs,r.ok rs.length)/\rs.length<=1000 /\
 ∀f H' (as:List Addr),aC H H'->H' f=some^.lst^as.map V.ref->as.length=rs.length->vo H' rs as->Xy H' rs as->Q (.ref f) H'
theorem su(T:Txt w K mg):bQ P w K mg base gj 3 T.leading.f T.leading.d ["code"]^Pg K:=by
 show T.leading.F.ok jJ (λvs H Q E h=>?_) (λcdv A outer s H vs Q E hr h=>?_);let#[p,us,rs,rfl,_]:=h;rfl;let#[p,us,rs,rfl,hp,hrs,hok,hl,q]:=h;show#[_,(ak (ly (i:=1) jJ.nd rfl (Or.inl rfl) (bA.plain rfl (by decide +kernel) (by decide +kernel) rfl (by decide +kernel) rfl) (bP^pv 0) (λ_ _ _ _=>dG) (λ_ _ _ _=>(bT af)))^ak (cP bD rfl (lz rfl T.fX^aa (pv 0) af) (k7 (n:=2) rfl^bw (di 2 jJ.nd)^bw (di 3 jJ.nd) fE)^ao^cP bD rfl (bP^aJ T.ql (vn T) hr^aa (pv 3) af) (di 4 jJ.nd)^ao^dR^i0 dj gA gB d9 (br bN (pv 1)^pv 4)^aa (pv 2) af)^ao^aE^pv 1),?_];have sr:=hrs.length;change(_:TS) (Ends.mk _ _ _ _) [_,_,_,_,_] H;k_in;lk;show ig (xs:=us) (λi ys H'=>aC H H'/\∃as:List Addr,ys=as.map V.ref/\as.length=i/\as.Nodup/\∀a∈as,H a=none/\H' a=some^.lst []) ?_ ?_ ?_ ?_;show#[aC.refl _,[],rfl,rfl,kW,λa h=>nomatch h];rintro i ys H' hi ⟨sm,as,rfl,_⟩;show bB.of^sm _ _ hp
 .rintro i x ys H' hx ⟨sm,as,rfl,ha,hn,hh⟩;have hi:i<us.length:=(eX hx).1;show#[bZ (by rw[aq];lia),?_];lk;rename_i b H2 n2;show#[sm.trans n2.same,as++[b],by simp,by simp[ha],?_,λa h=>?_];rw[gJ];show#[hn,by simp,λa h c hc=>?_];rw[aA.mp hc];intro e;rw[e] at h;have:=(hh b h).2;rw[n2.1] at this;cases this;rcases aP.mp h with h|h;show#[(hh a h).1,n2.keep (hh a h).2];rw[aA.mp h];show#[sm.free n2.1,n2.self]
 rintro ys H1 ⟨sm1,as,rfl,hal,hnd,has⟩ f H2 n2;lk;have acn:f∉as:=λh=>by have:=(has f h).2;rw[n2.1] at this;cases this
 have hHf:H f=none:=sm1.free n2.1;show uF (xs:=us) (λi σ' H'=>aC H H'/\H' f=some^.lst^as.map V.ref/\(∃x y z,σ'=[some^.ref p,some^.ref f,x,y,z])/\∀(j:Nat) a,as[j]?=some a->∃l:List Int,H' a=some^.lst^l.map V.int/\l.length<=2*i/\l.length=cnt (rs.take i) j/\∀x,x∈l↔Led rs i j x) ?_ ?_ ?_ ?_;show#[sm1.trans n2.same,n2.self,#[_,_,_,rfl],λj a h=>#[[],n2.keep (has a^eY h).2,aI _,rfl,λx=>#[λh=>(nomatch h),λ⟨k,_,hk,_⟩=>absurd hk ∅]]];rintro i σ' H' hi ⟨sm,_⟩;show bB.of^sm _ _ hp
 .rintro i x t σ' H' H3 hx ⟨sm,hf,⟨x0,y0,z0,rfl⟩,hL⟩ n3;have hi:i<us.length:=(eX hx).1;let#[r,hr',#[ra,rfl,sH]]:=bf hrs hx;have Ph:H3 ra=some^.tup r.vals:=n3.keep^sm _ _ sH;lk;show#[ra,r,rfl,Ph,λpw H4 s4 hpw e4=>?_];lk;have Xz:=Row.gG^hok r^eY hr';have hwl:=Row.jN r;show f_list (xs:=r.ways.map V.int) (λk σ' H'=>aC H H'/\H' pw=some^.lst^r.ways.map V.int/\H' f=some^.lst^as.map V.ref/\(∃z,σ'=[some^.ref p,some^.ref f,some^.int i,some^.ref ra,z]) /\
   ∀(j:Nat) a,as[j]?=some a->∃l:List Int,H' a=some^.lst^l.map V.int/\l.length<=2*i+k/\l.length=cnt (rs.take i) j+(r.ways.take k).count ((j:Nat):Int)/\∀x,x∈l↔Led rs i j x\/(x=((i:Nat):Int)/\((j:Nat):Int)∈r.ways.take k)) ?_ ?_ ?_ ?_
  .show#[(sm.trans n3.same).trans s4,e4,s4 _ _^n3.keep hf,#[_,rfl],λj a h=>?_];let#[l,e,hl,hc,hm]:=hL j a h;show#[l,s4 _ _^n3.keep e,∅,by rw[hc];rfl,λx=>by rw[hm x];simp]
  .rintro k σ' H' hk ⟨_,e,_⟩;show bB.of e
  .rintro k x σ' H5 hx ⟨sm5,hw5,vp,⟨z1,rfl⟩,Z8⟩;have hk:k<(r.ways.map V.int).length:=(eX hx).1;rw[aq] at hk;rw[aW] at hx;let#[y,hy,rfl]:=cE.mp hx;have Z9:=Xz y^eY hy;have ey:y=((y.toNat:Nat):Int):=∅;have hj:y.toNat<as.length:=∅;have Ea:as[y.toNat]?=some as[y.toNat]:=by simp[hj]
   generalize as[y.toNat]'hj=a at Ea;let#[l,el,Ut,hlc,hm]:=Z8 _ a Ea;lk;show cL (bB.of vp) (v:=.ref a) (by rw[ey];show cR (by rw[aW,Ea];rfl)) ?_;have hml:(l.map V.int).length=l.length:=aq _;lk;rename_i H6 n6;have acp:pw≠a:=λe=>by rw[e] at hpw;have h2:H3 a=none:=hpw;let#[l',e',_]:=hL _ a Ea;rw[n3.keep e'] at h2;cases h2
   have Uu:f≠a:=λe=>acn (e▸eY Ea);show#[n6.same sm5 (has a^eY Ea).1,n6.keep acp hw5,n6.keep Uu vp,#[_,rfl],λj b hb=>?_];rw[bS,hy];by_cases e:j=y.toNat;subst e;rw[Ea] at hb;cases hb;show#[l++[((i:Nat):Int)],by rw[bG];show n6.self,by rw[aO];simp;lia,?_,λx=>?_];rw[aO,List.count_append,hlc,<- ey];simp;lia;rw[aP,hm x,aA,aP,<- ey];erw[nv,aA,or_true,and_true];constructor;rintro((h|h)|h);show .inl h;show .inr h.1;show .inr h;rintro(h|h);show .inl^.inl h;show .inr h
   .let#[l',e',hl',acq,hm']:=Z8 j b hb;have hba:b≠a:=λeb=>by subst eb;show e^rC hnd hb Ea
    show#[l',n6.keep hba e',∅,?_,λx=>?_];have hne:¬y=((j:Nat):Int):=∅;rw[List.count_append,acq];simp[hne];have hne:¬((j:Nat):Int)=y:=∅;rw[hm' x,aP];erw[nv,aA,hne,or_false]
  .rintro σ' H5 ⟨sm5,hw5,vp,⟨z1,rfl⟩,Z8⟩;show#[sm5,vp,#[_,_,_,rfl],λj a h=>?_];let#[l,e,hl,hc,hm]:=Z8 j a h;rw[aq] at hl hc;rw[cg] at hc;show#[l,e,∅,by rw[hc,Me hr'],λx=>?_];rw[hm x,Led.succ hr',aq,cg]
 .rintro σ' H' ⟨sm,hf,⟨x0,y0,z0,rfl⟩,hL⟩;lk;show q f H' as sm hf ∅ (λj a h=>?_) λj a h=>?_;let#[l,e,hl,_,hm]:=hL j a h;rw[sr] at hl hm;show#[l,e,hl,hm];let#[l,e,_,hc,_]:=hL j a h;rw[sr,cg] at hc;show#[l,e,hc]
def Uv(K:aF):Sp:=λvs H Q _=>∃(p:Addr)(us:List V)(rs:List Row),vs=[.ref p]/\H p=some^.lst us/\Rows H us rs/\(∀r∈rs,r.ok rs.length)/\rs.length<=1000 /\
 ∀f H' (as:List Addr),aC H H'->H' f=some^.lst^as.map V.ref->as.length=rs.length->vo H' rs as->Q (.ref f) H'
def Eb(T:Txt w K mg):bQ P w K mg base gj 3 T.leading.f T.leading.d ["code"] (Uv K) :=
 (su T).imp λvs H Q E h=>by let#[p,us,rs,h1,h2,h3,h4,h5,q]:=h;show#[p,us,rs,h1,h2,h3,h4,h5,λf H' as a b c d _=>q f H' as a b c d]
abbrev mT(H:Hp):List V->List^List (Int×Int)->Prop:=Paired λv ps=>∃a us,v=.ref a/\H a=some^.lst us/\bE H us ps
theorem mT.same{NG:List^List (Int×Int)}(e:aC H H')(h:mT H vs NG):mT H' vs NG:=cQ (λ_ _ ⟨a,us,h1,h2,h3⟩=>#[a,us,h1,e _ _ h2,h3.same e]) h
def Uw:Sp:=λvs H Q _=>∃(p:Addr)(zs:List V)(NG:List^List (Int×Int)),vs=[.ref p]/\H p=some^.lst zs/\mT H zs NG/\(∀ps∈NG,∀q∈ps,q∈bV) /\
 ∀(l:Addr)(us:List V)(qs:List (Int×Int))(H':Hp),aC H H'->H l=none->H' l=some^.lst us->bE H' us qs->qs.Pairwise (λp q=>SN.rk p<SN.rk q)->(∀q,q∈qs↔∃ps∈NG,q∈ps)->Q (.ref l) H'
theorem zd(T:Txt w K mg):bQ P w K mg base gj 1 T.nI.f T.nI.d ["lists"] Uw:=by
 show T.nI.F.ok jv (λvs H Q E h=>?_) (λcdv A outer s H vs Q E hr h=>?_);let#[p,zs,NG,rfl,_]:=h;rfl;let#[p,zs,NG,rfl,hp,hzs,hin,q]:=h;show#[_,(ak (bq 1 jv.nd Ka)^ak (cP bD rfl (bP^pv 0) (di 2 jv.nd)^ao^cP bD rfl (bP^pv 2) (di 3 jv.nd)^ao^EW (uw hr) (pv 1) (pv 3) jm rfl)^ao^aE^aQ (Dy rfl) rfl T.kL BT.kF^aa (pv 1) af),?_];change(_:TS) (Ends.mk _ _ _ _) [_,_,_,_] H;k_in;lk;rename_i d H1 n1;have fd:=n1.1;have s1:=n1.same;have hd1:=n1.self;clear n1;show f_list (xs:=zs) (λi σ' H'=>(∃x y,σ'=[some^.ref p,some^.ref d,x,y])/\aC H H'/\∃ps:List (Int×Int),H' d=some^.dT (ps.map λp=>(v7 p,V.bl true))/\ps.Nodup/\(∀q∈ps,q∈bV)/\∀q,q∈ps↔∃qs∈NG.take i,q∈qs) ?_ ?_ ?_ ?_;show#[#[_,_,rfl],s1,[],hd1,kW,(λq h=>nomatch h),λq=>by simp];rintro i σ' H' _ ⟨_,s',_⟩;show bB.of^s' _ _ hp
 .rintro i x σ' H2 hx ⟨⟨x0,y0,rfl⟩,s2,ps,hd2,nd,hall,hmem⟩;let#[qs,NH,a,us,rfl,ha,mF]:=bf hzs hx;have ha2:=s2 _ _ ha;have Ii:=mF.same s2;have hqa:=hin qs^eY NH;lk;show f_list (xs:=us) (λj σ' H'=>(∃y,σ'=[some^.ref p,some^.ref d,some^.ref a,y])/\aC H H'/\∃ps:List (Int×Int),H' d=some^.dT (ps.map λp=>(v7 p,V.bl true))/\ps.Nodup/\(∀q∈ps,q∈bV)/\∀q,q∈ps↔(∃qs∈NG.take i,q∈qs)\/q∈qs.take j) ?_ ?_ ?_ ?_;show#[#[_,rfl],s2,ps,hd2,nd,hall,λq=>by rw[hmem q];simp];rintro j σ' H' _ ⟨_,s',_⟩;show bB.of^s' _ _ ha
  .rintro j x σ' H3 hx ⟨⟨y0,rfl⟩,s3,ps,HJ,nd,hall,hmem⟩;let#[t,htj,b,rfl,hb]:=bf mF hx;have Uq:=s3 _ _ hb;have hpl:ps.length<=16:=jn nd hall;lk;show Xa (k:=v7 t) HJ Uq (by rw[aq];lia) ?_;intro H4 p4;rw[Mc] at p4;lk;show#[#[_,rfl],p4.same s3 fd,_,p4.self,?_,?_,λq=>?_];by_cases h:t∈ps;rw[if_pos h];show nd;rw[if_neg h,gJ];show#[nd,by simp,λx hx y hy e=>h (by rw[<- aA.mp hy,<- e];show hx)]
   .intro q hq;by_cases h:t∈ps;rw[if_pos h] at hq;show hall q hq
    .rw[if_neg h] at hq;rcases aP.mp hq with hq|hq;show hall q hq;rw[aA.mp hq];show hqa t^eY htj
   .rw[bS,htj,aP];erw[nv,aA];by_cases h:t∈ps;rw[if_pos h,hmem q];constructor;rintro(h1|h1);show .inl h1;show .inr^.inl h1;rintro(h1|h1|h1);show .inl h1;show .inr h1;rw[h1];show(hmem t).mp h;rw[if_neg h,aP,hmem q,aA,or_assoc]
  .rintro σ' H3 ⟨⟨y0,rfl⟩,s3,ps,HJ,nd,hall,hmem⟩;show#[#[_,_,rfl],s3,ps,HJ,nd,hall,λq=>?_];rw[hmem q,mF.length,cg,bS,NH];erw[aP,nv,aA];constructor;rintro(⟨qs',h1,h2⟩|h1);show#[qs',.inl h1,h2];show#[qs,.inr rfl,h1];rintro⟨qs',h1|h1,h2⟩;show .inl #[qs',h1,h2];subst h1;show .inr h2
 .rintro σ' H2 ⟨⟨x0,y0,rfl⟩,s2,ps,hd2,nd,hall,hmem⟩;have hpl:ps.length<=16:=jn nd hall;lk;show OG (f:=λ_=>.bl true) hd2 (λq hq=>?_) ∅ λl us qs H3 n3 mF Fd hup=>?_
  .have all:∀q∈bV,0<=q.2/\q.2<1000:=by decide
   show all q^hall q hq
  .show q l us qs H3 (s2.trans n3.same) (s2.free n3.1) n3.self (bE.same n3.same mF) hup λq=>?_;rw[Fd.mem_iff,hmem q,hzs.length,cg]
def vq(x:Int):∀ss:List Int,(fQ (ss.map λk=>((.inl k:Key),V.bl true))^.inl x).isSome=decide (x∈ss):=λss=>by
 rw[<- kD];induction ss with
 | nil=>rfl
 | cons y ss ih =>
  rw[cG,jB,ih];by_cases e:y=x;simp[e];have e1:¬(Sum.inl y:Key)=Sum.inl x:=λz=>e^Sum.inl.inj z;have e2:¬x=y:=λz=>e z.symm;simp[e1,e2]
def Mf(h:x∉ss):putK (ss.map λk=>((.inl k:Key),V.bl true)) (.inl x)^.bl true=(ss++[x]).map λk=>((.inl k:Key),V.bl true):=by unfold putK;rw[kD,vq,decide_eq_false h,if_neg^by decide,bG];rfl
structure Apart (H5:Hp) (f l cm sn:Addr) (as:List Addr):Prop where
 c5:H5 cm=none
 n5:H5 sn=none
 a5:∀a∈as,H5 a=none
 fc:f≠cm
 fs:f≠sn
 lc:l≠cm
 ls:l≠sn
 cs:cm≠sn
 ca:cm∉as
 sa:sn∉as
 fa:f∉as
 la:l∉as
 nd:as.Nodup
structure zL (H5 H6:Hp) (f l cm sn:Addr) (as:List Addr) (us:List V) (cs ss:List Int) (g:Nat->List (Int×Int)) (H:Hp):Prop where
 s5:aC H5 H
 t6:iw H6 H
 hf:H f=some^.lst^as.map V.ref
 hl:H l=some^.lst us
 hc:H cm=some^.lst^cs.map V.int
 hs:H sn=some^.dK (ss.map λk=>(.inl k,.bl true))
 ha:∀(k:Nat) a,as[k]?=some a->∃vs,H a=some^.lst vs/\bE H vs^g k
section
variable {H5 H6:Hp}{cm sn:Addr}{as:List Addr}{us:List V}{cs':List Int}{g g':Nat->List (Int×Int)}
def zL.new{p:Addr}(x:zL H5 H6 f l cm sn as us cs ss g H)(n:eV H p o H'):zL H5 H6 f l cm sn as us cs ss g H' :=
 #[x.s5.trans n.same,x.t6.trans^sT n.same,n.keep x.hf,n.keep x.hl,n.keep x.hc,n.keep x.hs,λk a e=>let⟨vs,h1,h2⟩:=x.ha k a e;#[vs,n.keep h1,h2.same n.same]]
theorem zL.same(x:zL H5 H6 f l cm sn as us cs ss g H)(n:aC H H'):zL H5 H6 f l cm sn as us cs ss g H' :=
 #[x.s5.trans n,x.t6.trans^sT n,n _ _ x.hf,n _ _ x.hl,n _ _ x.hc,n _ _ x.hs,λk a e=>let⟨vs,h1,h2⟩:=x.ha k a e;#[vs,n _ _ h1,h2.same n]]
def zL.XA(A:Apart H5 f l cm sn as)(x:zL H5 H6 f l cm sn as us cs ss g H)(p:qE H cm (.lst^cs'.map V.int) H'):zL H5 H6 f l cm sn as us cs' ss g H':=by have tt:iw H H':=λb xs e=>p.keep (uf e x.hc (by intro z;cases z)) e;show#[p.same x.s5 A.c5,x.t6.trans tt,p.keep A.fc x.hf,p.keep A.lc x.hl,p.self,p.keep A.cs.symm x.hs,λk a e=>let⟨vs,h1,h2⟩:=x.ha k a e;#[vs,p.keep (λz=>A.ca (by rw[<- z];show eY e)) h1,h2.i9 tt]]
def zL.acs(A:Apart H5 f l cm sn as){ss':List Int}(x:zL H5 H6 f l cm sn as us cs ss g H)(p:qE H sn (.dK (ss'.map λk=>(.inl k,.bl true))) H'):zL H5 H6 f l cm sn as us cs ss' g H':=by have tt:iw H H':=λb xs e=>p.keep (uf e x.hs (by intro z;cases z)) e;show#[p.same x.s5 A.n5,x.t6.trans tt,p.keep A.fs x.hf,p.keep A.ls x.hl,p.keep A.cs x.hc,p.self,λk a e=>let⟨vs,h1,h2⟩:=x.ha k a e;#[vs,p.keep (λz=>A.sa (by rw[<- z];show eY e)) h1,h2.i9 tt]]
def zL.acu(A:Apart H5 f l cm sn as){aj:Addr}{vj:List V}(x:zL H5 H6 f l cm sn as us cs ss g H)(hj:as[j]?=some aj){w:List V}(hold:H aj=some^.lst w)(p:qE H aj (.lst vj) H')(hv:bE H vj^g' j)(hg:∀k,k≠j->k<as.length->g' k=g k):zL H5 H6 f l cm sn as us cs ss g' H':=by have mj:=eY hj;have tt:iw H H':=λb xs e=>p.keep (uf e hold (by intro z;cases z)) e;show#[p.same x.s5^A.a5 aj mj,x.t6.trans tt,p.keep (λz=>A.fa (by rw[z];show mj)) x.hf,p.keep (λz=>A.la (by rw[z];show mj)) x.hl,p.keep (λz=>A.ca (by rw[z];show mj)) x.hc,p.keep (λz=>A.sa (by rw[z];show mj)) x.hs,λk a e=>?_];by_cases ek:k=j;subst ek;rw[hj] at e;cases e;show#[vj,p.self,hv.i9 tt];let#[vs,h1,h2]:=x.ha k a e;show#[vs,p.keep (λz=>ek^rC A.nd e (by rw[z];show hj)) h1,?_];rw[hg k ek (eX e).1];show h2.i9 tt
end
structure F9 (rs:List Row) (t:Int×Int) (cs ss:List Int):Prop where
 c1:∀x∈cs,∃k:Nat,x=((k:Nat):Int)/\cH rs t k
 s1:∀x∈ss,∃k:Nat,x=((k:Nat):Int)/\cH rs t k
 nd:ss.Nodup
 rd:∀(k:Nat) r,rs[k]?=some r->t∈d7 r->((k:Nat):Int)∈ss\/((k:Nat):Int)∈cs
 cl:∀(k q:Nat) r,rs[k]?=some r->t∉bM r->((q:Nat):Int)∈r.ways->((q:Nat):Int)∈ss->((k:Nat):Int)∈ss\/((k:Nat):Int)∈cs
 ln:cs.length<=rs.length+ss.length*(2*rs.length)
section
variable {rs:List Row}{t:Int×Int}
def Ij(nd:ss.Nodup){n:Nat}(h:∀x∈ss,∃k:Nat,x=((k:Nat):Int)/\k<n):ss.length<=n:=by
 have:=jn nd (ys:=(List.range n).map λk:Nat=>(k:Int)) λx hx=>by let#[k,rfl,hk]:=h x hx;show aD.mpr #[k,fN.mpr hk,rfl]
 rw[aq,l0] at this;show this
def F9.few(d:F9 rs t cs ss):ss.length<=rs.length:=Ij d.nd λx hx=>by let#[k,e,h]:=d.s1 x hx;show#[k,e,h.lt]
theorem F9.short(d:F9 rs t cs ss)(h:rs.length<=200):cs.length<=81000:=by have h1:=d.few;have h2:=d.ln;have h3:ss.length*(2*rs.length)<=200*400:=Nat.mul_le_mul ∅ ∅;lia
theorem F9.skip(d:F9 rs t (cs++[x]) ss)(h:x∈ss):F9 rs t cs ss where
 c1:=λy hy=>d.c1 y (by simp[hy])
 s1:=d.s1
 nd:=d.nd
 rd:=λk r h1 h2=>by rcases d.rd k r h1 h2 with a|a;show .inl a;rcases aP.mp a with a|a;show .inr a;rw[aA.mp a];show .inl h
 cl:=λk q r h1 h2 h3 h4=>by rcases d.cl k q r h1 h2 h3 h4 with a|a;show .inl a;rcases aP.mp a with a|a;show .inr a;rw[aA.mp a];show .inl h
 ln:=by have:=d.ln;rw[aO] at this;simp at this;lia
theorem F9.step{es:List Int}(d:F9 rs t (cs++[x]) ss)(h:x∉ss)(h1:∀y,y∈es↔∃(k j:Nat)(r:Row),y=((k:Nat):Int)/\x=((j:Nat):Int)/\rs[k]?=some r/\((j:Nat):Int)∈r.ways/\t∉bM r)(h2:es.length<=2*rs.length):F9 rs t (cs++es) (ss++[x]) where
 c1:=λy hy=>by rcases aP.mp hy with a|a;show d.c1 y (by simp[a]);let#[k,j,r,rfl,ej,hr,hw,hg]:=(h1 y).mp a;let#[j',ej',hj]:=d.c1 x (by simp);have e:j=j':=∅;subst e;show#[k,rfl,.on hr hg hw hj]
 s1:=λy hy=>by rcases aP.mp hy with a|a;show d.s1 y a;rw[aA.mp a];show d.c1 x (by simp)
 nd:=by rw[gJ];show#[d.nd,by simp,λa ha b hb e=>h (by rw[<- aA.mp hb,<- e];show ha)]
 rd:=λk r a b=>by rcases d.rd k r a b with c|c;show .inl (by simp[c]);rcases aP.mp c with c|c;show .inr (by simp[c]);show .inl (by simp[aA.mp c])
 cl:=λk q r a b c e=>by rcases aP.mp e with e|e;rcases d.cl k q r a b c e with z|z;show .inl (by simp[z]);rcases aP.mp z with z|z;show .inr (by simp[z]);show .inl (by simp[aA.mp z]);have e:=aA.mp e;show .inr^aP.mpr^.inr^(h1 _).mpr #[k,q,r,rfl,e.symm,a,c,b]
 ln:=by have:=d.ln;rw[aO] at this;erw[aO,ji] at this ⊢;rw[Nat.add_mul];lia
theorem F9.done(d:F9 rs t [] ss)(k:Nat):((k:Nat):Int)∈ss↔cH rs t k:=by
 constructor;intro h;let#[j,e,hj]:=d.s1 _ h;have:k=j:=∅;rw[this];show hj
 .intro h;show jZ (S:=λk=>((k:Nat):Int)∈ss) (λk r a b=>?_) (λk q r a b c e=>?_) k h;rcases d.rd k r a b with z|z;show z;show nomatch z;rcases d.cl k q r a b c e with z|z;show z;show nomatch z
noncomputable def XC(n s c:Nat):Nat:=(n-s)*(2*n+1)+c
theorem Ux{n s c e:Nat}(hs:s<n)(he:e<=2*n):XC n (s+1) (c+e)<XC n s (c+1):=by unfold XC;obtain⟨d,hd⟩:∃d,n-s=d+1:=#[n-s-1,∅];have h2:n-(s+1)=d:=∅;rw[hd,h2,Nat.add_mul];lia
def Ik{qs:List (Int×Int)}(hi:qs[i]?=some t)(h:((k:Nat):Int)∈ss↔cH rs t k):(qs.take (i+1)).filter^isLive rs k=(qs.take i).filter^isLive rs k++if((k:Nat):Int)∈ss then[t] else[]:=by rw[bS,hi,jh];congr 1;change[t].filter^isLive rs k=_;by_cases e:cH rs t k;rw[if_pos^h.mpr e,qH^fY.mpr e];rfl;rw[if_neg (λz=>e^h.mp z),qG (λz=>e^fY.mp z)];rfl
end
def sy(H:Hp)(as:List Addr)(rs:List Row):Prop:=∀(k:Nat) a,as[k]?=some a->∃us,H a=some^.lst us/\bE H us^ja rs k
theorem mT.at{H:Hp}{vs:List V}{rs:List Row}{f:Row->List (Int×Int)}(h:mT H vs^rs.map f){k:Nat}{r:Row}(e:rs[k]?=some r):∃a us,vs[k]?=some^.ref a/\H a=some^.lst us/\bE H us^f r:=by
 have hl:=h.length;rw[aq] at hl;have hk:k<vs.length:=by rw[hl];show(eX e).1
 have hv:vs[k]?=some vs[k]:=dJ hk;let#[ps,h1,a,us,h2,h3,h4]:=bf h hv;rw[aW,e] at h1;cases h1;show#[a,us,by rw[hv,h2],h3,h4]
def Uy:Sp:=λvs H Q _=>∃(p:Addr)(us:List V)(rs:List Row),vs=[.ref p]/\H p=some^.lst us/\Rows H us rs/\(∀r∈rs,r.ok rs.length)/\rs.length<=200 /\
 ∀(f:Addr)(as:List Addr)(H':Hp),aC H H'->H f=none->H' f=some^.lst^as.map V.ref->as.length=rs.length->as.Nodup->(∀a∈as,H a=none)->f∉as->sy H' as rs->Q (.ref f) H'
theorem Ga(T:Txt w K mg):bQ P w K mg base gj 4 T.live.f T.live.d ["code"] Uy:=by
 show T.live.F.ok ju (λvs H Q E h=>?_) (λcdv A outer s H vs Q E hr h=>?_);let#[p,us,rs,rfl,_]:=h;rfl;let#[p,us,rs,rfl,hp,hrs,hok,hn,q]:=h;show#[_,(ak (ly (i:=1) ju.nd rfl (Or.inl rfl) (bA.plain rfl (by decide +kernel) (by decide +kernel) rfl (by decide +kernel) rfl) (bP^pv 0) (λ_ _ _ _=>dG) (λ_ _ _ _=>(aJ T.reads (Bp T) hr^aa (pv 0) af)))^ak (bq 2 ju.nd^cT (bA.plain rfl (by decide +kernel) (by decide +kernel) rfl (by decide +kernel) rfl) (bP^pv 0) (λ_ _ _ _=>dG) (λ_ _ _ _=>(aJ T.gives (Bq T) hr^aa (pv 0) af)))^ak (bq 3 ju.nd^aJ T.leading (Eb T) hr^aa (pv 0) af)^ak (ly (i:=4) ju.nd rfl (Or.inl rfl) (bA.plain rfl (by decide +kernel) (by decide +kernel) rfl (by decide +kernel) rfl) (bP^pv 0) (λ_ _ _ _=>dG) (λ_ _ _ _=>(bT af)))^ak (cP bD rfl (bP^aJ T.nI (zd T) hr^aa (pv 1) af) (di 5 ju.nd)^ak (Ai (i:=6) ju.nd rfl (Or.inl rfl) (iS.of (xs:=["place", "some"]) (bA.cz "place" ["spot"] [5] ["spot"] rfl)^by decide +kernel) (lz rfl T.fX^aa (pv 1) af) (λ_ _ _ _=>(sP (K:=K) rfl (n:=2) rfl^bw (di 0 (show(["place", "some", "spot"]:List Str).Nodup from by decide +kernel))^bw (di 1 (show(["place", "some", "spot"]:List Str).Nodup from by decide +kernel)) fE)) (λ_ _ _ _=>(lu^cK ((Ft (K:=K) rfl) hr.units) (pv 2) (pv 1)^by with_unfolding_all rfl)) (λ_ _ _ _=>(pv 0)))^ak (bq 7 ju.nd J9)^ao^ku bD (qW (pv 6) (λ_=>rfl))^ak (bq 8 ju.nd^C7 dj PySem.F.slot_list_pop PySem.F.type_list_pop JY^pv 6)^ao^bI (CS^G4 (uw hr) (pv 8)^pv 7) (ak (EW (uw hr) (pv 7) (pv 8) jm rfl)^ak (dR^i0 dj gA gB d9 (br bN (pv 4)^pv 8)^aa (pv 5) af)^ao^dR^i0 dj o5 o6 kC (pv 6)^aa (cT (bA.cz "other" ["giving", "spot"] [2,5] ["spot", "giving"] rfl) (bP^br bN (pv 3)^pv 8) (λ_ _ _ _=>(lu^cK ((Dw (K:=K) rfl) hr.units) (pv 2) (br (gr (K:=K) rfl) (pv 1)^pv 0)^by with_unfolding_all rfl)) (λ_ _ _ _=>(pv 0))) af) aL)^ao^aE^pv 4),?_];have sr:=hrs.length;change(_:TS) (Ends.mk _ _ _ _) [_,_,_,_,_,_,_,_,_] H;k_in;lk;show ig (xs:=us) (λi ys H'=>aC H H'/\mT H' ys^(rs.take i).map d7) #[aC.refl _,.nil] ?_ ?_ ?_;rintro i ys H' _ ⟨s',_⟩;show bB.of^s' _ _ hp
 .rintro i x ys H1 hx ⟨s1,hys⟩;let#[r,Pj,a,rfl,ha]:=bf hrs hx;have hyl:=hys.length;rw[aq,cB] at hyl;show#[bZ ∅,?_];lk;show#[a,r,rs.length,rfl,s1 _ _ ha,hok r^eY Pj,λl ws H2 s2 _ hl hws=>#[s1.trans s2,?_]];rw[bS,Pj,bG];show cF (hys.same s2) #[l,ws,rfl,hl,hws]
 rintro rzs H1 ⟨s1,hrz⟩ rd H2 n2;rw[sr,cg] at hrz;have XD:=n2.self;have XE:=hrz.same n2.same;have s2:=s1.trans n2.same;clear n2 s1 hrz;have hp2:=s2 _ _ hp;have Mg:=hrs.same s2;lk;show ig (xs:=us) (λi ys H'=>aC H2 H'/\mT H' ys^(rs.take i).map bM) #[aC.refl _,.nil] ?_ ?_ ?_;rintro i ys H' _ ⟨s',_⟩;show bB.of^s' _ _ hp2
 .rintro i x ys H3 hx ⟨s3,hys⟩;let#[r,Pj,a,rfl,ha]:=bf Mg hx;have hyl:=hys.length;rw[aq,cB] at hyl;show#[bZ ∅,?_];lk;show#[a,r,rs.length,rfl,s3 _ _ ha,hok r^eY Pj,λl ws H4 s4 _ hl hws=>#[s3.trans s4,?_]];rw[bS,Pj,bG];show cF (hys.same s4) #[l,ws,rfl,hl,hws]
 rintro gzs H3 ⟨s3,hgz⟩ gv H4 n4;rw[sr,cg] at hgz;have XF:=n4.self;have XG:=hgz.same n4.same;have Pk:=s3.trans n4.same;clear n4 s3 hgz;have hp4:=Pk _ _ hp2;have XH:=Mg.same Pk;have XI:=Pk _ _ XD;have XJ:=XE.same Pk;have s4:=s2.trans Pk;clear Pk hp2 Mg XD XE s2;lk;show#[p,us,rs,rfl,hp4,XH,hok,∅,λah H5 als Uz UA hal acz=>?_];have hp5:=Uz _ _ hp4;have XM:=Uz _ _ XI;have XN:=XJ.same Uz;have acA:=Uz _ _ XF;have acB:=XG.same Uz;have s5:=s4.trans Uz;clear Uz hp4 XH XI XJ XF XG s4;lk;show ig (xs:=us) (λi ys H'=>aC H5 H'/\∃as:List Addr,ys=as.map V.ref/\as.length=i/\as.Nodup/\∀a∈as,H5 a=none/\H' a=some^.lst []) #[aC.refl _,[],rfl,rfl,kW,λa h=>nomatch h] ?_ ?_ ?_;rintro i ys H' _ ⟨s',_⟩;show bB.of^s' _ _ hp5
 .rintro i x ys H6 hx ⟨s6,as,rfl,ha,nd,hh⟩;have hi:i<us.length:=(eX hx).1;show#[bZ (by rw[aq];lia),?_];lk;rename_i b H7 n7;show#[s6.trans n7.same,as++[b],by simp,by simp[ha],?_,λa h=>?_];rw[gJ];show#[nd,by simp,λa h c hc e=>?_];rw[aA.mp hc] at e;subst e;have:=(hh a h).2;rw[n7.1] at this;cases this;rcases aP.mp h with h|h;show#[(hh a h).1,n7.keep (hh a h).2];rw[aA.mp h];show#[s6.free n7.1,n7.self]
 rintro ys H6 ⟨Rx,as,rfl,sF,nd,has⟩ f H7 n7;have HW:=n7.self;have f5:H5 f=none:=Rx.free n7.1;have fa:f∉as:=λh=>by have:=(has f h).2;rw[n7.1] at this;cases this
 have Pn:∀a∈as,H5 a=none/\H7 a=some^.lst []:=λa h=>#[(has a h).1,n7.keep (has a h).2];have s57:=Rx.trans n7.same;clear n7 Rx has;have Po:=s57 _ _ XM;have XO:=XN.same s57;lk;show#[rd,rzs,rs.map d7,rfl,Po,XO,?_,λl ws qs H8 s78 fl hl8 XQ hup hmem=>?_];intro ps hps t ht;let#[r,hr,rfl]:=aD.mp hps;show reads_in (hok r hr) ht;have Jv:=s78 _ _ HW;have s58:=s57.trans s78;have la:l∉as:=λh=>by have:=(Pn l h).2;rw[fl] at this;cases this
 have lf:l≠f:=λe=>by rw[e,HW] at fl;cases fl
 have hql:qs.length<=16:=jn (hup.imp λh=>Xx h) (ys:=bV) λt ht=>by let#[ps,hps,hq]:=(hmem t).mp ht;let#[r,hr,rfl]:=aD.mp hps;show reads_in (hok r hr) hq
 have UB:∀a∈as,H5 a=none/\H8 a=some^.lst []:=λa h=>#[(Pn a h).1,s78 _ _ (Pn a h).2];clear s78 HW Po XO Pn fl s57;lk;show f_list (xs:=ws) (λi σ' H'=>(∃x y z u,σ'=[some^.ref p,some^.ref rd,some^.ref gv,some^.ref ah,some^.ref f,x,y,z,u])/\aC H5 H'/\iw H8 H'/\H' f=some^.lst^as.map V.ref/\H' l=some^.lst ws/\∀(k:Nat) a,as[k]?=some a->∃vs,H' a=some^.lst vs/\bE H' vs^(qs.take i).filter^isLive rs k) ?_ ?_ ?_ ?_;show#[#[_,_,_,_,rfl],s58,iw.refl _,Jv,hl8,λk a e=>#[[],(UB a^eY e).2,.nil]];rintro i σ' H' _ ⟨_,_,_,_,h,_⟩;show bB.of h
 .rintro i x σ' H9 hx ⟨⟨x5,x6,x7,x8,rfl⟩,s9,t9,NI,XR,UC⟩;let#[t,hti,b,rfl,F7]:=bf XQ hx;have XS:=t9 _ _ F7;have Mh:=s9 _ _ XM;have UD:=XN.same s9;lk;have hrl:=UD.length;rw[aq] at hrl;show E6 (λj zs τ H'=>aC H9 H'/\(∃ns:List Int,zs=ns.map V.int/\ns.length<=j/\∀y,y∈ns↔∃(k:Nat)(r:Row),k<j/\y=((k:Nat):Int)/\rs[k]?=some r/\t∈d7 r)/\∃x y,τ=[x,y,some^.ref b]) ?_ ?_ ?_ ?_ ?_;show#[aC.refl _,#[[],rfl,aI _,λy=>#[λh=>(nomatch h),λ⟨k,_,h,_⟩=>absurd h ∅]],_,_,rfl];rintro j zs τ H' _ ⟨s',⟨ns,rfl,hl,_⟩,_⟩;show#[bB.of^s' _ _ Mh,by rw[aq];show hl];lia
  .rintro j x pp zs τ zM Jw hx ⟨kj,⟨ns,rfl,hnl,hns⟩,x0,y0,rfl⟩ ko;let#[ps,hps,a,vs,rfl,ha,hvs]:=bf UD hx;rw[aW] at hps;let#[r,Ry,rfl]:=cE.mp hps;have Rz:=kj.trans ko.same;have acC:=Rz _ _ ha;have Gb:=hvs.same Rz;have acD:=Rz _ _ XS;have hpp:=ko.self;clear ko kj;lk;show Ax acD (bB.of acC) Gb ?_;have split:∀y,(∃(k:Nat)(r:Row),k<j+1/\y=((k:Nat):Int)/\rs[k]?=some r/\t∈d7 r)↔(∃(k:Nat)(r:Row),k<j/\y=((k:Nat):Int)/\rs[k]?=some r/\t∈d7 r)\/(y=((j:Nat):Int)/\t∈d7 r):=λy=>by constructor;rintro⟨k,r',h1,h2,h3,h4⟩;by_cases e:k=j;subst e;rw[Ry] at h3;cases h3;show .inr #[h2,h4];show .inl #[k,r',∅,h2,h3,h4];rintro(⟨k,r',h1,h2,h3,h4⟩|⟨h1,h2⟩);show#[k,r',∅,h2,h3,h4];show#[j,r,∅,h1,Ry,h2]
   by_cases hm:t∈d7 r
   .rw[decide_eq_true hm];lk;show#[Rz,#[ns++[((j:Nat):Int)],by simp,by simp;lia,λy=>?_],_,_,rfl];rw[aP,hns y,aA,split y];erw[hm,and_true]
   .rw[decide_eq_false hm];lk;show#[Rz,#[ns,rfl,∅,λy=>?_],_,_,rfl];rw[hns y,split y];erw[hm,and_false,or_false]
  rintro zs τ zM ⟨kj,⟨ns,rfl,hnl,hns⟩,x0,y0,rfl⟩ cm Jw ko;rw[hrl] at hnl hns;lk;rename_i sn Mi vt;have sI:∀(k:Nat) a,as[k]?=some a->∃vs,Mi a=some^.lst vs/\bE Mi vs^(qs.take i).filter^isLive rs k/\zM a=some^.lst vs/\Jw a=some^.lst vs:=λk a e=>by let#[vs,h1,h2]:=UC k a e;show#[vs,vt.keep^ko.keep^kj _ _ h1,h2.same^(kj.trans ko.same).trans vt.same,kj _ _ h1,ko.keep^kj _ _ h1]
  have s12:=(kj.trans ko.same).trans vt.same;have AP:Apart H5 f l cm sn as:=by
   have inn:∀a∈as,∃vs,zM a=some^HO.lst vs/\Jw a=some^HO.lst vs:=λa h=>by let#[k,hk]:=fM.mp h;let#[vs,_,_,h1,h2]:=sI k a hk;show#[vs,h1,h2]
   show#[s9.free^kj.free ko.1,s9.free^kj.free^ko.same.free vt.1,λa h=>(UB a h).1,aV (kj _ _ NI) ko.1,aV (ko.keep^kj _ _ NI) vt.1,aV (kj _ _ XR) ko.1,aV (ko.keep^kj _ _ XR) vt.1,aV ko.self vt.1,λh=>?_,λh=>?_,fa,la,nd];let#[vs,h1,_]:=inn cm h;rw[ko.1] at h1;cases h1;let#[vs,_,h1]:=inn sn h;rw[vt.1] at h1;cases h1
  have L0:zL H5 H8 f l cm sn as ws ns [] (λk=>(qs.take i).filter^isLive rs k++if((k:Nat):Int)∈([]:List Int) then[t] else[]) Mi :=
   #[s9.trans s12,t9.trans^sT s12,s12 _ _ NI,s12 _ _ XR,vt.keep ko.self,vt.self,λk a e=>by
    let#[vs,h1,h2,_]:=sI k a e;show#[vs,h1,by simpa using h2]]
  have D0:F9 rs t ns []:=by show#[λx hx=>?_,(λx h=>nomatch h),kW,λk r h1 h2=>.inr^(hns _).mpr #[k,r,(eX h1).1,rfl,h1,h2],(λk q r _ _ _ h=>nomatch h),by simp;lia];let#[k,r,_,rfl,h1,h2]:=(hns x).mp hx;show#[k,rfl,.here h1 h2]
  clear ko vt kj s12 hns hnl UC sI NI XR s9 t9 Mh UD XS;show nD (λm σ' H'=>∃(cs ss:List Int)(x:Option V),σ'=[some^.ref p,some^.ref rd,some^.ref gv,some^.ref ah,some^.ref f,some^.ref b,some^.ref cm,some^.ref sn,x]/\zL H5 H8 f l cm sn as ws cs ss (λk=>(qs.take i).filter^isLive rs k++if((k:Nat):Int)∈ss then[t] else[]) H'/\F9 rs t cs ss/\m=XC rs.length ss.length cs.length) #[_,ns,[],_,rfl,L0,D0,rfl] ?_;clear L0 D0;rintro m σ' RA ⟨cs,ss,x,rfl,L,D,rfl⟩;have XT:=L.hc;lk;rcases List.eq_nil_or_concat cs with e|⟨cs',y,e⟩
  .subst e;rw[if_neg^by decide];walk_at "nxd";show#[#[_,_,_,_,rfl],L.s5,L.t6,L.hf,L.hl,λk a e=>?_];let#[vs,h1,h2]:=L.ha k a e;show#[vs,h1,?_];rw[Ik hti^D.done k];show h2
  rw[List.concat_eq_append] at e;subst e;rw[if_pos^by simp];let#[ky,VG,lky]:=D.c1 y (by simp);have hss:=D.few;have hsh:=D.short hn;rw[aO,ji] at hsh;lk;show s_pop XT (y:=.int y) (by simp) ?_;intro H14 NJ;have ed:(List.map V.int (cs'++[y])).dropLast=cs'.map V.int:=by simp
  rw[ed] at NJ;have XU:=L.XA AP NJ;clear NJ XT L ed;have acE:=XU.hs;by_cases hy:y∈ss
  .have hv:(!(fQ (ss.map λk=>((.inl k:Key),V.bl true))^.inl y).isSome)=false:=by rw[vq,decide_eq_true hy];rfl
   lk;rw[hv,if_neg^by decide];lk;show#[_,?_,cs',ss,_,rfl,XU,D.skip hy,rfl];rw[aO,ji];unfold XC;lia
  have hv:(!(fQ (ss.map λk=>((.inl k:Key),V.bl true))^.inl y).isSome)=true:=by rw[vq,decide_eq_false hy];rfl
  have hsl:(ss.map λk=>((.inl k:Key),V.bl true)).length<=200:=by rw[aq];lia
  have ey:=Mf hy;have Pp:=XU.hf;have nfs:=AP.fs;lk;rw[hv,if_pos rfl];lk;rename_i H15 Pq;rw[ey] at Pq;have UE:=XU.acs AP Pq;clear Pq XU acE ey hv Pp nfs;have Ec:ky<as.length:=by have:=lky.lt;lia
  have Ea:as[ky]?=some as[ky]:=dJ Ec;generalize as[ky]'Ec=a at Ea;let#[vs,hvs,hps]:=UE.ha ky a Ea;have XW:¬((ky:Nat):Int)∈ss:=by rw[<- VG];show hy
  rw[if_neg XW,fL] at hps;have hvl:vs.length<=16:=by rw[hps.length];show bO (iL _ _) ?_;rw[cB];lia
  have acF:=UE.hc;have hca:cm≠a:=λz=>AP.ca (by rw[z];show eY Ea);have XX:=UE.s5 _ _ UA;have haa:ah≠a:=aV UA^AP.a5 a^eY Ea;show cL (bB.of UE.hf) (v:=.ref a) (by rw[VG];show cR (by rw[aW,Ea];rfl)) ?_;lk;rename_i H16 p16;have UG:zL H5 H8 f l cm sn as ws cs' (ss++[y]) (λk=>(qs.take i).filter^isLive rs k++if((k:Nat):Int)∈ss++[y] then[t] else[]) H16:=by have x:=UE.acu AP (g':=λk=>(qs.take i).filter^isLive rs k++if((k:Nat):Int)∈ss++[y] then[t] else[]) Ea hvs p16 ?_ λk hk _=>?_;show x;change bE H15 _ ((qs.take i).filter^isLive rs ky++if((ky:Nat):Int)∈ss++[y] then[t] else[]);rw[if_pos (by rw[<- VG];simp)];show cF hps #[b,rfl,UE.t6 _ _ F7];have hne:¬((k:Nat):Int)=y:=∅;erw[aP,aA,hne,or_false]
  clear p16 UE hvs hps acF XX;have RB:=UG.s5 _ _ UA;have RC:=UG.s5 _ _ acA;have RE:=acB.same UG.s5;have XY:=UG.t6 _ _ F7;have XZ:ky<als.length:=by have:=lky.lt;lia
  have UH:als[ky]?=some als[ky]:=dJ XZ;generalize als[ky]'XZ=al at UH;let#[le,hle,ahn,Mj]:=acz.same UG.s5 ky al UH;show cL (bB.of RB) (v:=.ref al) (by rw[VG];show cR (by rw[aW,UH];rfl)) ?_;lk;show ig (xs:=le.map V.int) (λj ys H'=>aC H16 H'/\∃es:List Int,ys=es.map V.int/\es.length<=j/\∀z,z∈es↔∃(k:Nat)(r:Row),z=((k:Nat):Int)/\z∈le.take j/\rs[k]?=some r/\t∉bM r) #[aC.refl _,[],rfl,aI _,λz=>#[λh=>(nomatch h),λ⟨k,r,_,h,_⟩=>by simp at h]] ?_ ?_ ?_;rintro j ys H' _ ⟨s',_⟩;show bB.of^s' _ _ hle
  .rintro j x ys H17 hx ⟨RG,es,rfl,hel,hes⟩;have hjl:j<(le.map V.int).length:=(eX hx).1;rw[aq] at hjl;rw[aW] at hx;let#[z,hz,rfl]:=cE.mp hx;let#[k,r,hk,ez,hr,hw]:=(Mj z).mp^eY hz;let#[ga,gus,hga,UI,hgp]:=(RE.same RG).at hr;show#[bZ (by rw[aq];lia),?_];have X0:=RG _ _ RC;have acG:=RG _ _ XY;lk;show cL (bB.of X0) (v:=.ref ga) (by rw[ez];show cR hga) ?_;lk;show Ay acG (bB.of UI) hgp ?_;have split:∀y,(∃(k:Nat)(r:Row),y=((k:Nat):Int)/\y∈le.take (j+1)/\rs[k]?=some r/\t∉bM r)↔(∃(k:Nat)(r:Row),y=((k:Nat):Int)/\y∈le.take j/\rs[k]?=some r/\t∉bM r)\/(y=z/\t∉bM r):=λy=>by rw[bS,hz];erw[nv,aP,aA];constructor;rintro⟨k',r',h1,h2|h2,h3,h4⟩;show .inl #[k',r',h1,h2,h3,h4];have e:k'=k:=∅;subst e;rw[hr] at h3;cases h3;show .inr #[h2,h4];rintro(⟨k',r',h1,h2,h3,h4⟩|⟨h1,h2⟩);show#[k',r',h1,.inl h2,h3,h4];show#[k,r,by rw[h1,ez],.inr h1,hr,h2]
   by_cases hm:t∈bM r
   .rw[decide_eq_true hm];lk;show#[RG,es,rfl,∅,λy=>?_];rw[hes y,split y];erw[hm,not_true,and_false,or_false]
   .rw[decide_eq_false hm];lk;show#[RG,es++[z],by simp,by simp;lia,λy=>?_];rw[aP,hes y,aA,split y];erw[hm,not_false_eq_true,and_true]
  rintro ys H17 ⟨RG,es,rfl,hel,hes⟩ ex H18 n18;rw[aq] at hel hes;rw[cg] at hes;have L18:=(UG.same RG).new n18;have hex:=n18.self;have ahq:=L18.hc;have hcl:(cs'.map V.int).length<=81000:=by rw[aq];lia
  have ahr:(es.map V.int).length<=400:=by rw[aq];lia
  clear n18 RG UG RB RC RE XY hle;lk;rename_i H19 p19;rw[<- bG] at p19;have L19:=L18.XA AP p19;show#[_,?_,cs'++es,ss++[y],_,rfl,L19,D.step hy (λz=>?_) ∅,rfl]
  .have hlt:ss.length<rs.length:=by have d2:=(D.step (es:=es) hy (λz=>?_) ∅).few;rw[aO] at d2;simp at d2;lia;rw[hes z];constructor;rintro⟨k,r,h1,h2,h3,h4⟩;let#[k',r',_,e1,e2,e3]:=(Mj z).mp h2;have e:k'=k:=∅;subst e;rw[h3] at e2;cases e2;show#[k',ky,r,h1,VG,h3,e3,h4];rintro⟨k,j,r,h1,h2,h3,h4,h5⟩;have e:j=ky:=∅;subst e;show#[k,r,h1,(Mj z).mpr #[k,r,(eX h3).1,h1,h3,h4],h3,h5]
   rw[aO,aO,aO,ji];show Ux hlt ∅
  .rw[hes z];constructor;rintro⟨k,r,h1,h2,h3,h4⟩;let#[k',r',_,e1,e2,e3]:=(Mj z).mp h2;have e:k'=k:=∅;subst e;rw[h3] at e2;cases e2;show#[k',ky,r,h1,VG,h3,e3,h4];rintro⟨k,j,r,h1,h2,h3,h4,h5⟩;have e:j=ky:=∅;subst e;show#[k,r,h1,(Mj z).mpr #[k,r,(eX h3).1,h1,h3,h4],h3,h5]
 .rintro σ' H9 ⟨⟨x5,x6,x7,x8,rfl⟩,s9,t9,NI,XR,UC⟩;lk;show q f as H9 (s5.trans s9) (s5.free f5) NI ∅ nd (λa h=>s5.free (UB a h).1) fa λk a e=>?_;let#[vs,h1,h2]:=UC k a e;show#[vs,h1,?_];rw[XQ.length,cg,Pf hok hup (λq=>?_) k] at h2;show h2;rw[hmem q];constructor;rintro⟨ps,hps,hq⟩;let#[r,hr,rfl]:=aD.mp hps;show#[r,hr,hq];rintro⟨r,hr,hq⟩;show#[_,aD.mpr #[r,hr,rfl],hq]
noncomputable def d8(rs:List Row)(j:Nat):Bool:=decide ((if j=0 then 1 else 2)<=cnt rs j)
noncomputable def f9(rs:List Row):List Int:=((List.range rs.length).filter^d8 rs).map λ(j:Nat)=>(j:Int)
def nM(rs:List Row)(i:Nat):List Int:=((List.range i).filter^d8 rs).map λ(j:Nat)=>(j:Int)
def ze(rs:List Row)(i:Nat):nM rs (i+1)=nM rs i++if d8 rs i=true then[(i:Int)] else[]:=by unfold nM;rw[qN,jh,bG];congr 1;by_cases h:d8 rs i=true;simp[h];simp[h]
def Bu(rs:List Row)(i:Nat):(nM rs i).length<=i:=by unfold nM;rw[aq];show bO (iL _ _) (by rw[l0];show ay _)
def Pr(K:aF):Sp:=λvs H Q _=>∃(p:Addr)(us:List V)(rs:List Row),vs=[.ref p]/\H p=some^.lst us/\Rows H us rs/\(∀r∈rs,r.ok rs.length)/\rs.length<=1000 /\
 ∀f H',aC H H'->H f=none->H' f=some^.lst^(f9 rs).map V.int->Q (.ref f) H'
theorem Mk(T:Txt w K mg):bQ P w K mg base gj 4 T.meets.f T.meets.d ["code"]^Pr K:=by
 show T.meets.F.ok L1 (λvs H Q E h=>?_) (λcdv A outer s H vs Q E hr h=>?_);let#[p,us,rs,rfl,_]:=h;rfl;let#[p,us,rs,rfl,hp,hrs,hok,hl,q]:=h;show#[_,(ao^aE^Ac (iS.of (xs:=["place", "some"]) (bA.plain (x := "place") rfl (by decide +kernel) (by decide +kernel) rfl (by decide +kernel) rfl)^by decide +kernel) (lz rfl T.fX^aa (aJ T.leading (su T) hr^aa (pv 0) af) af) (λ_ _ _ _=>(sP (K:=K) rfl (n:=2) rfl^bw (di 0 (show(["place", "some"]:List Str).Nodup from by decide +kernel))^bw (di 1 (show(["place", "some"]:List Str).Nodup from by decide +kernel)) fE)) (λ_ _ _ _=>(lu^bY JO (aQ (lB (K:=K) rfl) rfl T.dY BT.dW^aa (pv 1) af)^fO (bY cN (pv 0) ai) ai ai)) (λ_ _ _ _=>(pv 0))),?_];change(_:TS) (Ends.mk _ _ _ _) [_] H;k_in;lk;show#[p,us,rs,rfl,hp,hrs,hok,hl,λf H1 as s1 hf hal _ hL=>?_];lk;show E6 (λi zs τ H'=>aC H1 H'/\zs=(nM rs i).map V.int/\∃x y,τ=[x,y]) ?_ ?_ ?_ ?_ ?_;show#[aC.refl _,rfl,_,_,rfl];rintro i zs τ H' hi ⟨sm,rfl,x,y,rfl⟩;show#[bB.of^sm _ _ hf,by rw[aq];show Bu rs i];rw[aq];lia
 .rintro i x p zs τ H' H2 hx ⟨sm,rfl,x0,y0,rfl⟩ n2;rw[aW] at hx;let#[a,ha,rfl]:=cE.mp hx;let#[l,el,Ut]:=hL i a ha;have e2:H2 a=some^.lst^l.map V.int:=n2.keep^sm _ _ el;have e:=ze rs i;have hml:(l.map V.int).length=l.length:=aq _;have hm:d8 rs i=decide ((if i=0 then 1 else 2)<=l.length):=by rw[Ut];rfl
  lk
  .show#[by walk_at "same", ?_,_,_,rfl];rw[e,if_pos (by rw[hm];show decide_eq_true (by split<;>lia))];simp
  .show#[by walk_at "same", ?_,_,_,rfl];rw[e,if_neg (by rw[hm];show λz=>absurd (of_decide_eq_true z) (by split<;>lia))];simp
  .show#[by walk_at "same", ?_,_,_,rfl];rw[e,if_pos (by rw[hm];show decide_eq_true (by split<;>lia))];simp
  .show#[by walk_at "same", ?_,_,_,rfl];rw[e,if_neg (by rw[hm];show λz=>absurd (of_decide_eq_true z) (by split<;>lia))];simp
 .rintro zs τ H' ⟨sm,rfl,x,y,rfl⟩ g H2 n2;show q g H2 (by walk_at "same") (by walk_at "free") ?_;rw[n2.self,aq,hal];rfl
noncomputable def Row.gv(r:Row)(s:Int):Int:=if r.fJ&&(decide (r.sd=s)||decide (r.sd=2)) then r.nK.headD 0 else -1
noncomputable def Row.rd(r:Row)(s:Int):List Int:=if r.fJ&&!(decide (r.sd=s)||decide (r.sd=2)) then[] else r.Bo
def xM{bs:List Int}(hb:∀b∈bs,0<=b/\b<8)(hs:s=0\/s=1):(s,b)∈lJ r bs↔iy r s=true/\b∈bs:=by unfold lJ;rw[l9];constructor;rintro⟨s',_,h⟩;split at h;rename_i Pb;let#[b',hb1,e]:=aD.mp h;cases e;show#[Pb,(SN.jy hb b).mp hb1];show nomatch h;rintro⟨h1,h2⟩;show#[s,by simpa using hs,?_];rw[if_pos h1];show aD.mpr #[b,(SN.jy hb b).mpr h2,rfl]
def iR(h:r.ok n)(hs:s=0\/s=1):(s,b)∈d7 r↔b∈r.rd s:=by unfold d7 Row.rd;rw[xM (λb hb=>mR h b^sZ b hb) hs];unfold iy;cases r.fJ<;>cases decide (r.sd=s)<;>cases decide (r.sd=2)<;>simp
def vz(h:r.fJ=true):r.nK.take 1=[r.nK.headD 0]:=by cases r<;>first|rfl|cases h
theorem gc(h:r.ok n)(hs:s=0\/s=1)(hb:0<=b):(s,b)∈bM r↔r.gv s=b:=by
 unfold bM Row.gv;by_cases hd:r.fJ=true
 .rw[if_pos hd,xM (λb hb=>mR h b^ue _ _ hb) hs,vz hd,aA];unfold iy;rw[hd];cases decide (r.sd=s)<;>cases decide (r.sd=2)<;>simp<;>first|lia|show#[λe=>e.symm,λe=>e.symm]
 .rw[if_neg hd];have:r.fJ=false:=by simpa using hd
  rw[this];simp;lia
theorem Bv(h:r.ok n)(s:Int):r.gv s<8:=by
 unfold Row.gv;split
 .rename_i e;have hd:r.fJ=true:=by cases hr:r.fJ<;>simp[hr] at e ⊢
  show(mR h (r.nK.headD 0)^ue 1 _ (by rw[vz hd];simp)).2
 .lia
def Ml(h:r.ok n)(s:Int):∀b∈r.rd s,0<=b/\b<8:=λb hb=>by unfold Row.rd at hb;split at hb;show nomatch hb;show mR h b^sZ b hb
noncomputable def Pu(ms:List Nat)(r:Row):Nat:=r.ways.foldl (λm q=>m ||| ms.getD q.toNat 0) 0
noncomputable def rD(m:Nat)(g:Int):Nat:=if 0<=g then m &&& (255-2 ^ g.toNat) else m
noncomputable def gn(ms:List Nat)(r:Row)(s:Int):Nat:=(r.rd s).foldl (λm b=>m ||| 2 ^ b.toNat)^rD (Pu ms r)^r.gv s
theorem tw{α:Type}(f:α->Nat)(b:Nat):∀(l:List α)(m0:Nat),(l.foldl (λm x=>m ||| f x) m0).testBit b=(m0.testBit b||l.any λx=>(f x).testBit b)
 | [],m0=>by simp
 | x::l,m0=>by rw[List.foldl_cons,tw f b l,Nat.testBit_or,jB,Bool.or_assoc]
def Gd(ms:List Nat)(r:Row)(b:Nat):(Pu ms r).testBit b=r.ways.any λq=>(ms.getD q.toNat 0).testBit b:=by unfold Pu;rw[tw];simp
def Mm:∀(g b:Fin 8),(255-2 ^ g.val:Nat).testBit b.val = !decide (b=g):=by decide
theorem Mn(hg:g<8){b:Nat}(hb:b<8):(rD m g).testBit b=(m.testBit b&&!decide ((b:Int)=g)):=by unfold rD;split;rename_i h0;have:=Mm #[g.toNat,∅] #[b,hb];rw[Nat.testBit_and];dsimp only at this;rw[this];congr 2;erw[Fin.mk.injEq,decide_eq_decide];lia;rw[decide_eq_false (show ¬(b:Int)=g by lia)];simp
def Pw(m:Nat)(g:Int)(b:Nat)(h:(rD m g).testBit b=true):m.testBit b=true:=by unfold rD at h;split at h;rw[Nat.testBit_and] at h;erw[rO] at h;show h.1;show h
theorem jz(h:r.ok n){b:Nat}(hb:b<8):(gn ms r s).testBit b=true↔(b:Int)∈r.rd s\/(¬r.gv s=b/\∃q∈r.ways,(ms.getD q.toNat 0).testBit b=true):=by
 unfold gn;rw[tw,Mn (Bv h s) hb,Gd];erw[Bool.or_eq_true,rO,List.any_eq_true,Bool.not_eq_true',decide_eq_false_iff_not];constructor
 .rintro(⟨h1,h2⟩|⟨x,hx,h3⟩);show .inr #[λe=>h2 e.symm,h1]
  .rw[Nat.testBit_two_pow] at h3;have:=Ml h s x hx;have e:(b:Int)=x:=by have:=of_decide_eq_true h3;lia
   rw[e];show .inl hx
 .rintro(h1|⟨h1,h2⟩);show .inr #[_,h1,by rw[Nat.testBit_two_pow];show decide_eq_true ∅];show .inl #[h2,λe=>h1 e.symm]
theorem Mp(hm:∀m∈ms,m<256)(h:r.ok n)(s:Int):gn ms r s<256:=by
 show Nat.lt_pow_two_of_testBit (n:=8) _ λi hi=>?_;unfold gn;rw[tw];have e1:(rD (Pu ms r)^r.gv s).testBit i=false:=by
  cases e:(rD (Pu ms r)^r.gv s).testBit i with
  | false=>rfl
  | true =>
   have:=Pw _ _ _ e;rw[Gd,List.any_eq_true] at this;let#[q,_,hq]:=this;have hl:ms.getD q.toNat 0<2 ^ 8:=by
    rw[nR];cases e2:ms[q.toNat]? with
    | none=>simp
    | some m=>show hm m^eY e2
   rw[Nat.testBit_lt_two_pow^bX hl^Nat.pow_le_pow_right (by decide) hi] at hq;cases hq
 rw[e1,Bool.false_or,List.any_eq_false];intro x hx;have:=Ml h s x hx;rw[Nat.testBit_two_pow];simp;lia
structure qv (rs:List Row) (s:Int) (ms:List Nat):Prop where
 len:ms.length=rs.length
 lt:∀m∈ms,m<256
 snd:∀(k:Nat)(m:Nat)(b:Nat),ms[k]?=some m->b<8->m.testBit b=true->cH rs (s,(b:Int)) k
 inc:∀(k:Nat)(m:Nat)(r:Row),ms[k]?=some m->rs[k]?=some r->∀b,b<8->m.testBit b=true->(gn ms r s).testBit b=true
def qv.zero(rs:List Row)(s:Int):qv rs s (List.replicate rs.length 0) where
 len:=by simp
 lt:=λm hm=>by rw[(List.mem_replicate.mp hm).2];decide
 snd:=λk m b e _ h=>by rw[(List.mem_replicate.mp^eY e).2] at h;simp at h
 inc:=λk m r e _ b _ h=>by rw[(List.mem_replicate.mp^eY e).2] at h;simp at h
def getD_at{l:List α}{x d:α}(h:l[k]?=some x):l.getD k d=x:=by rw[nR,h];rfl
section
variable {rs:List Row}{s:Int}(hs:s=0\/s=1)(hok:∀r∈rs,r.ok rs.length)
include hs hok
theorem qv.sound(I:qv rs s ms)(hr:rs[k]?=some r){b:Nat}(hb:b<8)(h:(gn ms r s).testBit b=true):cH rs (s,(b:Int)) k:=by
 have ho:=hok r^eY hr;rcases(jz ho hb).mp h with h1|⟨h1,q,hq,h2⟩;show .here hr^(iR ho hs).mpr h1
 .have X3:=Row.gG ho q hq;have hqn:q.toNat<ms.length:=by rw[I.len];lia
  have e1:ms[q.toNat]?=some ms[q.toNat]:=dJ hqn;rw[getD_at e1] at h2;have hl:=I.snd q.toNat _ b e1 hb h2;show .on (q:=q.toNat) hr (λhg=>h1^(gc ho hs ∅).mp hg) ?_ hl;rw[Int.toNat_of_nonneg X3.1];show hq
theorem qv.set(I:qv rs s ms)(hm:ms[k]?=some m)(hr:rs[k]?=some r):qv rs s^ms.set k^gn ms r s:=by
 have hk:k<ms.length:=(eX hm).1;have get:∀(j:Nat)(x:Nat),(ms.set k^gn ms r s)[j]?=some x->(j=k/\x=gn ms r s)\/(j≠k/\ms[j]?=some x):=λj x e=>by rw[List.getElem?_set] at e;split at e;rename_i e1;show .inl #[e1.symm,(Option.some.inj e).symm];rename_i e1;show .inr #[λz=>e1 z.symm,e]
 have mono:∀(r':Row),r'∈rs->∀b,b<8->(gn ms r' s).testBit b=true->(gn (ms.set k^gn ms r s) r' s).testBit b=true:=λr' hr' b hb h=>by
  have ho:=hok r' hr';rcases(jz ho hb).mp h with h1|⟨h1,q,hq,h2⟩;show(jz ho hb).mpr^.inl h1
  .show(jz ho hb).mpr^.inr #[h1,q,hq,?_];have X3:=Row.gG ho q hq;by_cases e:k=q.toNat;rw[nR,List.getElem?_set,if_pos e,if_pos hk];rw[<- e,getD_at hm] at h2;show I.inc k m r hm hr b hb h2;rw[nR,List.getElem?_set,if_neg e,<- nR];show h2
 show#[by rw[l8];show I.len,λx hx=>?_,λj x b e hb h=>?_,λj x r' e hr' b hb h=>?_];let#[j,hj]:=fM.mp hx;rcases get j x hj with⟨_,rfl⟩|⟨_,e⟩;show Mp I.lt (hok r^eY hr) s;show I.lt x^eY e;rcases get j x e with⟨rfl,rfl⟩|⟨_,e⟩;show I.sound hs hok hr hb h;show I.snd j x b e hb h
 .rcases get j x e with⟨rfl,rfl⟩|⟨_,e⟩;rw[hr] at hr';cases hr';show mono r (eY hr) b hb h;show mono r' (eY hr') b hb^I.inc j x r' e hr' b hb h
theorem qv.up(I:qv rs s ms)(hm:ms[k]?=some m)(hr:rs[k]?=some r):m<=gn ms r s:=by
 have e:m ||| gn ms r s=gn ms r s:=by
  show Nat.eq_of_testBit_eq λi=>?_;rw[Nat.testBit_or];cases h:m.testBit i with
  | false=>rw[Bool.false_or]
  | true =>
   have hi:i<8:=by rcases bg i 8 with hl|hg;show hl;rw[Nat.testBit_lt_two_pow^bX (show m<2 ^ 8 from I.lt m^eY hm)^Nat.pow_le_pow_right (by decide) hg] at h;cases h
   rw[I.inc k m r hm hr i hi h];rfl
 rw[<- e];show Nat.left_le_or
theorem qv.done(I:qv rs s ms)(fx:∀(k:Nat)(r:Row)(m:Nat),rs[k]?=some r->ms[k]?=some m->gn ms r s=m){b:Nat}(hm:ms[k]?=some m)(hb:b<8):m.testBit b=true↔cH rs (s,(b:Int)) k:=by
 show#[I.snd k m b hm hb,λh=>?_];have all:=jZ (rs:=rs) (p:=(s,(b:Int))) (S:=λk=>∀m,ms[k]?=some m->m.testBit b=true) (λk r hr hp m hm=>?_) (λk q r hr hg hw ih m hm=>?_) k h;show all m hm;have ho:=hok r^eY hr;rw[<- fx k r m hr hm];show(jz ho hb).mpr^.inl^(iR ho hs).mp hp
 .have ho:=hok r^eY hr;rw[<- fx k r m hr hm];show(jz ho hb).mpr^.inr #[λe=>hg^(gc ho hs ∅).mpr e,_,hw,?_];have X3:=Row.gG ho _ hw;have hqn:q<ms.length:=by rw[I.len];lia
  have e1:ms[q]?=some ms[q]:=dJ hqn;rw[jg,getD_at e1];show ih _ e1
end
theorem sum_set:∀(ms:List Nat)(k m m':Nat),ms[k]?=some m->(ms.set k m').sum+m=ms.sum+m'
 | [],k,m,m',h=>by simp at h
 | x::ms,0,m,m',h=>by
  simp at h;subst h;simp;lia
 | x::ms,k+1,m,m',h=>by have:=sum_set ms k m m' (by simpa using h);erw[List.set_cons_succ,List.sum_cons];lia
theorem Ed:∀(ms:List Nat),(∀m∈ms,m<256)->ms.sum<=255*ms.length
 | [],_=>by simp
 | x::ms,h=>by have:=Ed ms λm hm=>h m (by simp[hm]);have hx:=h x (by simp);erw[List.sum_cons,cW];lia
theorem Bw:∀(ms:List Nat)(k m:Nat),ms[k]?=some m->ms.set k m=ms
 | [],k,m,h=>by simp at h
 | x::ms,0,m,h=>by simp at h;subst h;rfl
 | x::ms,k+1,m,h=>by rw[List.set_cons_succ,Bw ms k m^by simpa using h]
def Px:Sp:=λvs H Q _=>∃(a:Addr)(r:Row),vs=[.ref a]/\H a=some^.tup r.vals/\∀(l:Addr)(H':Hp),eV H l (.lst^r.ways.map V.int) H'->Q (.ref l) H'
def Bx(T:Txt w K mg):bQ P w K mg base gj 1 T.Bh.f T.Bh.d ["_law_row_here"] Px:=by show T.Bh.F.ok L3 (λvs H Q E h=>?_) (λcdv A outer s H vs Q E hr h=>?_);let#[a,r,rfl,_]:=h;rfl;let#[a,r,rfl,ha,q]:=h;show#[_,(ak (bI (bY cN (br aZ (pv 0) ai) aR) (ao^aE^bT af) aL)^ak (bI (bY cN (br aZ (pv 0) ai) aR) (ao^aE^bT^aa (br aZ (pv 0) ai)^aa (br aZ (pv 0) ai) af) aL)^ao^aE^bT^aa (br aZ (pv 0)^rQ mD ai) af),?_];change(_:TS) (Ends.mk _ _ _ _) [_] H;k_in;cases r<;>erw[Row.vals,Row.key,Row.rest] at ha<;>lk<;>(rename_i l1 H1 n1;show q l1 H1 n1)
def By:Sp:=λvs H Q _=>∃(a:Addr)(r:Row),vs=[.ref a]/\H a=some^.tup r.vals/\∀(l:Addr)(H':Hp),eV H l (.lst^r.Bo.map V.int) H'->Q (.ref l) H'
def wB(T:Txt w K mg):bQ P w K mg base gj 1 T.lH.f T.lH.d ["_law_row_here"] By:=by show T.lH.F.ok wA (λvs H Q E h=>?_) (λcdv A outer s H vs Q E hr h=>?_);let#[a,r,rfl,_]:=h;rfl;let#[a,r,rfl,ha,q]:=h;show#[_,(ak (bI (PW.pt^lO (bY cN (br aZ (pv 0) ai) aR)^jk^bY cN (br aZ (pv 0) ai) aR) (ao^aE^bT af) aL)^ak (bI (bY cN (br aZ (pv 0) ai) aR) (ao^aE^bT^aa (br aZ (pv 0) ai) af) aL)^ak (bI (bY cN (br aZ (pv 0) ai) aR) (ao^aE^bT^aa (br aZ (pv 0) ai)^aa (br aZ (pv 0) ai) af) aL)^ao^aE^bT^aa (br aZ (pv 0) ai) af),?_];change(_:TS) (Ends.mk _ _ _ _) [_] H;k_in;cases r<;>erw[Row.vals,Row.key,Row.rest] at ha<;>lk<;>(rename_i l1 H1 n1;show q l1 H1 n1)
def Mq:Sp:=λvs H Q _=>∃(a:Addr)(r:Row)(s:Int),vs=[.ref a,.int s]/\H a=some^.tup r.vals/\∀(H':Hp),aC H H'->Q (.int^r.gv s) H'
def Py(h:r.fJ=true):r.gv s=if pF (.int r.sd) [.int s,.int 2] then r.nK.headD 0 else -1:=by unfold Row.gv;rw[h,zc];rfl
def BA(T:Txt w K mg):bQ P w K mg base gj 1 T.given.f T.given.d ["_law_row_here", "_law_side"] Mq:=by
 show T.given.F.ok L4 (λvs H Q E h=>?_) (λcdv A outer s H vs Q E hr h=>?_);let#[a,r,s,rfl,_]:=h;rfl;let#[a,r,s,rfl,ha,q]:=h;show#[_,(ak (bI (PW.pt^lO (cK f7 (br aZ (pv 0) ai) (bC^aa aR^aa aR^aa aR af)^by with_unfolding_all rfl)^jk^cK f7 (br aZ (pv 0) ai) (bC^aa (pv 1)^aa ai af)^by with_unfolding_all rfl) (ao^aE^rQ mD ai) aL)^ao^aE^br aZ (pv 0)^az bL ai^cA kE rfl T.Bj BT.z7^aa (fF cN (br aZ (pv 0) ai) aR^iN _) af),?_];change(_:TS) (Ends.mk _ _ _ _) [_,_] H;k_in;by_cases hd:r.fJ=true
 .rw[Py hd] at q;cases hb:pF (.int r.sd) [.int s,.int 2]<;>rw[hb] at q<;>cases r<;>(first|cases hd|skip)
  all_goals
   erw[Row.vals,Row.key,Row.rest,Row.sd,Row.nK] at ha q hb;lk;rename_i p1 H1 n1 p2 H2 n2;have s2:=n1.same.trans n2.same;have ha2:=s2 _ _ ha;clear n1 n2 ha;rw[hb]
   first|rw[if_pos (show(!false)=true from rfl)]|rw[if_neg^show ¬(!true)=true from by decide]
   lk;show q _ s2
 .have e:r.gv s = -1:=by unfold Row.gv;rw[show r.fJ=false by simpa using hd];rfl
  rw[e] at q;cases r<;>first|show absurd rfl hd|skip
  all_goals
   erw[Row.vals,Row.key,Row.rest] at ha;lk;rename_i p1 H1 n1;show q _ n1.same
def Pz:Sp:=λvs H Q _=>∃(a:Addr)(r:Row)(s:Int),vs=[.ref a,.int s]/\H a=some^.tup r.vals/\∀(l:Addr)(H':Hp),aC H H'->H l=none->H' l=some^.lst^(r.rd s).map V.int->Q (.ref l) H'
def Ge(T:Txt w K mg):bQ P w K mg base gj 2 T.read.f T.read.d ["_law_row_here", "_law_side"] Pz:=by
 show T.read.F.ok O5 (λvs H Q E h=>?_) (λcdv A outer s H vs Q E hr h=>?_);let#[a,r,s,rfl,_]:=h;rfl;let#[a,r,s,rfl,ha,q]:=h;show#[_,(ak (bI (PW.pt^ia (cK fz (br aZ (pv 0) ai) (bC^aa aR^aa aR^aa aR af)^by with_unfolding_all rfl)^f6^cK f7 (br aZ (pv 0) ai) (bC^aa (pv 1)^aa ai af)^by with_unfolding_all rfl) (ao^aE^bT af) aL)^ao^aE^aJ T.lH (wB T) hr^aa (pv 0) af),?_];change(_:TS) (Ends.mk _ _ _ _) [_,_] H;k_in;by_cases hd:r.fJ=true
 .have e:r.rd s=if pF (.int r.sd) [.int s,.int 2] then r.Bo else[]:=by unfold Row.rd;rw[hd,zc];cases(decide (r.sd=s)||decide (r.sd=2))<;>rfl
  rw[e] at q;have ha0:=ha;have fin:∀H2,aC H H2->(∀(l:Addr)(H':Hp),aC H H'->H l=none->H' l=some^.lst^r.Bo.map V.int->Q (.ref l) H')->By [.ref a] H2 Q E:=λH2 s2 q=>#[a,r,rfl,s2 _ _ ha0,λl H3 n3=>q l H3 (s2.trans n3.same) (s2.free n3.1) n3.self];clear ha0 e;have hdi:=nL r;lk;rename_i p1 H1 n1;have s1:=n1.same;have ha1:=n1.keep ha;clear n1 ha;rw[hdi,hd,if_pos rfl];lk;show uB (cY.of ha1) (F5 hd) ?_;lk;rename_i p2 H2 n2;have s2:=s1.trans n2.same;clear n2;cases hb:pF (.int r.sd) [.int s,.int 2]<;>rw[hb] at q
  .rw[if_pos^by decide];lk;rename_i l H3 n3;show q l H3 (s2.trans n3.same) (s2.free n3.1) n3.self
  .rw[if_neg^by decide];lk;show fin _ s2 q
 .have e:r.rd s=r.Bo:=by unfold Row.rd;rw[show r.fJ=false by simpa using hd];rfl
  rw[e] at q;have ha0:=ha;have hdi:=nL r;lk;rename_i p1 H1 n1;have s1:=n1.same;clear n1 ha;rw[hdi,show r.fJ=false by simpa using hd,if_neg^by decide];lk;show#[a,r,rfl,s1 _ _ ha0,λl H3 n3=>q l H3 (s1.trans n3.same) (s1.free n3.1) n3.self]
theorem Mr(a b:Nat):Builtin.bitOr (a:Int) (b:Int)=((a ||| b:Nat):Int):=by
 have ha:¬0<=Builtin.bitNot (a:Int):=by rw[PyProof.Rows.bitNot_nonneg];lia
 have hb:¬0<=Builtin.bitNot (b:Int):=by rw[PyProof.Rows.bitNot_nonneg];lia
 change Builtin.bitNot^Builtin.bitAnd _ _=_;rw[PyProof.Rows.bitAnd_nn ha hb,PyProof.Rows.bitNot_bitNot,PyProof.Rows.bitNot_bitNot,PyProof.Rows.bitNot_bitNot];rfl
theorem Gf(a b:Nat):Builtin.bitAnd (a:Int) (b:Int)=((a &&& b:Nat):Int):=by rw[PyProof.Rows.bitAnd_pp ∅ ∅];rfl
def Gg(h:0<=g):(1:Int)*2 ^ g.toNat=((2 ^ g.toNat:Nat):Int):=by rw[Int.one_mul,Int.natCast_pow];rfl
theorem PB(m:Nat)(h0:0<=g)(h:g<8):Builtin.bitAnd (m:Int) (255-1*2 ^ g.toNat)=((rD m g:Nat):Int):=by
 have hp:∀u:Fin 8,(2 ^ u.val:Nat)<=255:=by decide
 have S5:=hp #[g.toNat,∅];dsimp only at S5;rw[Gg h0,show(255:Int)-((2 ^ g.toNat:Nat):Int)=((255-2 ^ g.toNat:Nat):Int) by lia,Gf];unfold rD;rw[if_pos h0]
def PD(m b:Nat):Builtin.bitAnd ((m:Int) / 2 ^ b) 1=if m.testBit b then 1 else 0:=by
 have e:(m:Int) / 2 ^ b=((m / 2 ^ b:Nat):Int):=by rw[Int.natCast_ediv,Int.natCast_pow];rfl
 rw[e,show(1:Int)=((1:Nat):Int) from rfl,Gf,Nat.and_one_is_mod,Nat.testBit_eq_decide_div_mod_eq];rcases Nat.mod_two_eq_zero_or_one (m / 2 ^ b) with h|h<;>rw[h]<;>rfl
def vA(H:Hp)(a:Addr)(ms:List Nat):Prop:=H a=some^.lst (ms.map λm:Nat=>V.int m)
def Done(rs:List Row)(s:Int)(ms:List Nat):Prop:=ms.length=rs.length/\∀(k m b:Nat),ms[k]?=some m->b<8->(m.testBit b=true↔cH rs (s,(b:Int)) k)
def vB(h:ms[k]?=some m):qU (ms.map λm:Nat=>V.int m) (k:Int)=some^.int m:=cR (by rw[aW,h];rfl)
def BB(ms:List Nat)(k m:Nat):(ms.map λm:Nat=>V.int m).set k^.int m=(ms.set k m).map λm:Nat=>V.int m:=by rw[List.map_set]
def Il:Sp:=λvs H Q _=>∃(p:Addr)(us:List V)(rs:List Row),vs=[.ref p]/\H p=some^.lst us/\Rows H us rs/\(∀r∈rs,r.ok rs.length)/\rs.length<=200 /\
 ∀(f:Addr)(as:List Addr)(H':Hp),aC H H'->H f=none->H' f=some^.lst^as.map V.ref->as.length=rs.length->sy H' as rs->Q (.ref f) H'
theorem BC(T:Txt w K mg):bQ P w K mg base gj 4 T.qq.f T.qq.d ["_law_code_here"] Il:=by
 show T.qq.F.ok bJ (λvs H Q E h=>?_) (λcdv A outer s H vs Q E hr h=>?_);let#[p,us,rs,rfl,_]:=h;rfl;let#[p,us,rs,rfl,hp,hrs,hok,hn,q]:=h;show#[_,(ak (bq 1 bJ.nd^bT af)^ak (cP bD rfl (dI rfl T.eK^aa ai af) (di 2 bJ.nd)^ak (bq 3 bJ.nd^az C9 (bT^aa ai af)^aQ bx rfl T.dY BT.dW^aa (pv 0) af)^ak (bq 4 bJ.nd jm)^ak (ku bD (k6^pv 4)^ak (bq 4 bJ.nd jm)^ao^cP bD rfl (AB rfl T.D5 rfl T.eK^aa (aQ bx rfl T.dY BT.dW^aa (pv 0) af) af) (di 5 bJ.nd)^ak (bq 6 bJ.nd ai)^ak (cP bD rfl (bP^aJ T.Bh (Bx T) hr^aa (br bN (pv 0)^pv 5) af) (di 7 bJ.nd)^ao^bq 6 bJ.nd^az QJ (pv 6)^br bN (pv 3)^pv 7)^ak (bq 8 bJ.nd^aJ T.given (BA T) hr^aa (br bN (pv 0)^pv 5)^aa (pv 2) af)^jt (bI (bY JO (pv 8) ai) (ao^bq 6 bJ.nd^az JM (pv 6)^az ie ai^az JL ai^pv 8) aL)^ak (cP bD rfl (bP^aJ T.read (Ge T) hr^aa (br bN (pv 0)^pv 5)^aa (pv 2) af) (di 9 bJ.nd)^ao^bq 6 bJ.nd^az QJ (pv 6)^az JL ai^pv 9)^ak (bq 4 bJ.nd^QD (pv 4)^um^fF EJ (pv 6) (br bN (pv 3)^pv 5)^iN _)^ao^mz (pv 6)^yl (pv 3) (pv 5) set_list)^ao^dR^i0 dj gA gB d9 (pv 1)^aa (pv 3) af)^ak (bq 10 bJ.nd^bT af)^ak (cP bD rfl (dI rfl T.eK^aa (aQ bx rfl T.dY BT.dW^aa (pv 0) af) af) (di 5 bJ.nd)^ao^dR^i0 dj gA gB d9 (pv 10)^aa (cT (bA.cz "_law_n" ["_law_found", "_law_p"] [1,5] ["_law_p", "_law_found"] rfl) (dI rfl T.eK^aa ai af) (λ_ _ _ _=>(lu^bY cN (az JM (az Sx (br (gr (K:=K) rfl) (br (gr (K:=K) rfl) (pv 1)^az bR (pv 0) ai)^pv 2)^az bh (pv 0) ai) ai) ai)) (λ_ _ _ _=>(bC^aa (az bR (pv 0) ai)^aa (az bh (pv 0) ai) af))) af)^ao^aE^pv 10),?_];have sr:=hrs.length;change(_:TS) (Ends.mk _ _ _ _) [_,_,_,_,_,_,_,_,_,_,_] H;k_in;lk;rename_i f H1 n1;have ff:=n1.1;have s1:=n1.same;have hf1:=n1.self;clear n1;show pH (λi σ' H'=>(∃x2 x3 x4 x5 x6 x7 x8 x9,σ'=[some^.ref p,some^.ref f,x2,x3,x4,x5,x6,x7,x8,x9,none])/\aC H H'/\∃as:List Addr,as.length=i/\f∉as/\H' f=some^.lst^as.map V.ref/\∀(j:Nat) a,as[j]?=some a->∃ms,vA H' a ms/\Done rs (j:Int) ms) ?_ ?_ ?_;show#[#[_,_,_,_,_,_,_,_,rfl],s1,[],rfl,(λh=>nomatch h),hf1,λj a h=>by simp at h]
 .rintro i σ' H2 hi ⟨⟨x2,x3,x4,x5,x6,x7,x8,x9,rfl⟩,s2,as,hal,Uu,hf2,has⟩;have hi2:i<2:=∅;have Pb:(0+(i:Int))=0\/(0+(i:Int))=1:=∅;have hp2:=s2 _ _ hp;lk;rename_i z H3 n3;show Af n3.self ∅ ∅ (by simp;lia) ?_;intro al H4 n4;have UJ:H2 al=none:=n3.same.free n4.1;have s4:=n3.same.trans n4.same;have Z6:vA H4 al^List.replicate rs.length 0:=by have:=n4.self;rw[jg,List.flatten_replicate_singleton,sr] at this;unfold vA;rw[this,List.map_replicate];rfl
  clear n3 n4;lk;show nD (λm σ' H'=>∃(ms:List Nat)(c:Bool)(x5 x6 x7 x8 x9:Option V),σ'=[some^.ref p,some^.ref f,some^.int (0+(i:Int)),some^.ref al,some^.bl c,x5,x6,x7,x8,x9,none]/\aC H2 H'/\vA H' al ms/\qv rs (0+(i:Int)) ms /\
   (c=false->∀(k:Nat)(r:Row)(m:Nat),rs[k]?=some r->ms[k]?=some m->gn ms r (0+(i:Int))=m)/\m=2*(255*rs.length-ms.sum)+(if c=true then 1 else 0)) #[_,_,true,_,_,_,_,_,rfl,s4,Z6,qv.zero rs _,(λh=>nomatch h),rfl] ?_
  clear s4 Z6;rintro m σ' H5 ⟨ms,c,x5,x6,x7,x8,x9,rfl,s5,hm5,I5,fx,rfl⟩;lk;cases c with
  | false =>
   rw[if_neg^by decide];have vp:=s5 _ _ hf2;have sF:(as.map V.ref).length=i:=by rw[aq,hal]
   have X4:al≠f:=(aV hf2 UJ).symm;lk;rename_i H6 p6;show#[#[_,_,_,_,_,_,_,_,rfl],p6.same (s2.trans s5) ff,as++[al],by simp[hal],by simp[Uu,X4.symm],by rw[bG];show p6.self,λj a h=>?_];rw[List.getElem?_append] at h;split at h;let#[ms',hm',hd']:=has j a h;show#[ms',p6.keep (λe=>Uu (by rw[<- e];show eY h))^s5 _ _ hm',hd']
   .rename_i hj;have ej:j=i:=by have:=(eX h).1;simp at this;lia
    subst ej;rw[hal,Nat.sub_self] at h;cases h;show#[ms,p6.keep X4 hm5,I5.len,λk m b hm hb=>?_];have:=I5.done Pb hok (fx rfl) hm hb;rw[Int.zero_add] at this;show this
  | true =>
   rw[if_pos rfl];lk;show K8 (λi' σ' H'=>∃(ms':List Nat)(c':Bool)(x5 x6 x7 x8 x9:Option V),σ'=[some^.ref p,some^.ref f,some^.int (0+(i:Int)),some^.ref al,some^.bl c',x5,x6,x7,x8,x9,none]/\aC H2 H'/\vA H' al ms'/\qv rs (0+(i:Int)) ms' /\
    (c'=true->ms.sum<ms'.sum)/\(c'=false->ms'=ms/\∀(k:Nat)(r:Row)(m:Nat),us.length-i'<=k->rs[k]?=some r->ms'[k]?=some m->gn ms' r (0+(i:Int))=m)) ?_ ?_ ?_
   .show#[ms,false,_,_,_,_,_,rfl,s5,hm5,I5,(λh=>nomatch h),λ_=>#[rfl,λk r m hk hr _=>?_]];have:=(eX hr).1;lia
   .rintro i' σ' H6 hi' ⟨ms',c',y5,y6,y7,y8,y9,rfl,s6,hm6,I6,up6,fx6⟩;have hk:us.length-1-i'<rs.length:=∅;have hku:us.length-1-i'<us.length:=∅;have ek:((us.length:Int)-1-(i':Int))=((us.length-1-i':Nat):Int):=∅;rw[ek];obtain⟨k,ekk⟩:∃k,k=us.length-1-i':=#[_,rfl];rw[<- ekk] at hk hku ⊢;have UK:ms'[k]?=some (ms'[k]'(by rw[I6.len];show hk)):=dJ _;generalize ms'[k]'(by rw[I6.len];show hk)=mk at UK;have X5:us[k]?=some us[k]:=dJ hku;let#[r,hr',ra,acJ,sH]:=bf hrs X5;rw[acJ] at X5;have ho:=hok r^eY hr';have VH:=s2.trans s6;have hp6:=VH _ _ hp;have Ms:=VH _ _ sH;lk;show cL (bB.of hp6) (v:=.ref ra) (cR X5) ?_;lk;show#[ra,r,rfl,Ms,λlw H7 n7=>?_];have hlw:=n7.self;have s7:=s6.trans n7.same;have hm7:=n7.keep hm6;have Z7:=n7.keep hp6;have Mt:=n7.keep Ms;clear n7 hp6 Ms hm6 s6 VH;lk;show f_list (xs:=r.ways.map V.int) (λj σ' H'=>H'=H7/\∃x7,σ'=[some^.ref p,some^.ref f,some^.int (0+(i:Int)),some^.ref al,some^.bl c',some^.int (k:Int),some^.int (((r.ways.take j).foldl (λm q=>m ||| ms'.getD q.toNat 0) 0:Nat):Int),x7,y8,y9,none]) #[rfl,_,rfl] ?_ ?_ ?_;rintro j σ' H' _ ⟨rfl,_⟩;show bB.of hlw
    .rintro j x σ' H' hx ⟨rfl,x7,rfl⟩;rw[aW] at hx;let#[y,hy,rfl]:=cE.mp hx;have Z9:=Row.gG ho y^eY hy;have hyl:y.toNat<ms'.length:=by rw[I6.len];lia
     obtain⟨my,hym⟩:∃my,ms'[y.toNat]?=some my:=#[_,dJ hyl];have eat:=vB hym;rw[Int.toNat_of_nonneg Z9.1] at eat;lk;show cL (bB.of hm7) eat ?_;lk;show#[rfl,some^.int y,?_];rw[Mr,bS,hy,List.foldl_append];change _=[_,_,_,_,_,_,some^V.int ((_ ||| ms'.getD y.toNat 0:Nat):Int),_,_,_,_];rw[getD_at hym]
    rintro σ' H' ⟨rfl,x7,rfl⟩;rw[aq,cg];have eW:r.ways.foldl (λm q=>m ||| ms'.getD q.toNat 0) 0=Pu ms' r:=rfl;rw[eW];clear eW hlw;lk;show cL (bB.of Z7) (v:=.ref ra) (cR X5) ?_;lk;show#[ra,r,0+(i:Int),rfl,Mt,λH8 s8=>?_];have hp8:=s8 _ _ Z7;have Mu:=s8 _ _ Mt;have hm8:=s8 _ _ hm7;have s28:=s7.trans s8;clear s8 s7 Z7 Mt hm7;have UI:=Bv ho (0+(i:Int));lk;show rT (λσ' H'=>H'=H8/\σ'=[some^.ref p,some^.ref f,some^.int (0+(i:Int)),some^.ref al,some^.bl c',some^.int (k:Int),some^.int ((rD (Pu ms' r)^r.gv (0+(i:Int)):Nat):Int),x7,some^.int^r.gv (0+(i:Int)),y9,none]) ?_ ?_
    .lk;rename_i h0;show#[rfl,?_];rw[PB _ h0 UI];rename_i h0;show#[rfl,?_];unfold rD;rw[if_neg h0]
    rintro _ _ ⟨rfl,rfl⟩;lk;show cL (bB.of hp8) (v:=.ref ra) (cR X5) ?_;lk;show#[ra,r,0+(i:Int),rfl,Mu,λlr H9 s9 _ hlr=>?_];have hm9:=s9 _ _ hm8;have X6:=s28.trans s9;clear s9 s28 hp8 Mu hm8;lk;show f_list (xs:=(r.rd (0+(i:Int))).map V.int) (λj σ' H'=>H'=H9/\∃x9,σ'=[some^.ref p,some^.ref f,some^.int (0+(i:Int)),some^.ref al,some^.bl c',some^.int (k:Int),some^.int ((((r.rd (0+(i:Int))).take j).foldl (λm b=>m ||| 2 ^ b.toNat)^rD (Pu ms' r)^r.gv (0+(i:Int)):Nat):Int),x7,some^.int^r.gv (0+(i:Int)),x9,none]) #[rfl,_,rfl] ?_ ?_ ?_;rintro j σ' H' _ ⟨rfl,_⟩;show bB.of hlr
    .rintro j x σ' H' hx ⟨rfl,x9',rfl⟩;rw[aW] at hx;let#[y,hy,rfl]:=cE.mp hx;have Z9:=Ml ho _ y^eY hy;lk;show#[rfl,some^.int y,?_];rw[Gg Z9.1,Mr,bS,hy,List.foldl_append];rfl
    rintro σ' H' ⟨rfl,x9',rfl⟩;rw[aq,cg];have eS:(r.rd (0+(i:Int))).foldl (λm b=>m ||| 2 ^ b.toNat)^rD (Pu ms' r)^r.gv (0+(i:Int))=gn ms' r (0+(i:Int)):=rfl;rw[eS];clear eS hlr;have hix:Js (ms'.map λm:Nat=>V.int m).length (k:Int)=some k:=by rw[aq];show za ∅ (by rw[I6.len];lia)
    have X7:=I6.set Pb hok UK hr';have hup:=I6.up Pb hok UK hr';have hsum:=sum_set ms' k mk (gn ms' r (0+(i:Int))) UK;cases c' with
    | true =>
     have hlt:=up6 rfl;lk;show uD hm9 hix ?_;intro zM NK;rw[BB] at NK;lk;show#[_,true,_,_,_,_,_,rfl,NK.same X6 UJ,NK.self,X7,(λ_=>∅),λh=>nomatch h]
    | false =>
     let#[rfl,fx7]:=fx6 rfl;lk;show cL (bB.of hm9) (v:=.int (mk:Nat)) (vB UK) ?_;lk;show uD hm9 hix ?_;intro zM NK;rw[BB] at NK;lk;show#[_,_,_,_,_,_,_,rfl,NK.same X6 UJ,NK.self,X7,λh=>?_,λh=>?_]
     .have hne:gn ms' r (0+(i:Int))≠mk:=λe=>by rw[e] at h;simp at h
      lia
     .have heq:gn ms' r (0+(i:Int))=mk:=by erw[Bool.not_eq_false',decide_eq_true_eq] at h;lia
      rw[heq,Bw ms' k mk UK];show#[rfl,λk2 r2 m2 hk2 hr2 hm2=>?_];by_cases e:k2=k;subst e;rw[hr'] at hr2;cases hr2;rw[UK] at hm2;cases hm2;show heq;show fx7 k2 r2 m2 ∅ hr2 hm2
   .rintro σ' H6 ⟨ms',c',y5,y6,y7,y8,y9,rfl,s6,hm6,I6,up6,fx6⟩;lk;have l1:=Ed ms I5.lt;have l2:=Ed ms' I6.lt;rw[I5.len] at l1;rw[I6.len] at l2;show#[_,?_,ms',c',_,_,_,_,_,rfl,s6,hm6,I6,λh=>?_,rfl]
    .cases c' with
     | true =>
      have:=up6 rfl;erw[if_true];lia
     | false =>
      rw[(fx6 rfl).1];erw[if_true,bW,if_false];lia
    .let#[rfl,fx7]:=fx6 h;intro k r m hr hm;show fx7 k r m ∅ hr hm
 .rintro σ' H2 ⟨⟨x2,x3,x4,x5,x6,x7,x8,x9,rfl⟩,s2,as,hal,Uu,hf2,has⟩;lk;rename_i g H3 n3;have fg:H2 g=none:=n3.1;have s3:=n3.same;have hg3:=n3.self;clear n3;show pH (λk σ' H'=>(∃x5,σ'=[some^.ref p,some^.ref f,x2,x3,x4,x5,x6,x7,x8,x9,some^.ref g])/\aC H2 H'/\∃bs:List Addr,bs.length=k/\g∉bs/\H' g=some^.lst^bs.map V.ref/\∀(j:Nat) b,bs[j]?=some b->∃vs,H' b=some^.lst vs/\bE H' vs^ja rs j) ?_ ?_ ?_;show#[#[_,rfl],s3,[],rfl,(λh=>nomatch h),hg3,λj b h=>by simp at h]
  .rintro k σ' H4 hk ⟨⟨x5',rfl⟩,s4,bs,NF,hgb,Mv,v8⟩;have hk':k<rs.length:=∅;have xN:=s4 _ _ hf2;lk;show iT (λn ys H'=>aC H4 H'/\bE H' ys^(bV.take n).filter^isLive rs k) #[aC.refl _,.nil] ?_ ?_
   .rintro n ys H5 hn5 ⟨s5,hys⟩;have acQ:n<16:=∅;have hyl:=hys.length;have hfl:((bV.take n).filter^isLive rs k).length<=n:=bO (iL _ _) (by rw[cB];lia);show#[bZ ∅,?_];have hj:n / 8<as.length:=∅;obtain⟨a,ha⟩:∃a,as[n / 8]?=some a:=#[_,dJ hj];let#[ms,hms,hml,hmd]:=has _ a ha;obtain⟨m,hm⟩:∃m,ms[k]?=some m:=#[_,dJ ∅];have vp:=s5 _ _ xN;have hm5:=(s4.trans s5) _ _ hms;have e8:(0+(n:Int)) / 8=((n / 8:Nat):Int):=∅;have e9:(0+(n:Int)) % 8=((n % 8:Nat):Int):=∅;have CM:bV[n]?=some (((n / 8:Nat):Int),((n % 8:Nat):Int)):=by
     have all:∀u:Fin 16,bV[u.val]?=some (((u.val / 8:Nat):Int),((u.val % 8:Nat):Int)):=by decide
     show all #[n,acQ]
    have hb:=hmd k m (n % 8) hm ∅;lk;show cL (bB.of vp) (v:=.ref a) (by rw[e8];show cR (by rw[aW,ha];rfl)) ?_;lk;show cL (bB.of hm5) (v:=.int (m:Nat)) (by rw[Int.zero_add];show vB hm) ?_;have e10:((0+(n:Int)) % 8).toNat=n % 8:=∅;have eb:=PD m (n % 8);rw[<- e10] at eb;have X8:(bV.take (n+1)).filter^isLive rs k=(bV.take n).filter^isLive rs k++if m.testBit (n % 8)=true then[(((n / 8:Nat):Int),((n % 8:Nat):Int))] else[]:=by rw[bS,CM,jh];congr 1;change[_].filter _=_;by_cases hl:m.testBit (n % 8)=true;rw[if_pos hl,qH^fY.mpr^hb.mp hl];rfl;rw[if_neg hl,qG (λz=>hl^hb.mpr^fY.mp z)];rfl
    rw[e10] at eb;rw[X8];lk
    .rename_i Im t6 H6 n6;rw[e10,eb] at Im;have ht:m.testBit (n % 8)=true:=by split at Im;assumption;show absurd Im (by decide)
     rw[if_pos ht];show#[s5.trans n6.same,cF (hys.same n6.same) #[t6,rfl,?_]];rw[n6.self,e8,e9]
    .rename_i Im;rw[e10,eb] at Im;have ht:¬m.testBit (n % 8)=true:=λz=>Im (by rw[if_pos z]);rw[if_neg ht,fL];show#[s5,hys]
   .rintro ys H5 ⟨s5,hys⟩ l H6 n6;have hl6:=n6.self;have PJ:=hys.same n6.same;have NL:=s5.trans n6.same;have UI:g≠l:=aV (s5 _ _ Mv) n6.1;have hlb:l∉bs:=λh=>by let#[j,hj]:=fM.mp h;let#[vs,hv,_]:=v8 j l hj;have:=s5 _ _ hv;rw[n6.1] at this;cases this
    clear n6 s5 hys;have hg6:=NL _ _ Mv;have ahw:(bs.map V.ref).length=k:=by rw[aq,NF]
    lk;rename_i H7 p7;have tt:iw H6 H7:=λb xs e=>p7.keep (uf e hg6 (by intro z;cases z)) e;show#[#[_,rfl],p7.same (s4.trans NL) fg,bs++[l],by simp[NF],by simp[hgb,UI],by rw[bG];show p7.self,λj b h=>?_];rw[List.getElem?_append] at h;split at h;let#[vs,hv,hvs]:=v8 j b h;show#[vs,p7.keep (λe=>hgb (by rw[<- e];show eY h))^NL _ _ hv,(hvs.same NL).i9 tt]
    .have ej:j=k:=by have:=(eX h).1;simp at this;lia
     subst ej;rw[NF,Nat.sub_self] at h;cases h;show#[ys,p7.keep UI.symm hl6,PJ.i9 tt]
  .rintro σ' H4 ⟨⟨x5',rfl⟩,s4,bs,NF,hgb,Mv,v8⟩;lk;show q g bs H4 (s2.trans s4) (s2.free fg) Mv ∅ v8
open HM in
noncomputable def Row.ends(r:Row):dX->Bool
 | none=>pF (.str r.key) [.str "mark", .str "out", .str "back"]
 | some p=>pF (.str r.key) [.str "look", .str "out", .str "back"] && decide (r.nK.headD 0=p.2)
open HM in
def LeftOf(r:Row):dX->dX->Prop
 | none,u=>r.ends none=false/\u=none
 | some p,u=>r.ends^some p=false/\((u=some p/\r.gv p.1≠p.2)\/(u=some (p.1,r.gv p.1)/\0<=r.gv p.1/\p.2∈r.rd p.1))
open HM in
def dX.lv(rs:List Row)(k:Nat):dX->Prop
 | none=>True
 | some p=>p∈ja rs k
open HM in
def Gh(rs:List Row)(r:Row)(t:dX)(z:bu):Prop:=z.1∈r.ways/\LeftOf r t z.2/\dX.lv rs z.1.toNat z.2
open HM in
def Ef:dX->Prop
 | none=>True
 | some p=>(p.1=0\/p.1=1)/\0<=p.2/\p.2<8
theorem LeftOf.ok(h:r.ok n){u:HM.dX}(ht:Ef t)(l:LeftOf r t u):Ef u/\u.isSome=t.isSome:=by
 cases t with
 | none=>rw[l.2];show#[trivial,rfl]
 | some p =>
  rcases l.2 with⟨rfl,_⟩|⟨rfl,h0,_⟩;show#[ht,rfl];show#[#[ht.1,h0,Bv h _],rfl]
theorem zf{α:Type}(f:α->Int):∀{xs ys:List α},xs.Pairwise (λp q=>f p<f q)->ys.Pairwise (λp q=>f p<f q)->(∀p,p∈xs↔p∈ys)->xs=ys
 | [],[],_,_,_=>rfl
 | [],y::ys,_,_,h=>absurd ((h y).mpr^by simp) (by simp)
 | x::xs,[],_,_,h=>absurd ((h x).mp^by simp) (by simp)
 | x::xs,y::ys,hx,hy,h=>by
  have h1:=qM.mp hx;have h2:=qM.mp hy;have e:x=y:=by rcases aH.mp ((h x).mp^by simp) with e|e;show e;rcases aH.mp ((h y).mpr^by simp) with e'|e';show e'.symm;have:=h1.1 _ e';have:=h2.1 _ e;lia
  subst e;rw[zf f h1.2 h2.2 λp=>?_];constructor
  .intro hp;rcases aH.mp^(h p).mp^cX _ hp with e|e;rw[e] at hp;have:=h1.1 _ hp;lia;show e
  .intro hp;rcases aH.mp^(h p).mpr^cX _ hp with e|e;rw[e] at hp;have:=h2.1 _ hp;lia;show e
noncomputable def eL(r:Row):HM.dX->List HM.dX
 | none=>if r.ends none then[] else[none]
 | some p=>if r.ends^some p then[] else(if p∈bM r then[] else[some p])++if p∈d7 r then((bM r).filter λq=>decide (q.1=p.1)).map some else[]
theorem Io(b:Int):(SN.fG [b]).length<=1:=by
 have h1:=SN.As [b];have h2:∀n∈SN.fG [b],n=b:=λn hn=>by unfold SN.fG at hn;let#[k,hk,rfl]:=aD.mp hn;have:=(c9.mp hk).2;simpa using this
 match h:SN.fG [b] with
 | []=>simp
 | [_]=>simp
 | x::y::l =>
  rw[h] at h1 h2;have e1:=h2 x (by simp);have e2:=h2 y (by simp);have:=(qM.mp h1).1 y (by simp);lia
theorem Eg(r:Row)(hs:s=0\/s=1):((bM r).filter λq=>decide (q.1=s)).length<=1:=by
 unfold bM;split
 .rename_i hd;have e:=vz hd;rw[e];unfold lJ;have l1:=Io^r.nK.headD 0;generalize r.nK.headD 0=hd0 at l1 ⊢;have all:∀(s':Int),(((SN.fG [hd0]).map λb=>(s',b)).filter λq=>decide (q.1=s))=if s'=s then(SN.fG [hd0]).map λb=>(s',b) else[]:=λs'=>by split;rename_i e;rw[List.filter_eq_self];intro x hx;let#[b,_,rfl]:=aD.mp hx;simpa using e;rename_i e;rw[List.filter_eq_nil_iff];intro x hx;let#[b,_,rfl]:=aD.mp hx;simpa using e
  erw[qI,List.flatMap_nil,fL,jh,aO];rcases hs with rfl|rfl
  .have a0:=all 0;have a1:=all 1;cases h0:iy r 0<;>cases h1:iy r 1<;>erw[if_true,bW,if_false,a0,a1,List.filter_nil,oA]<;>simp<;>lia
  .have a0:=all 0;have a1:=all 1;cases h0:iy r 0<;>cases h1:iy r 1<;>erw[if_true,bW,if_false,a0,a1,List.filter_nil,oA]<;>simp<;>lia
 .simp
theorem Ip(r:Row):(bM r).length<=16:=by
 unfold bM;split
 .unfold lJ;have h:=kN^r.nK.take 1;erw[qI,List.flatMap_nil,fL,aO];have e:∀s:Int,(if iy r s=true then(SN.fG^r.nK.take 1).map λb=>(s,b) else[]).length<=8:=λs=>by split<;>simp[h]
  have h0:=e 0;have h1:=e 1;lia
 .simp
theorem vC(r:Row)(ht:Ef t):(eL r t).length<=2:=by
 cases t with
 | none=>unfold eL;dsimp only;split<;>simp
 | some p =>
  unfold eL;dsimp only;have:=Eg r (s:=p.1) ht.1;split;simp
  .rw[aO];have h1:(if p∈bM r then([]:List HM.dX) else[some p]).length<=1:=by split<;>simp
   have h2:(if p∈d7 r then((bM r).filter λq=>decide (q.1=p.1)).map some else([]:List HM.dX)).length<=1:=by split;rw[aq];show this;simp
   lia
def Iq(h:r.ok n)(hg:(s,b)∈bM r):0<=b:=by
 unfold bM at hg;split at hg
 .have:=Bt (λb hb=>mR h b^ue _ _ hb) hg;have all:∀q∈bV,0<=q.2:=by decide
  show all _ this
 .show nomatch hg
def jP(h:r.ok n)(ht:Ef t)(u:HM.dX):u∈eL r t↔LeftOf r t u:=by
 cases t with
 | none =>
  unfold eL LeftOf;dsimp only;cases r.ends none<;>simp
 | some p =>
  let#[hs,hb0,F7]:=ht;let#[s,b]:=p;dsimp only at hs hb0 F7;unfold eL LeftOf;dsimp only;cases r.ends^some (s,b) with
  | true=>simp
  | false =>
   erw[bW,if_false,true_and];rw[aP];have e1:u∈(if(s,b)∈bM r then([]:List HM.dX) else[some (s,b)])↔(u=some (s,b)/\r.gv s≠b):=by have mg:=gc h hs hb0;split;rename_i e;simp[mg.mp e];rename_i e;simp[show ¬r.gv s=b from λz=>e^mg.mpr z]
   have e2:u∈(if(s,b)∈d7 r then((bM r).filter λq=>decide (q.1=s)).map some else([]:List HM.dX))↔(u=some (s,r.gv s)/\0<=r.gv s/\b∈r.rd s):=by
    have mr:=iR h hs (b:=b);split
    .rename_i e;replace e:=mr.mp e;rw[aD];constructor
     .rintro⟨⟨s',b'⟩,hq,rfl⟩;let#[hg,hq2]:=c9.mp hq;have hq2:s'=s:=by simpa using hq2
      subst hq2;have hb':0<=b':=Iq h hg;have:=(gc h hs hb').mp hg;rw[this];show#[rfl,hb',e]
     .rintro⟨rfl,h0,_⟩;show#[(s,r.gv s),c9.mpr #[(gc h hs h0).mpr rfl,by simp],rfl]
    .rename_i e;simp[show ¬b∈r.rd s from λz=>e^mr.mpr z]
   rw[e1,e2]
def NN(rs:List Row)(k:Nat):HM.dX->Bool
 | none=>true
 | some p=>decide (p∈ja rs k)
def tD:NN rs k t=true↔dX.lv rs k t:=by cases t<;>simp[NN,dX.lv]
def Gi(h:pF (.str r.key) [.str "look", .str "out", .str "back"]=true):qU r.vals 1=some^.int^r.nK.headD 0:=by cases r<;>first|rfl|(show absurd (show pF (.str "num") [.str "look", .str "out", .str "back"]=true from h)^by decide)|(show absurd (show pF (.str "copy") [.str "look", .str "out", .str "back"]=true from h)^by decide)|(show absurd (show pF (.str "op") [.str "look", .str "out", .str "back"]=true from h)^by decide)|(show absurd (show pF (.str "mark") [.str "look", .str "out", .str "back"]=true from h)^by decide)
abbrev jb(H:Hp):List V->List HM.dX->Prop:=Paired λx t=>cZ H t x
theorem jb.same(h:jb H vs ts)(e:aC H H'):jb H' vs ts:=cQ (λ_ _ x=>cZ.same x e) h
def Mw:Sp:=λvs H Q _=>∃(a tk gv:Addr)(x:V)(r:Row)(n:Int)(t:HM.dX)(us ws:List V),vs=[.ref a,x,.ref tk,.ref gv]/\H a=some^.tup r.vals/\r.ok n/\cZ H t x/\Ef t/\H tk=some^.lst us/\bE H us^d7 r/\H gv=some^.lst ws/\bE H ws (bM r) /\
 ∀(l:Addr)(xs:List V)(H':Hp),aC H H'->H l=none->H' l=some^.lst xs->jb H' xs^eL r t->Q (.ref l) H'
theorem rE(T:Txt w K mg):bQ P w K mg base gj 1 T.iU.f T.iU.d ["row", "thing", "taken", "given"] Mw:=by
 show T.iU.F.ok kH (λvs H Q E h=>?_) (λcdv A outer s H vs Q E hr h=>?_);let#[a,tk,gv,x,r,n,t,us,ws,rfl,_]:=h;rfl;let#[a,tk,gv,x,r,n,t,us,ws,rfl,ha,hok,hx,ht,htk,mF,X9,hws,q]:=h;have cm:=T.kg.q;have cs:=T.kh.q;show#[_,(ak (bI (bY (uE hr.units) (pv 1) aR) (ao^aE^fO (cK fz (br aZ (pv 0) ai) (gD (v:=.ref T.kg.a) rfl T.kg.c rfl)^by with_unfolding_all rfl) (bT af)^bT^aa aR af) aL)^ak (bI (PW.pt^ia (cK fz (br aZ (pv 0) ai) (gD (v:=.ref T.kh.a) rfl T.kh.c rfl)^by with_unfolding_all rfl)^f6^bY cN (br aZ (pv 0) ai)^br aZ (pv 1) ai) (ao^aE^bT af) aL)^ak (bq 4 kH.nd^fO (cK (yH hr.units) (pv 1) (pv 3)^by with_unfolding_all rfl) (bT af)^bT^aa (pv 1) af)^ak (bI (cK (yH hr.units) (pv 1) (pv 2)^by with_unfolding_all rfl) (ao^dR^i0 dj o5 o6 kC (pv 4)^aa (cT (bA.cz "spot" ["thing"] [1] ["thing"] rfl) (bP^pv 3) (λ_ _ _ _=>(lu^bY cN (br (pK (K:=K) rfl) (pv 0) ai)^br (pK (K:=K) rfl) (pv 1) ai)) (λ_ _ _ _=>(pv 0))) af) aL)^ao^aE^pv 4),?_];change(_:TS) (Ends.mk _ _ _ _) [_,_,_,_,_] H;k_in;lk;show Fy hx ?_;cases t with
 | none =>
  change qD _ (.bl true) H;lk;split
  .rename_i he;lk;rename_i l H1 n1;show q l [] H1 n1.same n1.1 n1.self ?_;unfold eL;dsimp only;rw[if_pos^show r.ends none=true from he];show .nil
  .rename_i he;lk;rename_i l H1 n1;show q l _ H1 n1.same n1.1 n1.self ?_;unfold eL;dsimp only;rw[if_neg^show ¬r.ends none=true from he];show .cons rfl .nil
 | some p =>
  change qD _ (.bl false) H;let#[b,rfl,hb]:=hx;have hwl:=hws.length;have UI:(bM r).length<=16:=Ip r;lk;have rest:r.ends^some p=false->nx0 [some^.ref a,some^.ref b,some^.ref tk,some^.ref gv,none] H:=by
   intro he;have em:eL r^some p=(if p∈bM r then[] else[some p])++if p∈d7 r then((bM r).filter λq=>decide (q.1=p.1)).map some else[]:=by unfold eL;dsimp only;rw[he];rfl
   show Eh _ _ ?_;lk;show Ax hb (bB.of X9) hws ?_;by_cases hg:p∈bM r
   case' pos =>
    rw[decide_eq_true hg];change qD _ (.bl true) H;lk;rename_i f H1 n1;have bs:∃vs,H1 f=some^.lst vs/\jb H1 vs (if p∈bM r then[] else[some p])/\vs.length<=1:=#[[],n1.self,by rw[if_pos hg];show .nil,aI _]
   case' neg =>
    rw[decide_eq_false hg];change qD _ (.bl false) H;lk;rename_i f H1 n1;have bs:∃vs,H1 f=some^.lst vs/\jb H1 vs (if p∈bM r then[] else[some p])/\vs.length<=1:=#[[.ref b],n1.self,by rw[if_neg hg];show .cons #[b,rfl,n1.keep hb] .nil,ay _]
   all_goals
    have s1:=n1.same;have ff:=n1.1;clear n1;let#[vs,hf1,hvs,hvl]:=bs;have hb1:=s1 _ _ hb;have acS:=s1 _ _ htk;have acT:=s1 _ _ X9;have acU:=bE.same s1 mF;have acV:=bE.same s1 hws;show Ax hb1 (bB.of acS) acU ?_;by_cases hr:p∈d7 r
    .rw[decide_eq_true hr];change qD _ (.bl true) H1;lk;show ig (xs:=ws) (λk zs H'=>H'=H1/\jb H1 zs^(((bM r).take k).filter λq=>decide (q.1=p.1)).map some) #[rfl,.nil] ?_ ?_ ?_;rintro k zs H' _ ⟨rfl,_⟩;show bB.of acT
     .rintro k y zs H' hy ⟨rfl,hz⟩;let#[t,UL,c,rfl,hc]:=bf acV hy;have UM:=hz.length;rw[aq] at UM;have hle:=iL (λq:Int×Int=>decide (q.1=p.1))^(bM r).take k;rw[cB] at hle;show#[bZ ∅,?_];have et:(bM r).take (k+1)=(bM r).take k++[t]:=by rw[bS,UL];rfl
      lk;rename_i e;show#[rfl,?_];rw[et,jh,bG,qH^by simpa using e];show cF hz #[c,rfl,hc];rename_i e;show#[rfl,?_];rw[et,jh,bG,qG^by simpa using e];simpa using hz
     .rintro zs H' ⟨rfl,hz⟩ l H2 n2;rw[hwl,cg] at hz;have UM:=hz.length;rw[aq] at UM;have hle:=iL (λq:Int×Int=>decide (q.1=p.1))^bM r;have hf2:=n2.keep hf1;have hl2:=n2.self;have s2:=n2.same;clear n2;lk;rename_i H3 p3;have s3:=p3.same (s1.trans s2) ff;have kp:∀{ys:List V}{ts:List HM.dX},jb H' ys ts->jb H3 ys ts:=λh=>cQ (λv t x=>by
       cases t with
       | none=>show x
       | some u=>let#[c,e1,e2]:=x;show#[c,e1,p3.keep (by intro z;subst z;rw[hf1] at e2;cases e2)^s2 _ _ e2]) h
      show q f _ H3 s3 ff p3.self ?_;rw[em,if_pos hr];show jO (kp hvs)^kp hz
    .rw[decide_eq_false hr];change qD _ (.bl false) H1;lk;show q f vs H1 s1 ff hf1 ?_;rw[em,if_neg hr,fL];show hvs
  clear Eh;cases he:pF (.str r.key) [.str "look", .str "out", .str "back"];rw[if_neg^by decide,if_neg^by decide];show Ig _^rest ?_;unfold Row.ends;dsimp only;rw[he];rfl
  .rw[if_pos rfl];lk;show uB (cY.of ha) (Gi he) ?_;lk
   .rename_i e l H1 n1;show q l [] H1 n1.same n1.1 n1.self ?_;have:r.ends^some p=true:=by unfold Row.ends;dsimp only;rw[he,decide_eq_true e];rfl
    unfold eL;dsimp only;rw[this];show .nil
   .rename_i e;show rest ?_;unfold Row.ends;dsimp only;rw[he,decide_eq_false e];rfl
def iI(rs:List Row)(r:Row)(t:HM.dX)(ks:List HM.bu):Prop:=ks.Pairwise (λx y=>HM.oY x<HM.oY y)/\∀z,z∈ks↔Gh rs r t z
def Mx:Sp:=λvs H Q _=>∃(o th lv:Addr)(ws:List Int)(xs:List V)(ts:List HM.dX)(as:List Addr)(rs:List Row),vs=[.ref o,.ref th,.ref lv]/\H o=some^.lst^ws.map V.int/\ws.length<=2/\(∀q∈ws,0<=q/\q<rs.length)/\H th=some^.lst xs/\jb H xs ts/\ts.length<=2/\(∀t∈ts,Ef t)/\(∀t∈ts,∀u∈ts,t.isSome=u.isSome)/\H lv=some^.lst^as.map V.ref/\as.length=rs.length/\sy H as rs /\
 ∀(l:Addr)(vs:List V)(ks:List HM.bu)(H':Hp),aC H H'->H l=none->H' l=some^.lst vs->aU H' vs ks->ks.Pairwise (λx y=>HM.oY x<HM.oY y)->(∀z,z∈ks↔z.1∈ws/\z.2∈ts/\dX.lv rs z.1.toNat z.2)->Q (.ref l) H'
theorem Ei(T:Txt w K mg):bQ P w K mg base gj 1 T.sW.f T.sW.d ["onward", "things", "lively"] Mx:=by
 show T.sW.F.ok oR (λvs H Q E h=>?_) (λcdv A outer s H vs Q E hr h=>?_);let#[o,th,lv,ws,xs,ts,as,rs,rfl,_]:=h;rfl;let#[o,th,lv,ws,xs,ts,as,rs,rfl,ho,hw2,hw,Dk,hxs,NO,htk,hal,AH,sF,hL,q]:=h;show#[_,(ak (bq 3 oR.nd^bT af)^ak (cP bD rfl (bP^pv 0) (di 4 oR.nd)^ao^dR^i0 dj o5 o6 kC (pv 3)^aa (cT (bA.cz "thing" ["lively", "way"] [2,4] ["way", "lively"] rfl) (bP^pv 1) (λ_ _ _ _=>(lu^PW.pt^lO (bY ((Ot (K:=K) rfl) hr.units) (pv 0) aR)^jk^cK ((Ft (K:=K) rfl) hr.units) (pv 0) (br (gr (K:=K) rfl) (pv 1)^pv 2)^by with_unfolding_all rfl)) (λ_ _ _ _=>(bC^aa (pv 2)^aa (pv 0) af))) af)^ao^aE^aQ (DJ hr.units rfl) rfl T.kL BT.kF^aa (cA (HC hr.units rfl) rfl T.F0 BT.z8^aa (pv 3) af) af),?_];change(_:TS) (Ends.mk _ _ _ _) [_,_,_,_,_] H;k_in;lk;rename_i f H1 n1;have ff:=n1.1;have s1:=n1.same;have hf1:=n1.self;clear n1;show f_list (xs:=ws.map V.int) (λi σ' H'=>(∃y,σ'=[some^.ref o,some^.ref th,some^.ref lv,some^.ref f,y])/\aC H H'/\∃(vs:List V)(ks:List HM.bu),H' f=some^.lst vs/\aU H' vs ks/\ks.length<=2*i/\∀z,z∈ks↔z.1∈ws.take i/\z.2∈ts/\dX.lv rs z.1.toNat z.2) ?_ ?_ ?_ ?_;show#[#[_,rfl],s1,[],[],hf1,.nil,aI _,λz=>by simp];rintro i σ' H' _ ⟨_,s',_⟩;show bB.of^s' _ _ ho
 .rintro i x σ' H2 hx ⟨⟨y0,rfl⟩,s2,vs,ks,hf2,hks,Ec,hmem⟩;rw[aW] at hx;let#[q0,NH,rfl]:=cE.mp hx;let#[hq0,hq1]:=hw q0^eY NH;have hil:=(eX NH).1;obtain⟨j,rfl⟩:∃j:Nat,q0=(j:Int):=#[q0.toNat,∅];obtain⟨a,ha⟩:∃a,as[j]?=some a:=#[_,dJ ∅];let#[us,mF,hps]:=hL j a ha;have Ii:=s2 _ _ mF;have zg:=hps.same s2;have UN:=s2 _ _ Dk;have Ir:=hxs.same s2;have PK:=s2 _ _ AH;have OW:=hxs.length;have hnf:∀{b:Addr}{o:HO},H b=some o->b≠f:=λe z=>by rw[z,ff] at e;cases e
  lk;show ig (xs:=xs) (λk zs H'=>aC H2 H'/\∃CN:List HM.bu,aU H' zs CN/\CN.length<=k/\∀z,z∈CN↔z.1=(j:Int)/\z.2∈ts.take k/\dX.lv rs j z.2) #[aC.refl _,[],.nil,aI _,λz=>by simp] ?_ ?_ ?_;rintro k zs H' _ ⟨s',_⟩;show bB.of^s' _ _ UN
  .rintro k y zs H3 hy ⟨s3,CN,hk2,acW,hm2⟩;let#[t,UL,hyt]:=bf Ir hy;have UO:=cZ.same hyt s3;have hkb:=(eX hy).1;have UM:=hk2.length;show#[bZ ∅,?_];lk;show Fy UO ?_;have step:∀b:Bool,NN rs j t=b->(b=true->∀(u:Addr)(H4:Hp),eV H3 u (.tup [.int (j:Int),y]) H4->aC H2 H4/\∃CN:List HM.bu,aU H4 (zs++[.ref u]) CN/\CN.length<=k+1/\∀z,z∈CN↔z.1=(j:Int)/\z.2∈ts.take (k+1)/\dX.lv rs j z.2)/\(b=false->aC H2 H3/\∃CN:List HM.bu,aU H3 zs CN/\CN.length<=k+1/\∀z,z∈CN↔z.1=(j:Int)/\z.2∈ts.take (k+1)/\dX.lv rs j z.2):=by
    intro b hb;have et:ts.take (k+1)=ts.take k++[t]:=by rw[bS,UL];rfl
    show#[λe u H4 n4=>#[s3.trans n4.same,CN++[((j:Int),t)],cF (aU.same hk2 n4.same) #[u,y,rfl,n4.self,cZ.same UO n4.same],by simp;lia,λz=>?_],λe=>#[s3,CN,hk2,∅,λz=>?_]];rw[e] at hb;rw[aP,hm2 z,et,aP,aA,aA];constructor;rintro(⟨h1,h2,h3⟩|rfl);show#[h1,.inl h2,h3];show#[rfl,.inr rfl,tD.mp hb];rintro⟨h1,h2|h2,h3⟩;show .inl #[h1,h2,h3];show .inr^Prod.ext h1 h2;rw[e] at hb;rw[hm2 z,et,aP,aA];constructor;rintro⟨h1,h2,h3⟩;show#[h1,.inl h2,h3];rintro⟨h1,h2|h2,h3⟩;show#[h1,h2,h3];rw[h2] at h3;rw[tD.mpr h3] at hb;cases hb
   cases t with
   | none =>
    change qD _ (.bl true) H3;lk;rename_i u H4 n4;show(step true rfl).1 rfl u H4 n4
   | some p =>
    change qD _ (.bl false) H3;let#[b,rfl,hb]:=UO;have UP:=s3 _ _ PK;have Ih:=s3 _ _ Ii;lk;show cL (bB.of UP) (v:=.ref a) (cR (by rw[aW,ha];rfl)) ?_;lk;show Ax hb (bB.of Ih) (bE.same s3 zg) ?_;by_cases hm:p∈ja rs j
    .rw[decide_eq_true hm];change qD _ (.bl true) H3;lk;rename_i u H4 n4;show(step true^decide_eq_true hm).1 rfl u H4 n4
    .rw[decide_eq_false hm];change qD _ (.bl false) H3;lk;show(step false^decide_eq_false hm).2 rfl
  .rintro zs H3 ⟨s3,CN,hk2,acW,hm2⟩ l H4 n4;have xN:=n4.keep^s3 _ _ hf2;have acX:=aU.same (aU.same hks s3) n4.same;have UM:=hk2.length;have hvl:=hks.length;have hl4:=n4.self;have VI:=aU.same hk2 n4.same;have Iu:=(s2.trans s3).trans n4.same;clear n4;lk;rename_i H5 p5;have s5:=p5.same Iu ff;have sp:∀(v:V)(k:HM.bu),aS H4 v k->aS H5 v k:=λv k ⟨a1,u,e1,e2,e3⟩=>#[a1,u,e1,p5.keep (by intro z;subst z;rw[xN] at e2;cases e2) e2,by
    revert e3;generalize k.2=k2;intro e3;cases k2 with
    | none=>show e3
    | some p=>let#[b,e4,e5]:=e3;show#[b,e4,p5.keep (by intro z;subst z;rw[xN] at e5;cases e5) e5]]
   show#[#[_,rfl],s5,_,ks++CN,p5.self,jO (cQ sp acX)^cQ sp VI,by simp;lia,λz=>?_];rw[aP,hmem z,hm2 z,bS,NH,aP,OW,cg];erw[nv,aA];constructor;rintro(⟨h1,h2,h3⟩|⟨h1,h2,h3⟩);show#[.inl h1,h2,h3];show#[.inr h1,h2,by rw[h1];show h3];rintro⟨h1|h1,h2,h3⟩;show .inl #[h1,h2,h3];show .inr #[h1,h2,by rw[h1] at h3;show h3]
 .rintro σ' H2 ⟨⟨y0,rfl⟩,s2,vs,ks,hf2,hks,Ec,hmem⟩;rw[aq] at Ec hmem;lk;show T7 (bB.of hf2) hks ∅ ?_;intro p H3 zs n3 hz hzm;lk;have hin:∀z∈zs,z.1.2∈ts:=λz hz'=>((hmem z.1).mp^(hzm _).mp^aD.mpr #[z,hz',rfl]).2.1;show ON n3.self (λz hz'=>(hz z hz').same n3.same) (λz hz' p hp=>?_) (λz hz' y hy=>hal _ (hin z hz') _^hin y hy) ?_;have:=htk _^hin z hz';rw[hp] at this;let#[h1,h2,h3]:=this;lia
  .intro l H4 vs4 ks4 n4 h4 m4 u4;show q l vs4 ks4 H4 ((s2.trans n3.same).trans n4.same) ((s2.trans n3.same).free n4.1) n4.self (aU.same h4 n4.same) u4 λz=>by rw[m4,hzm,hmem,cg]
theorem nN(h:Rows H us rs)(hr:rs[p]?=some r):∃a,qU us (p:Int)=some^.ref a/\H a=some^.tup r.vals:=by have hp:p<rs.length:=(eX hr).1;have hl:=h.length;let#[y,hy,a,e,ha]:=bf h (i:=p) (x:=us[p]'∅) (by simp[show p<us.length by lia]);rw[hr] at hy;cases hy;show#[a,cR (by rw[<- e];simp[show p<us.length by lia]),ha]
def My(H0 H:Hp)(rs:List Row)(r:Row)(bs:List Addr)(ts:List HM.dX):Prop:=bs.length=ts.length/\∀(i:Nat)(b:Addr)(t:HM.dX),bs[i]?=some b->ts[i]?=some t->H0 b=none/\∃vs ks,H b=some^.lst vs/\aU H vs ks/\iI rs r t ks
def Iv:Sp:=λvs H Q _=>∃(a th lv:Addr)(r:Row)(xs:List V)(ts:List HM.dX)(as:List Addr)(rs:List Row),vs=[.ref a,.ref th,.ref lv]/\H a=some^.tup r.vals/\r.ok rs.length/\H th=some^.lst xs/\jb H xs ts/\ts.length<=20/\(∀t∈ts,Ef t)/\H lv=some^.lst^as.map V.ref/\as.length=rs.length/\sy H as rs /\
 ∀(l:Addr)(bs:List Addr)(H':Hp),aC H H'->H l=none->H' l=some^.lst^bs.map V.ref->My H H' rs r bs ts->Q (.ref l) H'
theorem BD(T:Txt w K mg):bQ P w K mg base gj 4 T.qm.f T.qm.d ["row", "things", "lively"] Iv:=by
 show T.qm.F.ok jX (λvs H Q E h=>?_) (λcdv A outer s H vs Q E hr h=>?_);let#[a,th,lv,r,xs,ts,as,rs,rfl,_]:=h;rfl;let#[a,th,lv,r,xs,ts,as,rs,rfl,ha,hok,Dk,hxs,htl,hts,AH,sF,hL,q]:=h;show#[_,(ak (bq 3 jX.nd^aJ T.reads (Bp T) hr^aa (pv 0) af)^ak (bq 4 jX.nd^aJ T.gives (Bq T) hr^aa (pv 0) af)^ak (bq 5 jX.nd^aJ T.ql (vn T) hr^aa (pv 0) af)^ao^aE^cT (bA.cz "thing" ["row", "lively", "taken", "given", "onward"] [0,2,3,4,5] ["taken", "row", "onward", "lively", "given"] rfl) (bP^pv 1) (λ_ _ _ _=>dG) (λ_ _ _ _=>(aJ T.sW (Ei T) hr^aa (pv 5)^aa (aJ T.iU (rE T) hr^aa (pv 1)^aa (pv 0)^aa (pv 3)^aa (pv 4) af)^aa (pv 2) af))),?_];change(_:TS) (Ends.mk _ _ _ _) [_,_,_,_,_,_] H;k_in;lk;show#[a,r,rs.length,rfl,ha,hok,λtk us H1 s1 _ htk mF=>?_];lk;show#[a,r,rs.length,rfl,s1 _ _ ha,hok,λgv ws H2 s2 _ X9 hws=>?_];lk;show#[a,r,rfl,s2 _ _^s1 _ _ ha,λwy H3 s3 _ hwy=>?_];have zh:=s2.trans s3;have Ej:=s1.trans zh;have acY:=zh _ _ htk;have Ih:=mF.same zh;have acZ:=s3 _ _ X9;have ac0:=hws.same s3;have Iw:=Ej _ _ ha;have ac1:=Ej _ _ Dk;have Yb:=hxs.same Ej;have UP:=Ej _ _ AH;have hL3:sy H3 as rs:=λk a e=>let⟨vs,h1,h2⟩:=hL k a e;#[vs,Ej _ _ h1,h2.same Ej];clear s1 s2 s3 zh htk mF X9 hws ha Dk hxs AH hL;have OW:=Yb.length;lk;show ig (xs:=xs) (λi ys H'=>aC H3 H'/\∃bs:List Addr,ys=bs.map V.ref/\My H H' rs r bs^ts.take i) #[aC.refl _,[],rfl,by simp,λi b t h=>by simp at h] ?_ ?_ ?_;rintro i ys H' _ ⟨s',_⟩;show bB.of^s' _ _ ac1
 .rintro i x ys H4 hx ⟨s4,bs,rfl,NF,v8⟩;let#[t,hti,hxt]:=bf Yb hx;have hil:=(eX hx).1;rw[cB] at NF;show#[bZ (by rw[aq];lia),?_];have w5:=hts t^eY hti;lk;show#[a,tk,gv,x,r,rs.length,t,us,ws,rfl,s4 _ _ Iw,hok,cZ.same hxt s4,w5,s4 _ _ acY,Ih.same s4,s4 _ _ acZ,ac0.same s4,λXc UQ H5 s5 _ UN Ir=>?_];lk;have RH:=s4.trans s5;show#[wy,Xc,lv,r.ways,UQ,eL r t,as,rs,rfl,RH _ _ hwy,Row.jN r,λq hq=>?_,UN,Ir,vC r w5,λu hu=>((jP hok w5 u).mp hu |>.ok hok w5).1,λu hu v hv=>?_,RH _ _ UP,sF,λk a e=>let⟨vs,h1,h2⟩:=hL3 k a e;#[vs,RH _ _ h1,h2.same RH],λl vs6 ks6 H6 s6 fl hl6 hk6 u6 m6=>?_];show Row.gG hok q hq;rw[((jP hok w5 u).mp hu |>.ok hok w5).2,((jP hok w5 v).mp hv |>.ok hok w5).2]
  .have s36:=RH.trans s6;show#[s36,bs++[l],by simp,by simp;lia,λj b t' hb ht'=>?_];rcases bg j bs.length with hlt|hge
   .rw[kT hlt] at hb;have hj:j<i:=∅;rw[tX ∅] at ht';let#[h0,vs,ks,h1,h2,h3]:=v8 j b t' hb (by rw[tX hj];show ht');show#[h0,vs,ks,(s5.trans s6) _ _ h1,aU.same h2^s5.trans s6,h3]
   .rw[j4 hge] at hb;have hj:j=i:=by have:=(eX hb).1;simp at this;lia
    subst hj;rw[tX ∅,hti] at ht';cases ht';rw[show j-bs.length=0 by lia] at hb;cases hb;show#[(Ej.trans RH).free fl,vs6,ks6,hl6,hk6,u6,λz=>?_];rw[m6 z,jP hok w5];rfl
 .rintro ys H4 ⟨s4,bs,rfl,v8⟩ l H5 n5;rw[OW,cg] at v8;show q l bs H5 ((Ej.trans s4).trans n5.same) ((Ej.trans s4).free n5.1) n5.self #[v8.1,λi b t hb ht=>?_];let#[h0,vs,ks,h1,h2,h3]:=v8.2 i b t hb ht;show#[h0,vs,ks,n5.keep h1,aU.same h2 n5.same,h3]
def eO(H:Hp)(rs:List Row)(kvs:gk):Prop:=∀x∈kvs,∃(a:Addr)(vs:List V)(ks:List HM.bu)(k:Nat)(r:Row),x.2.2=.ref a/\H a=some^.lst vs/\aU H vs ks/\x.1.1=(k:Int)/\rs[k]?=some r/\iI rs r x.1.2 ks
def b7(rs:List Row)(k:Nat):List HM.dX:=(ja rs k).map some++[none]
def aM(rs:List Row)(n:Nat):List HM.bu:=(List.range n).flatMap λk=>(b7 rs k).map λt=>((k:Int),t)
def cZ.BE(h:cZ H t v)(hf:H f=some^.ext φ)(p:qE H f o H'):cZ H' t v:=by
 cases t with
 | none=>show h
 | some p2=>let#[b,e1,e2]:=h;show#[b,e1,p.keep (by intro z;subst z;rw[hf] at e2;cases e2) e2]
theorem aS.BE{k:HM.bu}(h:aS H v k)(hf:H f=some^.ext φ)(p:qE H f o H'):aS H' v k:=by let#[a,u,e,h1,h2]:=h;show#[a,u,e,p.keep (by intro z;subst z;rw[hf] at h1;cases h1) h1,cZ.BE h2 hf p]
theorem eO.same(h:eO H rs kvs)(s:aC H H'):eO H' rs kvs:=λx hx=>by let#[a,vs,ks,k,r,h1,h2,h3,h4]:=h x hx;show#[a,vs,ks,k,r,h1,s _ _ h2,aU.same h3 s,h4]
theorem eO.BE(h:eO H rs kvs)(hf:H f=some^.ext φ)(p:qE H f o H'):eO H' rs kvs:=λx hx=>by let#[a,vs,ks,k,r,h1,h2,h3,h4]:=h x hx;show#[a,vs,ks,k,r,h1,p.keep (by intro z;subst z;rw[hf] at h2;cases h2) h2,cQ (λ_ _ x=>aS.BE x hf p) h3,h4]
def Ek(h:bE H vs ps):jb H vs^ps.map some:=by
 induction h with
 | nil=>show .nil
 | cons h _ ih=>show .cons h ih
theorem lK(rs:List Row)(k:Nat):(b7 rs k).length<=17:=by have:=mS rs k;unfold b7;simp;lia
def rF(rs:List Row)(k:Nat):∀t∈b7 rs k,Ef t:=λt ht=>by
 unfold b7 at ht;rcases aP.mp ht with ht|ht
 .let#[p,hp,rfl]:=aD.mp ht;have all:∀t∈bV,(t.1=0\/t.1=1)/\0<=t.2/\t.2<8:=by decide
  show all p (c9.mp hp).1
 .rw[aA.mp ht];trivial
def lM(rs:List Row)(n:Nat):aM rs (n+1)=aM rs n++(b7 rs n).map λt=>((n:Int),t):=by unfold aM;rw[qN,List.flatMap_append];simp
theorem qw(rs:List Row):∀n,(aM rs n).length<=17*n
 | 0=>by simp[aM]
 | n+1=>by have:=qw rs n;have h:=lK rs n;rw[lM,aO,aq];lia
def xO(rs:List Row)(k:Nat):(b7 rs k).Nodup:=by unfold b7;rw[gJ];show#[?_,by simp,λx hx y hy e=>?_];have h:(ja rs k).Nodup:=(List.Pairwise.filter _ (show bV.Pairwise (· ≠ ·) by decide));show jj.mpr (h.imp λh e=>h^Option.some.inj e);let#[p,_,rfl]:=aD.mp hx;rw[aA.mp hy] at e;cases e
theorem Mz(h:(b7 rs i)[j]?=some t):((i:Int),t)∉aM rs i++((b7 rs i).take j).map (λt=>((i:Int),t)):=by
 intro hm;rcases aP.mp hm with hm|hm
 .unfold aM at hm;let#[k,hk,hz]:=l9.mp hm;let#[u,_,e]:=aD.mp hz;have e1:(k:Int)=(i:Int):=congrArg Prod.fst e;have:=fN.mp hk;lia
 .let#[u,hu,e]:=aD.mp hm;have e2:u=t:=congrArg Prod.snd e;subst e2;let#[m,hm,e3]:=List.mem_take_iff_getElem.mp hu;have hj:=(eX h);let#[hjl,hje]:=hj;have:=(tY^xO rs i).mp^e3.trans hje.symm;lia
def Iz(P:Program)(w:World):Sp:=λvs H Q _=>∃(c:Addr)(us:List V)(rs:List Row),vs=[.ref c]/\H c=some^.lst us/\Rows H us rs/\(∀r∈rs,r.ok rs.length)/\rs.length<=200 /\
 ∀(d:Addr)(ep:Nat)(kvs:gk)(H':Hp),aC H H'->H d=none->H' d=some^.ext (dz P w d ep kvs)->cu H' kvs->kvs.map (·.1)=aM rs rs.length->eO H' rs kvs->Q (.ref d) H'
theorem vD(T:Txt w K mg):bQ P w K mg base gj 5 T.qo.f T.qo.d ["code"]^Iz P w:=by
 show T.qo.F.ok fV (λvs H Q E h=>?_) (λcdv A outer s H vs Q E hr h=>?_);let#[c,us,rs,rfl,_]:=h;rfl;let#[c,us,rs,rfl,hc,hrs,hok,hn,q]:=h;show#[_,(ak (bq 1 fV.nd^aJ T.live (Ga T) hr^aa (pv 0) af)^ak (bq 2 fV.nd AM)^ak (cP bD rfl (lz rfl T.fX^aa (pv 0) af) (k7 (n:=2) rfl^bw (di 3 fV.nd)^bw (di 4 fV.nd) fE)^ak (bq 5 fV.nd^az yt (br bN (pv 1)^pv 3)^bT^aa aR af)^ao^cP bD rfl (Dj rfl T.L6^aa (pv 5)^aa (aJ T.qm (BD T) hr^aa (pv 4)^aa (pv 5)^aa (pv 1) af) af) (k7 (n:=2) rfl^bw (di 6 fV.nd)^bw (di 7 fV.nd) fE)^ao^AN hr.units (pv 2) (bC^aa (pv 3)^aa (pv 6) af) (pv 7) rfl)^ao^aE^pv 2),?_];change(_:TS) (Ends.mk _ _ _ _) [_,_,_,_,_,_,_,_] H;k_in;lk;show#[c,us,rs,rfl,hc,hrs,hok,hn,λlv as H1 s1 _ AH sF _ _ _ hL=>?_];lk;rename_i d ep H2 n2;have fd:=(show H d=none from s1.free n2.1);have s2:=s1.trans n2.same;have hd2:=n2.self;have PK:=n2.keep AH;have Q4:sy H2 as rs:=λk a e=>let⟨vs,h1,h2⟩:=hL k a e;#[vs,n2.keep h1,h2.same n2.same];have fd1:=n2.1;have s12:=n2.same;clear n2;have sr:=hrs.length;show uF (xs:=us) (λi σ' H'=>(∃y3 y4 y5 y6 y7,σ'=[some^.ref c,some^.ref lv,some^.ref d,y3,y4,y5,y6,y7])/\aC H1 H'/\∃ep kvs,H' d=some^.ext (dz P w d ep kvs)/\cu H' kvs/\kvs.map (·.1)=aM rs i/\eO H' rs kvs) ?_ ?_ ?_ ?_;show#[#[_,_,_,_,_,rfl],s12,ep,[],hd2,(λx hx=>nomatch hx),rfl,λx hx=>nomatch hx];rintro i σ' H' _ ⟨_,s',_⟩;show bB.of^s' _ _^s1 _ _ hc
 .rintro i x p σ' H3 H4 hx ⟨⟨y3,y4,y5,y6,y7,rfl⟩,s3,ZL,kvs,HJ,VD,em,hla⟩ n4;let#[r,Pj,a,rfl,ha]:=bf hrs hx;have zj:=hok r^eY Pj;have Gj:aC H1 H4:=s3.trans n4.same;have RI:=n4.keep HJ;have VI:=VD.same n4.same;have Yc:=eO.same hla n4.same;lk;have hil:=(eX Pj).1;obtain⟨al,hal⟩:∃a,as[i]?=some a:=#[_,dJ ∅];let#[ws,hws,hps]:=hL i al hal;have ac5:=Gj _ _ hws;have hwl:=hps.length;have Ut:=mS rs i;clear n4 HJ VD hla;show cL (bB.of^Gj _ _ AH) (v:=.ref al) (cR (by rw[aW,hal];rfl)) ?_;lk;rename_i mk H5 n5 tg H6 n6;have NL:=n5.same.trans n6.same;have MA:=Gj.trans NL;have htg:=n6.self;have hts:jb H6 (ws++[.str "mark"])^b7 rs i:=jO (Ek^hps.same MA)^.cons rfl .nil;have Yd:=NL _ _ RI;have hk6:=VI.same NL;have ac6:=eO.same Yc NL;clear n5 n6 NL RI VI Yc ac5;show#[a,tg,lv,r,_,b7 rs i,as,rs,rfl,MA _ _^s1 _ _ ha,zj,htg,hts,bO (lK rs i)^by decide,rF rs i,MA _ _ AH,sF,λk a e=>let⟨vs,h1,h2⟩:=hL k a e;#[vs,MA _ _ h1,h2.same MA],λl bs H7 s7 _ hl v8=>?_];lk;have Ye:=s7 _ _ Yd;have hk7:=hk6.same s7;have MB:=eO.same ac6 s7;have ac7:=hts.same s7;have ac8:=s7 _ _ htg;have NF:=v8.1;have htl:=hts.length;have Ec:kvs.length<=17*rs.length:=by have h1:=congrArg List.length em;rw[aq] at h1;have h2:=qw rs i;have h3:17*i<=17*rs.length:=Nat.mul_le_mul_left _ ∅;lia
  have hld:l≠d:=λz=>by rw[z,Ye] at hl;cases hl
  have htd:tg≠d:=λz=>by rw[z,Yd] at htg;cases htg
  have Yg:=lK rs i;show WR (t1:=false) (t2:=false) (λj σ' H'=>(∃y6 y7,σ'=[some^.ref c,some^.ref lv,some^.ref d,some^.int (i:Int),some^.ref a,some^.ref tg,y6,y7])/\(∀b o,b≠d->H7 b=some o->H' b=some o)/\∃ep kvs',H' d=some^.ext (dz P w d ep kvs')/\cu H' kvs'/\kvs'.map (·.1)=aM rs i++((b7 rs i).take j).map (λt=>((i:Int),t))/\eO H' rs kvs') ?_ ?_ ?_ ?_;show#[#[_,_,rfl],λb o _ e=>e,ZL,kvs,Ye,hk7,by simpa using em,MB];rintro j σ' H' _ ⟨_,k',_⟩;show#[bB.of^k' _ _ htd ac8,bB.of^k' _ _ hld hl]
  .rintro j x y p σ' H8 H9 hx hy ⟨⟨y6,y7,rfl⟩,k8,ep8,PL,hd8,hk8,VJ,UR⟩ n9;let#[t,htj,hxt]:=bf ac7 hx;rw[aW] at hy;let#[b,hbj,rfl]:=cE.mp hy;let#[h0b,bvs,bks,hb7,ada,adb]:=v8.2 j b t hbj htj;lk;rename_i tu zM Gk;have hbd:b≠d:=λz=>by rw[z,Yd] at h0b;cases h0b
   have nd7:∀{c:Addr}{zs:List V},H7 c=some^.tup zs->c≠d:=λe z=>by rw[z,Ye] at e;cases e
   have t8:∀{v:V}{u:HM.dX},cZ H7 u v->cZ H8 u v:=λ{v u} h=>by
    cases u with
    | none=>show h
    | some q=>let#[c,e1,e2]:=h;show#[c,e1,k8 _ _ (nd7 e2) e2]
   have h8:∀(v:V)(k:HM.bu),aS H7 v k->aS H8 v k:=λv k ⟨c,u,e1,e2,e3⟩=>#[c,u,e1,k8 _ _ (nd7 e2) e2,t8 e3];have BF:=n9.same.trans Gk.same;have MC:=BF _ _ hd8;have hkey:aS zM (.ref tu) ((i:Int),t):=#[tu,x,rfl,Gk.self,cZ.same (t8 hxt) BF];have afM:PL.length<=17*i+17:=by have h1:=congrArg List.length VJ;rw[aq,aO,aq,cB] at h1;have h2:=qw rs i;lia
   show Lw MC (hk8.same BF) hkey ∅ ?_;intro rP Jw zN;have hnew:((i:Int),t)∉PL.map (·.1):=by rw[VJ];show Mz htj
   rw[uT hnew] at zN;show#[#[_,_,rfl],λb o hb e=>zN.keep hb^BF _ _^k8 b o hb e,rP,_,zN.self,λz hz=>?_,?_,λz hz=>?_];rcases aP.mp hz with hz|hz;show aS.BE ((hk8.same BF) z hz) MC zN;rw[aA.mp hz];show aS.BE hkey MC zN;rw[bG,VJ,bS,htj,bG,kR];rfl
   .rcases aP.mp hz with hz|hz;show eO.BE (eO.same UR BF) MC zN z hz;rw[aA.mp hz];show#[b,bvs,bks,i,r,rfl,zN.keep hbd^BF _ _^k8 _ _ hbd hb7,cQ (λv k h=>aS.BE (aS.same (h8 v k h) BF) MC zN) ada,rfl,Pj,adb]
  .rintro σ' H8 ⟨⟨y6,y7,rfl⟩,k8,ep8,PL,hd8,hk8,VJ,UR⟩;rw[aq,NF,htl,Nat.min_self,cg,<- lM] at VJ;show Yh _ _ ?_;show#[#[_,_,_,_,_,rfl],λb o e=>k8 b o (λz=>by subst z;rw[fd1] at e;cases e)^s7 _ _^MA _ _ e,ep8,PL,hd8,hk8,VJ,UR]
 .rintro σ' H3 ⟨⟨y3,y4,y5,y6,y7,rfl⟩,s3,ZL,kvs,HJ,VD,em,hla⟩;rw[sr] at em;lk;show q d ZL kvs H3 (s1.trans s3) fd HJ VD em hla
section
variable {α:Type} [DecidableEq α]
noncomputable def dO(L:α->List α)(ks:List α)(o:α):List α:=ks.flatMap λx=>((L x).filter λz=>decide (z=o)).map λ_=>x
def RJ(L:α->List α)(F:List (α×Int)):Prop:=∀x∈F,1<=x.2/\(∀o∈L x.1,∃m,(o,m)∈F/\m<x.2)/\(x.2=1/\L x.1=[]\/∃o∈L x.1,(o,x.2-1)∈F)
structure kO (ks:List α) (L:α->List α) (F:List (α×Int)):Prop where
 nd:(F.map (·.1)).Nodup
 sub:∀x∈F,x.1∈ks
 fin:RJ L F
 out:∀h∈ks,h∉F.map (·.1)->∃o∈L h,o∉F.map (·.1)
noncomputable def nZ(L:α->List α)(G:List α)(h:α):Nat:=((L h).filter λo=>decide (o∉G)).length
structure iW (ks:List α) (L:α->List α) (F:List (α×Int)) (w:α->Int) (R:List α):Prop where
 nd:(F.map (·.1)).Nodup
 sub:∀x∈F,x.1∈ks
 fin:RJ L F
 cnt:∀h∈ks,w h=nZ L (F.map (·.1)) h
 US:R.Nodup
 NP:∀h,h∈R↔h∈ks/\h∉F.map (·.1)/\w h=0
def IA{L:α->List α}{G:List α}{h:α}(e:nZ L G h=0):∀o∈L h,o∈G:=λo ho=>oj λn=>by have:o∈(L h).filter λo=>decide (o∉G):=c9.mpr #[ho,decide_eq_true n];rw[nZ] at e;rw[List.length_eq_zero_iff.mp e] at this;show nomatch this
def iW.done{ks:List α}{L:α->List α}{F:List (α×Int)}{w:α->Int}(v:iW ks L F w []):kO ks L F:=by
 show#[v.nd,v.sub,v.fin,λh hk hf=>oj λn=>?_];have:h∈([]:List α):=(v.NP h).mpr #[hk,hf,by
  rw[v.cnt h hk];have:(L h).filter (λo=>decide (o∉F.map (·.1)))=[]:=List.filter_eq_nil_iff.mpr λo ho e=>n #[o,ho,of_decide_eq_true e];rw[nZ,this];rfl]
 show nomatch this
def iW.start{ks:List α}{L:α->List α}(nd:ks.Nodup):iW ks L [] (λh=>((L h).length:Int)) (ks.filter λh=>decide (((L h).length:Int)=0)):=by
 show#[.nil,(λx hx=>nomatch hx),(λx hx=>nomatch hx),λh _=>?_,List.Pairwise.filter _ nd,λh=>?_]
 .have:(L h).filter (λo=>decide (o∉List.map (·.1) ([]:List (α×Int))))=L h:=List.filter_eq_self.mpr λo _=>by simp
  rw[nZ,this]
 .rw[c9];simp
def MD{L:α->List α}{o x:α}:∀{ks:List α},ks.Nodup->x∈ks->(dO L ks o).count x=(L x).count o:=by
 intro ks;have each:∀y,(((L y).filter λz=>decide (z=o)).map λ_=>y).count x=if y=x then(L x).count o else 0:=λy=>by generalize hn:((L y).filter λz=>decide (z=o))=l;have e:l.map (λ_=>y)=List.replicate l.length y:=List.map_const';rw[e,List.count_replicate];by_cases hy:y=x;subst hy;erw[BEq.rfl,if_true];rw[<- hn,List.count_eq_length_filter];show congrArg List.length (List.filter_congr λz _=>by by_cases hz:z=o<;>simp[hz]);rw[if_neg hy,if_neg^by simpa using hy]
 induction ks with
 | nil=>intro _ h;show nomatch h
 | cons y ks ih =>
  intro nd hx;have ZF:=gZ.mp nd;rw[dO,qI,List.count_append,each];by_cases hy:y=x
  .subst hy;rw[if_pos rfl];have z:(ks.flatMap λx=>((L x).filter λz=>decide (z=o)).map λ_=>x).count y=0:=by rw[List.count_eq_zero];intro hm;let#[a,ha,hb]:=l9.mp hm;let#[_,_,rfl]:=aD.mp hb;show ZF.1 ha
   rw[z];rfl
  .rw[if_neg hy,Nat.zero_add];show ih ZF.2 ((aH.mp hx).resolve_left λe=>hy e.symm)
def ME{L:α->List α}{ks:List α}{o x:α}:x∈dO L ks o↔x∈ks/\o∈L x:=by unfold dO;rw[l9];constructor;rintro⟨y,hy,hx⟩;let#[z,hz,rfl]:=aD.mp hx;let#[h1,h2]:=c9.mp hz;rw[of_decide_eq_true h2] at h1;show#[hy,h1];rintro⟨hx,ho⟩;show#[x,hx,aD.mpr #[o,c9.mpr #[ho,by simp],rfl]]
theorem IB{L:α->List α}{G:List α}{h x:α}(hG:h∉G):nZ L G x=nZ L (G++[h]) x+(L x).count h:=by
 unfold nZ;induction L x with
 | nil=>rfl
 | cons o l ih =>
  by_cases e:o=h;subst e;rw[qH^by simpa using hG,qG^by simp,List.count_cons_self,cW,ih];lia;rw[List.count_cons_of_ne e];by_cases g:o∈G;rw[qG^by simp[g],qG^by simp[g],ih];rw[qH^by simp[g],qH^by simp[g,e],cW,cW,ih];lia
structure qx (ks:List α) (L:α->List α) (G:List α) (E:List α) (j:Nat) (w:α->Int) (R:List α):Prop where
 cnt:∀x∈ks,w x=nZ L G x+((E.drop j).count x:Nat)
 US:R.Nodup
 NP:∀x,x∈R↔x∈ks/\x∉G/\w x=0
theorem iW.pop{ks:List α}{L:α->List α}{F:List (α×Int)}{w:α->Int}{R:List α}{h:α}(nd:ks.Nodup)(v:iW ks L F w (R++[h])):
  h∈ks/\h∉F.map (·.1)/\(∀o∈L h,o∈F.map (·.1))/\qx ks L (F.map (·.1)++[h]) (dO L ks h) 0 w R:=by let#[h1,h2,h3]:=(v.NP h).mp (by simp);have h4:=v.cnt h h1;show#[h1,h2,IA ∅,λx hx=>?_,(gJ.mp v.US).1,λx=>?_];rw[v.cnt x hx,List.drop_zero,MD nd hx,IB h2];simp;have hR:h∉R:=λz=>(gJ.mp v.US).2.2 h z h (by simp) rfl;have:=v.NP x;rw[aP,aA] at this ⊢;constructor;intro hx;let#[a,b,c]:=this.mp^.inl hx;show#[a,λz=>z.elim b λe=>hR (e▸hx),c];rintro⟨a,b,c⟩;show(this.mpr #[a,λz=>b^.inl z,c]).resolve_right λe=>b^.inr e
noncomputable def vE(w:α->β)(x:α)(n:β):α->β:=λy=>if y=x then n else w y
theorem qx.next{ks:List α}{L:α->List α}{G:List α}{h:α}{w:α->Int}{R:List α}{x:α}(v:qx ks L (G++[h]) (dO L ks h) j w R)
  (cl:∀y∈ks,y∈G->∀o∈L y,o∈G)(hG:h∉G)(hL:∀o∈L h,o∈G)(hx:(dO L ks h)[j]?=some x):
  1<=w x/\x∈ks/\(w x-1=0->qx ks L (G++[h]) (dO L ks h) (j+1) (vE w x (w x-1)) (R++[x]))/\(w x-1≠0->qx ks L (G++[h]) (dO L ks h) (j+1) (vE w x (w x-1)) R):=by
 let#[hk,hh]:=ME.mp^eY hx;let#[hj,ej]:=eX hx;have c:=v.cnt x hk;have ed:∀y,((dO L ks h).drop j).count y=((dO L ks h).drop (j+1)).count y+if x=y then 1 else 0:=λy=>by rw[List.drop_eq_getElem_cons hj,ej,List.count_cons];by_cases e:x=y<;>simp[e]
 have hw:1<=w x:=by have:=ed x;rw[if_pos rfl] at this;lia
 have xG:x∉G++[h]:=λz=>by rcases aP.mp z with z|z;show hG^cl x hk z h hh;rw[aA.mp z] at hh;show hG^hL h hh
 have cnt:∀y∈ks,vE w x (w x-1) y=nZ L (G++[h]) y+(((dO L ks h).drop (j+1)).count y:Nat):=λy hy=>by have c:=v.cnt y hy;have e:=ed y;unfold vE;by_cases hyx:y=x;subst hyx;rw[if_pos rfl] at e ⊢;lia;rw[if_neg λz=>hyx z.symm] at e;rw[if_neg hyx];lia
 have xR:x∉R:=λz=>by have:=((v.NP x).mp z).2.2;lia
 show#[hw,hk,λe0=>#[cnt,?_,λy=>?_],λe0=>#[cnt,v.US,λy=>?_]];rw[gJ];show#[v.US,by simp,λa ha b hb e=>xR (by rw[aA.mp hb] at e;show e▸ha)];rw[aP,aA];unfold vE;by_cases hyx:y=x;subst hyx;rw[if_pos rfl];show#[λ_=>#[hk,xG,e0],λ_=>.inr rfl];rw[if_neg hyx];show#[λz=>(v.NP y).mp^z.resolve_right hyx,λz=>.inl^(v.NP y).mpr z];unfold vE;by_cases hyx:y=x;subst hyx;rw[if_pos rfl];show#[λz=>absurd z xR,λz=>absurd z.2.2 e0];rw[if_neg hyx];show v.NP y
theorem qx.end{ks:List α}{L:α->List α}{F:List (α×Int)}{h:α}{m:Int}{w0 w:α->Int}{R0 R E:List α}(v0:iW ks L F w0 R0)(v:qx ks L (F.map (·.1)++[h]) E E.length w R)(hk:h∈ks)(hF:h∉F.map (·.1))(hL:∀o∈L h,o∈F.map (·.1))(e:n=1+m)
  (h0:L h=[]->m=0)(h1:L h≠[]->(∃o∈L h,(o,m)∈F)/\∀o∈L h,∀k,(o,k)∈F->k<=m):iW ks L (F++[(h,n)]) w R:=by
 have em:(F++[(h,n)]).map (·.1)=F.map (·.1)++[h]:=by simp
 have up:∀o k,(o,k)∈F->(o,k)∈F++[(h,n)]:=λo k z=>kU _ z;show#[?_,λx hx=>?_,λx hx=>?_,λx hx=>?_,v.US,?_];rw[em,gJ];show#[v0.nd,by simp,λa ha b hb z=>hF (by rw[aA.mp hb] at z;show z▸ha)];rcases aP.mp hx with z|z;show v0.sub x z;rw[aA.mp z];show hk
 .rcases aP.mp hx with z|z;let#[a,b,c]:=v0.fin x z;show#[a,λo ho=>let⟨k,c,d⟩:=b o ho;#[k,up _ _ c,d],c.imp_right λ⟨o,ho,c⟩=>#[o,ho,up _ _ c]];rw[aA.mp z];dsimp only;by_cases hn:L h=[];have:=h0 hn;rw[hn];show#[∅,(λo ho=>nomatch ho),.inl #[∅,rfl]];let#[#[o,ho,hm],hle]:=h1 hn;have:=(v0.fin _ hm).1;dsimp only at this;show#[∅,λo ho=>?_,.inr #[o,ho,?_]];let#[#[_,k],hx,rfl]:=aD.mp^hL o ho;have:=hle _ ho k hx;show#[k,up _ _ hx,∅];rw[show n-1=m by lia];show up _ _ hm
 .rw[em,v.cnt x hx,List.drop_length];simp
 .rw[em];show v.NP
theorem nO{β:Type}:∀{F:List (α×β)}{o:α}{a b:β},(F.map (·.1)).Nodup->(o,a)∈F->(o,b)∈F->a=b
 | [],_,_,_,_,h,_=>nomatch h
 | x::F,o,a,b,nd,ha,hb=>by rw[cG,gZ] at nd;rcases aH.mp ha with e1|h1<;>rcases aH.mp hb with e2|h2;show congrArg Prod.snd^e1.trans e2.symm;show absurd (by rw[<- e1];show aD.mpr #[_,h2,rfl]) nd.1;show absurd (by rw[<- e2];show aD.mpr #[_,h1,rfl]) nd.1;show nO nd.2 h1 h2
end
def BG(H H':Hp):Prop:=∀b vs,H b=some^.tup vs->H' b=some^.tup vs
def mU(hf:H f=some^.lst xs)(p:qE H f o H'):BG H H':=λb vs h=>p.keep (by intro z;subst z;rw[hf] at h;cases h) h
def BH(hf:H f=some^.ext φ)(p:qE H f o H'):BG H H':=λb vs h=>p.keep (by intro z;subst z;rw[hf] at h;cases h) h
def cZ.tups(h:cZ H t v)(s:BG H H'):cZ H' t v:=by
 cases t with
 | none=>show h
 | some p2=>let#[b,e1,e2]:=h;show#[b,e1,s _ _ e2]
theorem aS.tups{k:HM.bu}(h:aS H v k)(s:BG H H'):aS H' v k:=by let#[a,u,e,h1,h2]:=h;show#[a,u,e,s _ _ h1,cZ.tups h2 s]
theorem aU.tups(h:aU H vs ks)(s:BG H H'):aU H' vs ks:=cQ (λ_ _ x=>aS.tups x s) h
theorem cu.tups(h:cu H kvs)(s:BG H H'):cu H' kvs:=λx hx=>aS.tups (h x hx) s
def iz(H:Hp)(kvs:gk)(L:HM.bu->List HM.bu):Prop:=∀x∈kvs,∃a vs,x.2.2=V.ref a/\H a=some^.lst vs/\aU H vs^L x.1
theorem iz.same{L:HM.bu->List HM.bu}(h:iz H kvs L)(s:aC H H'):iz H' kvs L:=λx hx=>let⟨a,vs,h1,h2,h3⟩:=h x hx;#[a,vs,h1,s _ _ h2,aU.same h3 s]
theorem vF:∀{kvs:gk}{x:HM.bu×Addr×V},(kvs.map (·.1)).Nodup->x∈kvs->j8 kvs x.1=some x.2.2
 | [],_,_,hx=>nomatch hx
 | y::kvs,x,nd,hx=>by
  rw[cG,gZ] at nd;unfold j8;rw[iK];rcases aH.mp hx with rfl|hx;simp
  .have ne:¬y.1=x.1:=λe=>nd.1 (e▸mh hx);rw[decide_eq_false ne];show vF nd.2 hx
def tE{k:HM.bu}(nd:(kvs.map (·.1)).Nodup)(hk:k∈kvs.map (·.1)):∃x∈kvs,x.1=k/\j8 kvs k=some x.2.2:=by let#[x,hx,rfl]:=aD.mp hk;show#[x,hx,rfl,vF nd hx]
def fh(ks:List HM.bu)(L:HM.bu->List HM.bu):Prop:=ks.Nodup/\ks.length<=4000/\∀k∈ks,(L k).length<=4/\∀o∈L k,o∈ks
theorem BI(L:HM.bu->List HM.bu)(o:HM.bu):∀ks:List HM.bu,(∀k∈ks,(L k).length<=4)->(dO L ks o).length<=4*ks.length
 | [],_=>by simp[dO]
 | k::ks,h=>by have h1:=BI L o ks λk hk=>h k^cX _ hk;have h2:=h k (by simp);have h3:=iL (λz=>decide (z=o))^L k;unfold dO at h1 ⊢;rw[qI,aO,aq,cW];lia
def El(H0 H:Hp)(kvs:gk)(L:HM.bu->List HM.bu):Prop:=(kvs.map (·.2.2)).Nodup/\∀x∈kvs,∃a vs,x.2.2=V.ref a/\H0 a=none/\H a=some^.lst vs/\aU H vs^L x.1
theorem El.same{H0:Hp}{L:HM.bu->List HM.bu}(h:El H0 H kvs L)(s:aC H H'):El H0 H' kvs L:=#[h.1,λx hx=>let⟨a,vs,h1,h0,h2,h3⟩:=h.2 x hx;#[a,vs,h1,h0,s _ _ h2,aU.same h3 s]]
theorem Em:∀{kvs:gk}{x y:HM.bu×Addr×V},(kvs.map (·.2.2)).Nodup->x∈kvs->y∈kvs->x.2.2=y.2.2->x=y
 | [],_,_,_,hx,_,_=>nomatch hx
 | z::kvs,x,y,nd,hx,hy,e=>by rw[cG,gZ] at nd;rcases aH.mp hx with e1|h1<;>rcases aH.mp hy with e2|h2;rw[e1,e2];show absurd (by rw[<- e1,e];show mh h2) nd.1;show absurd (by rw[<- e2,<- e];show mh h1) nd.1;show Em nd.2 h1 h2 e
def MF(P:Program)(w:World):Sp:=λvs H Q _=>∃(d:Addr)(ep:Nat)(kvs:gk)(L:HM.bu->List HM.bu),vs=[.ref d]/\H d=some^.ext (dz P w d ep kvs)/\cu H kvs/\iz H kvs L/\fh (kvs.map (·.1)) L /\
 ∀(d':Addr)(rP:Nat)(kvs':gk)(H':Hp),aC H H'->H d'=none->H' d'=some^.ext (dz P w d' rP kvs')->cu H' kvs'->kvs'.map (·.1)=kvs.map (·.1)->iz H' kvs'^dO L^kvs.map (·.1)->Q (.ref d') H'
theorem IC(T:Txt w K mg):bQ P w K mg base gj 1 T.turned.f T.turned.d ["later"]^MF P w:=by
 show T.turned.F.ok nE (λvs H Q E h=>?_) (λcdv A outer s H vs Q E hr h=>?_);let#[d,ep,kvs,L,rfl,_]:=h;rfl;let#[d,ep,kvs,L,rfl,hd,hk,hl,#[nd,hn,hL],q]:=h;rw[aq] at hn;show#[_,(ak (bq 1 nE.nd^cA (uV hr.units rfl) rfl T.D4 BT.Dc^aa (cT (bA.plain rfl (by decide +kernel) (by decide +kernel) rfl (by decide +kernel) rfl) (pT^pv 0) (λ_ _ _ _=>dG) (λ_ _ _ _=>(bC^aa (pv 0)^aa (bT af) af))) af)^ak (cP bD rfl (pT^pv 0) (di 2 nE.nd)^ao^cP bD rfl (bP^jI hr.units (pv 0) (pv 2) (λ_ _=>rfl)) (di 3 nE.nd)^ao^dR^i0 dj gA gB d9 (jI hr.units (pv 1) (pv 3) (λ_ _=>rfl))^aa (pv 2) af)^ao^aE^pv 1),?_];change(_:TS) (Ends.mk _ _ _ _) [_,_,_,_] H;k_in;lk;show yL (kvs:=kvs) (λi ys H'=>aC H H'/\∃ps:gk,ps.map (·.1)=(kvs.take i).map (·.1)/\pU H' ys ps/\El H H' ps λ_=>[]) #[aC.refl _,[],by simp,.nil,.nil,λx hx=>nomatch hx] ?_ ?_ ?_;rintro i ys H' _ ⟨s',_⟩;show s' _ _ hd
 .rintro i e ys H1 he ⟨s1,ps,RK,hps,own⟩;have hil:=(eX he).1;have hpl:=hps.length;have h2:=congrArg List.length RK;rw[aq,aq,cB] at h2;show#[bZ ∅,?_];lk;rename_i a H2 n2 t H3 n3;have s3:=n2.same.trans n3.same;show#[s1.trans s3,ps++[(e.1,e.2.1,.ref a)],?_,cF (cQ (λu p ⟨t,h1,h2,h3⟩=>#[t,h1,s3 _ _ h2,aS.same h3 s3]) hps) #[t,rfl,n3.self,aS.same (hk e^eY he)^s1.trans s3],?_,λx hx=>?_];rw[bG,RK,bS,he,bG];rfl;rw[bG,gJ];show#[own.1,by simp,λx hx y hy e=>?_];let#[z,hz,rfl]:=aD.mp hx;let#[b,vs,h1,_,h3,_]:=own.2 z hz;rw[List.map_singleton,aA] at hy;subst hy;rw[h1] at e;cases e;rw[n2.1] at h3;cases h3;rcases aP.mp hx with hx|hx;show(El.same own s3).2 x hx;rw[aA.mp hx];show#[a,[],rfl,s1.free n2.1,n3.keep n2.self,.nil]
 rintro ys H1 ⟨s1,ps,RK,hps,own⟩ l H2 n2;rw[cg] at RK;lk;show FA (bB.of n2.self) (cQ (λu p ⟨t,h1,h2,h3⟩=>#[t,h1,n2.keep h2,aS.same h3 n2.same]) hps) (by rw[RK];show nd) ?_;intro f Hq H3 n3;have s23:=n2.same.trans n3.same;have s3:=s1.trans s23;have ff:H f=none:=(s1.trans n2.same).free n3.1;have hf:=n3.self;have ade:=own.same s23;have hpk:cu H3 ps:=λx hx=>by let#[i,hi,rfl]:=oB.mp hx;let#[t,_,_,h]:=uU hps hi;rw[nR,dJ hi] at h;show aS.same h s23
 clear n2 n3 s23 own hps s1;have ndp:(ps.map (·.1)).Nodup:=by rw[RK];show nd
 have e0:∀o,dO L [] o=[]:=λo=>rfl;lk;show OQ (λi σ' H'=>(∃y z,σ'=[some^.ref d,some^.ref f,y,z])/\aC H H'/\H' f=some^.ext (dz P w f Hq ps)/\cu H' ps/\El H H' ps^dO L^(kvs.map (·.1)).take i) ?_ ?_ ?_ ?_;show#[#[_,_,rfl],s3,hf,hpk,by rw[List.take_zero];show ade];rintro i σ' H' _ ⟨_,s',_⟩;show s' _ _ hd
 .rintro i e σ' H4 he ⟨⟨y,z,rfl⟩,s4,xN,UT,PM⟩;have hem:=eY he;let#[a,vs,ea,ha,hvs]:=hl e hem;have hil:=(eX he).1;have hLe:=hL e.1^mh hem;have hvl:=hvs.length;lk;show nW (s4 _ _ hd) (hk.same s4) (aS.same (hk e hem) s4) ((vF nd hem).trans^congrArg some ea) ?_;lk;show f_list (xs:=vs) (λj σ' H'=>(∃z,σ'=[some^.ref d,some^.ref f,some^.ref e.2.1,z])/\aC H H'/\H' f=some^.ext (dz P w f Hq ps)/\cu H' ps/\El H H' ps (λo=>dO L ((kvs.map (·.1)).take i) o++(((L e.1).take j).filter λz=>decide (z=o)).map λ_=>e.1)) ?_ ?_ ?_ ?_;show#[#[_,rfl],s4,xN,UT,?_];simpa using PM;rintro j σ' H' _ ⟨_,s',_⟩;show bB.of^s' _ _ ha
  .rintro j x σ' H5 hx ⟨⟨z,rfl⟩,s5,vp,PN,En⟩;let#[o,ho,hxo]:=bf hvs hx;have hom:=hLe.2 o^eY ho;let#[p,hp,rfl,hpv]:=tE ndp (by rw[RK];show hom);let#[b,bs,eb,fb,hb,v8]:=En.2 p hp;have adf:=aS.same hxo s5;let#[xa,xu,rfl,hxa,hxu]:=hxo;have NF:bs.length<1000000:=by have h1:=v8.length;have h2:=BI L p.1 ((kvs.map (·.1)).take i) λk hk=>(hL k^ue _ _ hk).1;have h3:=iL (λz=>decide (z=p.1))^(L e.1).take j;rw[aO,aq] at h1;rw[cB,aq] at h2;rw[cB] at h3;lia
   lk;show nW vp PN adf (hpv.trans^congrArg some eb) ?_;lk;rename_i H6 p6;have hfb:f≠b:=λz=>by rw[z,hb] at vp;cases vp
   have t6:=mU hb p6;show#[#[_,rfl],p6.same s5 fb,p6.keep hfb vp,cu.tups PN t6,En.1,λx hx=>?_];by_cases hxp:x=p
   .subst hxp;show#[b,_,eb,fb,p6.self,?_];dsimp only;rw[bS,ho,jh,bG,<- kR];have e1:List.filter (λz=>decide (z=x.1)) (some x.1).toList=[x.1]:=by simp
    rw[e1];show cF (aU.tups v8 t6)^aS.tups (aS.same (hk e hem) s5) t6
   .let#[c,cs,ec,fc,hc,hcs]:=En.2 x hx;show#[c,cs,ec,fc,p6.keep (λz=>hxp^Em En.1 hx hp^by rw[ec,eb,z]) hc,?_];have hne:¬p.1=x.1:=λz=>by have h1:=vF ndp hx;rw[<- z,hpv] at h1;show hxp^Em En.1 hx hp (Option.some.inj h1).symm
    dsimp only;rw[bS,ho,jh,bG];have e1:List.filter (λz=>decide (z=x.1)) (some p.1).toList=[]:=by simp[hne]
    rw[e1,List.map_nil,fL];show aU.tups hcs t6
  .rintro σ' H5 ⟨⟨z,rfl⟩,s5,vp,PN,En⟩;show#[#[_,_,rfl],s5,vp,PN,?_];have e1:(λo=>dO L ((kvs.map (·.1)).take i) o++(((L e.1).take vs.length).filter λz=>decide (z=o)).map λ_=>e.1)=dO L^(kvs.map (·.1)).take (i+1):=by funext o;rw[hvl,cg,bS,aW,he];unfold dO;rw[List.flatMap_append];simp
   rw[<- e1];show En
 .rintro σ' H4 ⟨⟨y,z,rfl⟩,s4,xN,UT,PM⟩;rw[<- aq (f:=λx:HM.bu×Addr×V=>x.1),cg] at PM;lk;show q f Hq ps H4 s4 ff xN UT RK λx hx=>let⟨a,vs,h1,_,h2,h3⟩:=PM.2 x hx;#[a,vs,h1,h2,h3]
def iA(kvs:gk)(F:List (HM.bu×Int)):Prop:=kvs.map (λx=>(x.1,x.2.2))=F.map λp=>(p.1,V.int p.2)
def iA.keys(e:iA kvs F):kvs.map (·.1)=F.map (·.1):=by have h:=congrArg (List.map (·.1)) e;rw[gq,gq] at h;show h
theorem BJ:∀{kvs:gk}{F:List (HM.bu×Int)},iA kvs F->∀{o:HM.bu},o∈F.map (·.1)->∃n,(o,n)∈F/\j8 kvs o=some (.int n)
 | [],[],_,_,ho=>nomatch ho
 | [],_::_,e,_,_=>nomatch e
 | _::_,[],e,_,_=>nomatch e
 | x::kvs,y::F,e,o,ho=>by unfold iA at e;rw[cG,cG] at e;let#[e1,e2]:=List.cons.inj e;have a1:x.1=y.1:=congrArg Prod.fst e1;have a2:x.2.2=V.int y.2:=congrArg Prod.snd e1;unfold j8;rw[iK];by_cases h:x.1=o;rw[decide_eq_true h];show#[y.2,by rw[<- h,a1];simp,congrArg some a2];rw[decide_eq_false h];rw[cG] at ho;let#[n,h1,h2]:=BJ (kvs:=kvs) (F:=F) e2 ((aH.mp ho).resolve_left λz=>h^a1.trans z.symm);show#[n,cX _ h1,h2]
def MG{k:HM.bu}(e:iA kvs F)(hk:k∉F.map (·.1)):kG kvs k a^.int n=kvs++[(k,a,.int n)]/\iA (kvs++[(k,a,.int n)]) (F++[(k,n)]):=by show#[uT (by rw[e.keys];show hk),?_];unfold iA at e ⊢;rw[bG,bG,e];rfl
theorem qy:∀{kvs:gk}{k:HM.bu},k∈kvs.map (·.1)->(j8 kvs k).isSome=true
 | [],_,h=>nomatch h
 | x::kvs,k,h=>by unfold j8;rw[iK];by_cases e:x.1=k;rw[decide_eq_true e];rfl;rw[decide_eq_false e];show qy (kvs:=kvs) ((aH.mp h).resolve_left λz=>e z.symm)
def FnAt(kvs:gk)(ks:List HM.bu)(g:HM.bu->Int):Prop:=kvs.map (·.1)=ks/\∀x∈kvs,x.2.2=V.int^g x.1
def FnAt.val{g:HM.bu->Int}(h:FnAt kvs ks g){k:HM.bu}(hk:k∈ks):j8 kvs k=some^.int^g k:=by
 have:=qy (kvs:=kvs) (k:=k) (by rw[h.1];show hk);unfold j8 at this ⊢;cases e:kvs.find? (λx=>decide (x.1=k)) with
 | none=>rw[e] at this;cases this
 | some x =>
  have h1:=h.2 x^List.mem_of_find?_eq_some e;have h2:=List.find?_some e;rw[of_decide_eq_true h2] at h1;show congrArg some h1
def FnAt.put{g:HM.bu->Int}(h:FnAt kvs ks g){k:HM.bu}(hk:k∈ks):FnAt (kG kvs k a^.int n) ks^vE g k n:=by unfold kG;rw[if_pos^qy (by rw[h.1];show hk)];constructor;rw[gq,<- h.1];apply List.map_congr_left;intro x _;change(if x.1=k then(x.1,x.2.1,V.int n) else x).1=x.1;split<;>rfl;intro y hy;let#[x,hx,rfl]:=aD.mp hy;unfold vE;split;rfl;show h.2 x hx
def MH{k:HM.bu}(h:cu H kvs)(hk:k∈kvs.map (·.1)):cu H^kG kvs k a v:=by unfold kG;rw[if_pos^qy hk];intro y hy;let#[x,hx,rfl]:=aD.mp hy;split;show h x hx;show h x hx
def jc{F:α->β->Prop}{xs:List α}{ys:List β}(hp:Paired F xs ys):∀{i:Nat}{y:β},ys[i]?=some y->∃x,xs[i]?=some x/\F x y:=by
 induction hp with
 | nil=>show λ{i x} h=>by simp at h
 | cons a _ ih =>
  intro i x h;cases i with
  | zero=>cases h;show#[_,rfl,a]
  | succ i=>show ih h
def BK{F:α->β->Prop}{xs:List α}:∀{x:α}{ys:List β},Paired F (xs++[x]) ys->∃ys0 y,ys=ys0++[y]/\Paired F xs ys0/\F x y:=by
 induction xs with
 | nil =>
  intro x ys h;cases h with
  | cons h t=>cases t;show#[[],_,rfl,.nil,h]
 | cons a xs ih =>
  intro x ys h;cases h with
  | cons h t =>
   let#[ys0,y,rfl,h1,h2]:=ih t;show#[_::ys0,y,rfl,.cons h h1,h2]
def PR(P:Program)(w:World):Sp:=λvs H Q _=>∃(d:Addr)(ep:Nat)(kvs:gk)(L:HM.bu->List HM.bu),vs=[.ref d]/\H d=some^.ext (dz P w d ep kvs)/\cu H kvs/\iz H kvs L/\fh (kvs.map (·.1)) L /\
 ∀(d':Addr)(rP:Nat)(kvs':gk)(F:List (HM.bu×Int))(H':Hp),aC H H'->H d'=none->H' d'=some^.ext (dz P w d' rP kvs')->cu H' kvs'->iA kvs' F->kO (kvs.map (·.1)) L F->Q (.ref d') H'
theorem BL(T:Txt w K mg):bQ P w K mg base gj 2 T.ended.f T.ended.d ["later"]^PR P w:=by
 show T.ended.F.ok jK (λvs H Q E h=>?_) (λcdv A outer s H vs Q E hr h=>?_);let#[d,ep,kvs,L,rfl,_]:=h;rfl;let#[d,ep,kvs,L,rfl,hd,hk,hl,hok,q]:=h;show#[_,(ak (bq 1 jK.nd^aJ T.turned (IC T) hr^aa (pv 0) af)^ak (bq 2 jK.nd^cA (uV hr.units rfl) rfl T.D4 BT.Dc^aa (cT (bA.cz "harm" ["later"] [0] ["later"] rfl) (pT^pv 0) (λ_ _ _ _=>dG) (λ_ _ _ _=>(bC^aa (pv 0)^aa (aQ (lB (K:=K) rfl) rfl T.dY BT.dW^aa (rq (P:=P) (w:=w) rfl rfl hr.units (pv 1) (pv 0) (λ_ _=>rfl)) af) af))) af)^ak (ly (i:=3) jK.nd rfl (Or.inl rfl) (bA.cz "harm" ["waiting"] [2] ["waiting"] rfl) (pT^pv 0) (λ_ _ _ _=>(lu^bY cN (rq (P:=P) (w:=w) rfl rfl hr.units (pv 1) (pv 0) (λ_ _=>rfl)) ai)) (λ_ _ _ _=>(pv 0)))^ak (bq 4 jK.nd AM)^ak (ku bD (qW (pv 3) (λ_=>rfl))^ak (bq 5 jK.nd^C7 dj PySem.F.slot_list_pop PySem.F.type_list_pop JY^pv 3)^ak (AN hr.units (pv 4) (pv 5) (az bL ai^OX rfl rfl T.L5 (aa (cT (bA.cz "other" ["found"] [4] ["found"] rfl) (bP^jI hr.units (pv 0) (pv 5) (λ_ _=>rfl)) (λ_ _ _ _=>dG) (λ_ _ _ _=>(rq (P:=P) (w:=w) rfl rfl hr.units (pv 1) (pv 0) (λ_ _=>rfl)))) af) ai) rfl)^ao^cP bD rfl (bP^jI hr.units (pv 1) (pv 5) (λ_ _=>rfl)) (di 6 jK.nd)^ak (Lr hr.units (pv 2) (pv 6) ai SD (λ_ _ _=>rfl))^ao^bI (bY cN (jI hr.units (pv 2) (pv 6) (λ_ _=>rfl)) ai) (ao^dR^i0 dj gA gB d9 (pv 3)^aa (pv 6) af) aL)^ao^aE^pv 4),?_];change(_:TS) (Ends.mk _ _ _ _) [_,_,_,_,_,_,_] H;k_in;lk;show#[d,ep,kvs,L,rfl,hd,hk,hl,hok,λe epE adh H1 s1 fe he hke eke hle=>?_];let#[nd,hn,hL]:=hok;generalize Eo:kvs.map (·.1)=ks at *;have hkn:kvs.length<=4000:=by rw[<- Eo,aq] at hn;show hn
 have hd1:=s1 _ _ hd;have hk1:=hk.same s1;have hl1:=iz.same hl s1;clear hd hk hl;lk;show yL (kvs:=kvs) (λi ys H'=>aC H1 H'/\pU H' ys ((kvs.take i).map λx=>(x.1,x.2.1,V.int (L x.1).length))) #[aC.refl _,by rw[List.take_zero];show .nil] ?_ ?_ ?_;rintro i ys H' _ ⟨s',_⟩;show s' _ _ hd1
 .rintro i x ys H2 hx ⟨s2,hps⟩;have hil:=(eX hx).1;have hpl:=hps.length;rw[aq,cB] at hpl;have MI:=eY hx;let#[a,vs,ea,ha,hvs]:=hl1 x MI;have hvl:=hvs.length;show#[bZ ∅,?_];lk;show nW (s2 _ _ hd1) (hk1.same s2) (aS.same (hk1 x MI) s2) ((vF (by rw[Eo];show nd) MI).trans^congrArg some ea) ?_;have ha2:=s2 _ _ ha;lk;rename_i t H3 n3;show#[s2.trans n3.same,?_];rw[bS,hx,bG];show cF (cQ (λu p ⟨t,h1,h2,h3⟩=>#[t,h1,n3.keep h2,aS.same h3 n3.same]) hps) #[t,rfl,by have z:=n3.self;rw[hvl] at z;show z,aS.same (hk1 x MI)^s2.trans n3.same]
 rintro ys H2 ⟨s2,hps⟩ l H3 n3;rw[cg] at hps;lk;show FA (bB.of n3.self) (cQ (λu p ⟨t,h1,h2,h3⟩=>#[t,h1,n3.keep h2,aS.same h3 n3.same]) hps) (by rw[gq];show(show(kvs.map (·.1)).Nodup by rw[Eo];show nd)) ?_;intro wt Yi H4 n4;have s4:aC H1 H4:=(s2.trans n3.same).trans n4.same;have fwt:H1 wt=none:=(s2.trans n3.same).free n4.1;have hwt:=n4.self;have fn4:FnAt (kvs.map λx=>(x.1,x.2.1,V.int (L x.1).length)) ks λh=>((L h).length:Int):=#[by rw[gq];show Eo,λx hx=>by let#[y,_,rfl]:=aD.mp hx;rfl];have hwk:cu H4 (kvs.map λx=>(x.1,x.2.1,V.int (L x.1).length)):=λx hx=>by let#[y,hy,rfl]:=aD.mp hx;show aS.same (hk1 y hy) s4
 generalize (kvs.map λx=>(x.1,x.2.1,V.int (L x.1).length))=Gm at *;clear n3 n4 hps s2;lk;show yL (kvs:=kvs) (λi ys H'=>aC H4 H'/\aU H' ys ((ks.take i).filter λh=>decide (((L h).length:Int)=0))) #[aC.refl _,.nil] ?_ ?_ ?_;rintro i ys H' _ ⟨s',_⟩;show s' _ _^s4 _ _ hd1
 .rintro i x ys H5 hx ⟨s5,hys⟩;have hil:=(eX hx).1;have hyl:=hys.length;have hfl:=iL (λh=>decide (((L h).length:Int)=0))^ks.take i;rw[cB] at hfl;have MI:=eY hx;have hxk:x.1∈ks:=by rw[<- Eo];show mh MI
  have hxi:ks[i]?=some x.1:=by rw[<- Eo,aW,hx];rfl
  have hkx:=aS.same (hk1 x MI)^s4.trans s5;show#[bZ ∅,?_];lk;show nW (s5 _ _ hwt) (hwk.same s5) hkx (fn4.val hxk) ?_;lk
  .rename_i h0;show#[s5,?_];rw[bS,hxi,jh];have e1:List.filter (λh=>decide (((L h).length:Int)=0)) (some x.1).toList=[x.1]:=by simpa using h0
   rw[e1];show cF hys hkx
  .rename_i h0;show#[s5,?_];rw[bS,hxi,jh];have e1:List.filter (λh=>decide (((L h).length:Int)=0)) (some x.1).toList=[]:=by simpa using h0
   rw[e1,fL];show hys
 rintro ys H5 ⟨s5,hys⟩ rd H6 n6;have ekl:kvs.length=ks.length:=by rw[<- Eo,aq]
 rw[ekl,cg] at hys;have Rx:=s5.trans n6.same;have s6:=s4.trans Rx;have frd:H1 rd=none:=(s4.trans s5).free n6.1;have hrd:=n6.self;have PJ:=aU.same hys n6.same;have PU:=Rx _ _ hwt;have Yj:=hwk.same Rx;have UU:rd≠wt:=λz=>by rw[z] at n6;have:=s5 _ _ hwt;rw[n6.1] at this;cases this
 clear n6 hys hwt hwk Rx s5 s4;lk;rename_i f CO H7 n7;have s7:=s6.trans n7.same;have ff:H1 f=none:=s6.free n7.1;have HW:=n7.self;have Po:=n7.keep hrd;have adj:=n7.keep PU;have Us:=aU.same PJ n7.same;have adk:=Yj.same n7.same;have Yk:f≠wt:=λz=>by rw[z] at n7;rw[n7.1] at PU;cases PU
 have UW:f≠rd:=λz=>by rw[z] at n7;rw[n7.1] at hrd;cases hrd
 clear n7 hrd PU PJ Yj s6;show nD (λm σ' H'=>(∃y5 y6,σ'=[some^.ref d,some^.ref e,some^.ref wt,some^.ref rd,some^.ref f,y5,y6])/\aC H1 H'/\∃vs R Yi Gm g CO sA F,H' rd=some^.lst vs/\aU H' vs R/\H' wt=some^.ext (dz P w wt Yi Gm)/\cu H' Gm/\FnAt Gm ks g/\H' f=some^.ext (dz P w f CO sA)/\cu H' sA/\iA sA F/\iW ks L F g R/\m=ks.length-F.length) ?_ ?_;show#[_,#[_,_,rfl],s7,ys,_,Yi,Gm,_,CO,[],[],Po,Us,adj,adk,fn4,HW,(λx hx=>nomatch hx),rfl,iW.start nd,rfl];rintro m σ' H8 ⟨⟨y5,y6,rfl⟩,s8,vs,R,adl,adm,g,adn,sA,F,PV,BN,Yl,Ym,fn8,Jv,UX,hF8,inv,rfl⟩;lk;have hFl:F.length<=ks.length:=by
  have:=jn inv.nd (ys:=ks) λx hx=>by let#[y,hy,rfl]:=aD.mp hx;show inv.sub y hy
  rw[aq] at this;show this
 rcases List.eq_nil_or_concat vs with rfl|⟨vs0,v,rfl⟩
 .cases BN;show Kr rfl ?_;lk;show q f adn sA F H8 (s1.trans s8) (s1.free ff) Jv UX hF8 inv.done
 rw[List.concat_eq_append] at PV BN ⊢;let#[R0,h,rfl,Yn,PX]:=BK BN;let#[RL,hhF,hhL,inn]:=inv.pop nd;show Kq (by simp) #[_,λ_ _ x=>x,?_];lk;show s_pop PV (y:=v) (by simp) ?_;rw[List.dropLast_concat];intro H9 p9;have t9:=mU PV p9;have s9:=p9.same s8 frd;have Mh:=p9.self;have Ep:=aU.tups Yn t9;have PY:=aS.tups PX t9;have Yo:=p9.keep (bz UU) Yl;have Yp:=cu.tups Ym t9;have NI:=p9.keep UW Jv;have UY:=cu.tups UX t9;clear p9 t9 PV BN Yn PX Yl Ym Jv UX s8;let#[x,MI,rfl,hxv]:=tE (kvs:=kvs) (k:=h) (by rw[Eo];show nd) (by rw[Eo];show RL);let#[a,as,ea,ha,has]:=hl1 x MI;have hL4:=hL x.1 RL;have sF:=has.length;have hv:=PY;let#[vb,vu,rfl,_,_]:=hv;lk;show nW (s9 _ _ hd1) (hk1.same s9) PY (hxv.trans^congrArg some ea) ?_;have UC:=s9 _ _ ha;have Yq:=aU.same has s9;have hkF:=hF8.keys;lk;show ig (xs:=as) (λj ys H'=>aC H9 H'/\∃ns:List Int,ys=ns.map V.int/\Paired (λn o=>(o,n)∈F) ns^(L x.1).take j) #[aC.refl _,[],rfl,.nil] ?_ ?_ ?_;rintro j ys H' _ ⟨s',_⟩;show bB.of^s' _ _ UC
 .rintro j y ys zM hy ⟨kj,ns,rfl,hns⟩;let#[o,ho,Yr]:=bf Yq hy;have hjl:=(eX hy).1;have hnl:=hns.length;rw[cB] at hnl;show#[bZ (by rw[aq];lia),?_];let#[n,hn1,hn2]:=BJ hF8^hhL o^eY ho;have adp:=aS.same Yr kj;let#[yb,yu,rfl,_,_]:=Yr;lk;show nW (kj _ _ NI) (UY.same kj) adp hn2 ?_;show#[kj,ns++[n],by simp,?_];rw[bS,ho];show cF hns hn1
 rintro ys zM ⟨kj,ns,rfl,hns⟩ ml Jw ko;rw[sF,cg] at hns;have zk:=kj.trans ko.same;have hml:=ko.self;have Rz:=s9.trans zk;have RM:=zk _ _ Mh;have Gb:=aU.same Ep zk;have Gn:=aS.same PY zk;have RN:=zk _ _ Yo;have RO:=Yp.same zk;have UZ:=zk _ _ NI;have MJ:=UY.same zk;clear ko kj zk Mh Ep PY Yo Yp NI UY s9 UC Yq;lk;show Uc (bB.of hml) λm hm0 hm1=>?_;lk;have ahT:sA.length=F.length:=by have:=congrArg List.length hkF;rw[aq,aq] at this;show this
 show Lw UZ MJ Gn ∅ ?_;intro Ys Mi CP;let#[ep1,adq]:=MG (a:=vb) (n:=1+m) hF8 hhF;rw[ep1] at CP;have VL:=BH UZ CP;have s12:=CP.same Rz ff;have Yt:=CP.self;have RP:cu Mi (sA++[(x.1,vb,.int (1+m))]):=λy hy=>by rcases aP.mp hy with hy|hy;show aS.tups (MJ y hy) VL;rw[aA.mp hy];show aS.tups Gn VL
 have RQ:=CP.keep (bz UW) RM;have RS:=aU.tups Gb VL;have Yu:=aS.tups Gn VL;have RT:=CP.keep (bz Yk) RN;have RU:=cu.tups RO VL;clear CP VL hml RM Gb Gn RN RO UZ MJ Rz;let#[pe,hpe,epx,hpv]:=tE (kvs:=adh) (k:=x.1) (by rw[eke];show nd) (by rw[eke];show RL);let#[b,bs,eb,hb,v8]:=hle pe hpe;rw[epx] at v8;lk;show nW (s12 _ _ he) (hke.same s12) Yu (hpv.trans^congrArg some eb) ?_;have ads:=s12 _ _ hb;lk;have cl:∀y∈ks,y∈F.map (·.1)->∀o∈L y,o∈F.map (·.1):=λy _ hy o ho=>by let#[z,hz,rfl]:=aD.mp hy;let#[n,hn,_]:=(inv.fin z hz).2.1 o ho;show aD.mpr #[_,hn,rfl]
 show f_list (xs:=bs) (λj σ' H'=>(∃z,σ'=[some^.ref d,some^.ref e,some^.ref wt,some^.ref rd,some^.ref f,some^.ref vb,z])/\aC H1 H'/\∃vs R Yi Gm g,H' rd=some^.lst vs/\aU H' vs R/\H' wt=some^.ext (dz P w wt Yi Gm)/\cu H' Gm/\FnAt Gm ks g/\H' f=some^.ext (dz P w f Ys (sA++[(x.1,vb,.int (1+m))]))/\cu H' (sA++[(x.1,vb,.int (1+m))])/\qx ks L (F.map (·.1)++[x.1]) (dO L ks x.1) j g R) ?_ ?_ ?_ ?_;show#[#[_,rfl],s12,vs0,R0,adl,adm,g,RQ,RS,RT,RU,fn8,Yt,RP,inn];rintro j σ' H' _ ⟨_,s',_⟩;show bB.of^s' _ _ hb
 .rintro j y σ' RA hy ⟨⟨z0,rfl⟩,zh,vs,R,RW,Gm,g,Gp,Gq,xP,xQ,ID,PZ,Gr,IE⟩;clear RQ RS RT RU Yt RP s12 ads;let#[o,ho,Yr]:=bf v8 hy;let#[hw1,hok,hyes,hno]:=IE.next cl hhF hhL ho;have Gs:=aS.same Yr zh;let#[yb,yu,rfl,_,_]:=Yr;have hWl:Gm.length=ks.length:=by rw[<- ID.1,aq]
  lk;show nW xP xQ Gs (ID.val hok) ?_;lk;show Tr ?_;show Lw xP xQ Gs ∅ ?_;intro RX H14 NJ;have Yv:=BH xP NJ;have Gj:=NJ.same zh fwt;have ML:=NJ.self;have MM:=cu.tups (MH (a:=yb) (v:=.int (g o-1)) xQ (by rw[ID.1];show hok)) Yv;have U0:FnAt (kG Gm o yb^.int (g o-1)) ks^vE g o (g o-1):=ID.put hok;have RY:=NJ.keep UU Gp;have MN:=aU.tups Gq Yv;have Pp:=NJ.keep Yk PZ;have RZ:=cu.tups Gr Yv;have R1:=aS.tups Gs Yv;clear NJ Yv zh Gp Gq xP xQ PZ Gr Gs;have hvl:=MN.length;have hRl:=jn IE.US (ys:=ks) λy hy=>((IE.NP y).mp hy).1;lk;show nW ML MM R1 (U0.val hok) ?_;have eg:vE g o (g o-1) o=g o-1:=by unfold vE;rw[if_pos rfl]
  rw[eg];lk;rename_i h0 H15 Pq;have t15:=mU RY Pq;show#[#[_,rfl],Pq.same Gj frd,_,_,RX,_,_,Pq.self,cF (aU.tups MN t15)^aS.tups R1 t15,Pq.keep (bz UU) ML,cu.tups MM t15,U0,Pq.keep UW Pp,cu.tups RZ t15,hyes h0];rename_i h0;show#[#[_,rfl],Gj,_,_,RX,_,_,RY,MN,ML,MM,U0,Pp,RZ,hno h0]
 .rintro σ' RA ⟨⟨z0,rfl⟩,zh,vs,R,RW,Gm,g,Gp,Gq,xP,xQ,ID,PZ,Gr,IE⟩;rw[v8.length] at IE;show Yh _ _ ?_;have hlt:F.length+1<=ks.length:=by
   have h1:(F.map (·.1)++[x.1]).Nodup:=by rw[gJ];show#[inv.nd,by simp,λa ha b hb z=>hhF (by rw[aA.mp hb] at z;show z▸ha)]
   have:=jn h1 (ys:=ks) λy hy=>by rcases aP.mp hy with hy|hy;let#[z,hz,rfl]:=aD.mp hy;show inv.sub z hz;rw[aA.mp hy];show RL
   rw[aO,aq] at this;show this
  show#[ks.length-(F++[(x.1,1+m)]).length,by rw[aO];simp;lia,#[_,_,rfl],zh,vs,R,RW,Gm,g,Ys,_,_,Gp,Gq,xP,xQ,ID,PZ,Gr,adq,qx.end inv IE RL hhF hhL rfl (λe0=>?_) (λe0=>?_),rfl];rw[e0] at hns;cases hns;show hm0 rfl
  .have hne:ns≠[]:=λz=>by rw[z] at hns;cases hL0:L x.1 with
    | nil=>show e0 hL0
    | cons _ _=>rw[hL0] at hns;cases hns
   let#[h1,h2]:=hm1 hne;let#[i,hi,ei]:=oB.mp h1;let#[o,ho,Yw]:=bf hns (i:=i) (x:=m) (by rw[dJ hi,ei]);show#[#[o,eY ho,Yw],λo ho k hk=>?_];let#[j,hj,ej]:=oB.mp ho;let#[n,hn,hnF]:=jc hns (i:=j) (y:=o) (by rw[dJ hj,ej]);rw[nO inv.nd hk hnF];show h2 n^eY hn
section
variable {α:Type} [DecidableEq α]
theorem iB{ks:List α}{L:α->List α}{F G:List (α×Int)}(hF:kO ks L F)(hG:kO ks L G):∀(n:Nat)(h:α)(m:Int),m.toNat<=n->(h,m)∈F->(h,m)∈G
 | 0,h,m,hn,hm=>by have:=(hF.fin _ hm).1;dsimp only at this;lia
 | n+1,h,m,hn,hm=>by
  let#[h1,h2,h3]:=hF.fin _ hm;dsimp only at h1 h2 h3;have ih:∀o∈L h,∀k,(o,k)∈F->(o,k)∈G:=λo ho k hk=>by let#[k',hk',hlt]:=h2 o ho;have e:=nO hF.nd hk hk';subst e;have:=(hF.fin _ hk).1;dsimp only at this;show iB hF hG n o k ∅ hk
  have hin:h∈G.map (·.1):=oj λno=>by let#[o,ho,hno]:=hG.out h (hF.sub _ hm) no;let#[k,hk,_]:=h2 o ho;show hno^aD.mpr #[_,ih o ho k hk,rfl]
  let#[#[_,m'],hm',rfl]:=aD.mp hin;let#[g1,g2,g3]:=hG.fin _ hm';dsimp only at g1 g2 g3 h1 h2 h3 ih hm;have e:m'=m:=by rcases h3 with⟨e1,e2⟩|⟨o,ho,TR⟩;rcases g3 with⟨e3,_⟩|⟨o,ho,_⟩;lia;rw[e2] at ho;show nomatch ho;rcases g3 with⟨_,e3⟩|⟨o',ho',ho2⟩;rw[e3] at ho;show nomatch ho;let#[k,hk,hlt]:=g2 o ho;have a:=nO hG.nd hk^ih o ho _ TR;let#[k',hk',hlt']:=h2 o' ho';have b:=nO hG.nd (ih o' ho' _ hk') ho2;lia
  rw[<- e];show hm'
def fj(ks:List α)(L:α->List α)(F:List (α×Int)):Prop:=kO ks L F/\F.length=ks.length
theorem Gu{ks:List α}{L:α->List α}{F G:List (α×Int)}(nd:ks.Nodup)(hF:fj ks L F)(hG:kO ks L G):G.length=ks.length:=by
 have h1:F.length<=G.length:=by
  have:=jn hF.1.nd (ys:=G.map (·.1)) λx hx=>by let#[#[h,m],hm,rfl]:=aD.mp hx;show aD.mpr #[_,iB hF.1 hG _ h m (ay _) hm,rfl]
  rwa [aq,aq] at this
 have h2:G.length<=ks.length:=by
  have:=jn hG.nd (ys:=ks) λx hx=>by let#[y,hy,rfl]:=aD.mp hx;show hG.sub y hy
  rwa [aq] at this
 have:=hF.2;lia
theorem fj.mem{ks:List α}{L:α->List α}{F:List (α×Int)}(nd:ks.Nodup)(h:fj ks L F){x:α}(hx:x∈ks):∃n,(x,n)∈F:=by
 have:x∈F.map (·.1):=oj λno=>by
  have h1:(F.map (·.1)++[x]).Nodup:=by rw[gJ];show#[h.1.nd,by simp,λa ha b hb z=>no (by rw[aA.mp hb] at z;show z▸ha)]
  have:=jn h1 (ys:=ks) λy hy=>by rcases aP.mp hy with hy|hy;let#[z,hz,rfl]:=aD.mp hy;show h.1.sub z hz;rw[aA.mp hy];show hx
  rw[aO,aq,h.2,ji] at this;lia
 let#[#[_,n],hn,rfl]:=aD.mp this;show#[n,hn]
def iC(ks:List α)(L:α->List α)(m:Int):Prop:=∃F,fj ks L F/\(∃x∈F,x.2=m)/\∀x∈F,x.2<=m
theorem IF{ks:List α}{L:α->List α}{m:Int}(h:iC ks L m)(g:iC ks L n):m=n:=by let#[F,hF,#[x,hx,rfl],h1]:=h;let#[G,hG,#[y,hy,rfl],g1]:=g;have a:=h1 _^iB hG.1 hF.1 _ y.1 y.2 (ay _) hy;have b:=g1 _^iB hF.1 hG.1 _ x.1 x.2 (ay _) hx;dsimp only at a b;lia
end
def Gv{ls:List HM.bu}(h:iI rs r t ks)(g:iI rs r t ls):ks=ls:=zf HM.oY h.1 g.1 λz=>(h.2 z).trans (g.2 z).symm
theorem MO(hok:r.ok n)(ht:Ef t)(h:iI rs r t ks):ks.length<=4:=by
 have nd:ks.Nodup:=h.1.imp λh e=>by rw[e] at h;lia
 have h1:ks.length<=(r.ways.flatMap λq=>(eL r t).map λu=>(q,u)).length:=jn nd λz hz=>by let#[a1,a2,_]:=(h.2 z).mp hz;show l9.mpr #[z.1,a1,aD.mpr #[z.2,(jP hok ht _).mpr a2,rfl]]
 have h2:=Row.jN r;have h3:=vC r ht;have h4:∀ws:List Int,(ws.flatMap λq=>(eL r t).map λu=>(q,u)).length=ws.length*(eL r t).length:=λws=>by
  induction ws with
  | nil=>simp
  | cons w ws ih=>rw[qI,aO,ih,aq,cW,Nat.succ_mul,Nat.add_comm]
 rw[h4] at h1;show bO h1^Nat.mul_le_mul h2 h3
open Classical in
def bF(rs:List Row)(h:HM.bu):List HM.bu:=if e:∃(ks:List HM.bu)(r:Row),rs[h.1.toNat]?=some r/\iI rs r h.2 ks then e.choose else[]
def Gw{h:HM.bu}(hr:rs[h.1.toNat]?=some r)(hl:iI rs r h.2 ks):bF rs h=ks:=by have e:∃(ks:List HM.bu)(r:Row),rs[h.1.toNat]?=some r/\iI rs r h.2 ks:=#[ks,r,hr,hl];unfold bF;rw[dif_pos e];let#[r',hr',hl']:=e.choose_spec;rw[hr] at hr';cases hr';show Gv hl' hl
def BO(h:eO H rs kvs):iz H kvs^bF rs:=λx hx=>by let#[a,vs,ks,k,r,h1,h2,h3,h4,h5,h6]:=h x hx;show#[a,vs,h1,h2,?_];rw[Gw (r:=r) (by rw[h4];show h5) h6];show h3
def gw{n:Nat}{z:HM.bu}:z∈aM rs n↔∃k:Nat,k<n/\z.1=(k:Int)/\z.2∈b7 rs k:=by unfold aM;rw[l9];constructor;rintro⟨k,hk,hz⟩;let#[t,ht,rfl]:=aD.mp hz;show#[k,fN.mp hk,rfl,ht];rintro⟨k,hk,e,ht⟩;show#[k,fN.mpr hk,aD.mpr #[z.2,ht,Prod.ext e.symm rfl]]
def nP:t∈b7 rs k↔dX.lv rs k t:=by
 unfold b7;cases t with
 | none=>simp[dX.lv]
 | some p=>simp[dX.lv]
theorem BP(rs:List Row):∀n,(aM rs n).Nodup
 | 0=>.nil
 | n+1=>by rw[lM,gJ];show#[BP rs n,jj.mpr ((xO rs n).imp λh e=>h^congrArg Prod.snd e),λx hx y hy e=>?_];let#[k,hk,e1,_]:=gw.mp hx;let#[t,_,rfl]:=aD.mp hy;rw[e] at e1;have e1:(n:Int)=(k:Int):=e1;lia
theorem BQ(hok:∀r∈rs,r.ok rs.length)(hn:rs.length<=200)(em:kvs.map (·.1)=aM rs rs.length)(h:eO H rs kvs):
  fh (aM rs rs.length)^bF rs/\∀k r t,rs[k]?=some r->t∈b7 rs k->iI rs r t^bF rs ((k:Int),t):=by
 have each:∀z∈aM rs rs.length,∃(k:Nat)(r:Row),z.1=(k:Int)/\rs[k]?=some r/\iI rs r z.2^bF rs z/\Ef z.2:=λz hz=>by rw[<- em] at hz;let#[x,hx,rfl]:=aD.mp hz;let#[a,vs,ks,k,r,h1,h2,h3,h4,h5,h6]:=h x hx;let#[k',_,e',ht]:=gw.mp (by rw[<- em];show hz);show#[k,r,h4,h5,?_,rF rs k' _ ht];rw[Gw (r:=r) (by rw[h4];show h5) h6];show h6
 show#[#[BP rs _,bO (qw rs _) ∅,λz hz=>?_],λk r t hr ht=>?_];let#[k,r,e,hr,hl,w5]:=each z hz;have zj:=hok r^eY hr;show#[MO zj w5 hl,λo ho=>?_];let#[a1,a2,a3]:=(hl.2 o).mp ho;let#[b1,b2]:=Row.gG zj o.1 a1;show gw.mpr #[o.1.toNat,∅,∅,nP.mpr a3];have hk:=(eX hr).1;let#[k',r',e,hr',hl,_]:=each ((k:Int),t)^gw.mpr #[k,hk,rfl,ht];have e:(k:Int)=(k':Int):=e;have:k=k':=∅;subst this;rw[hr] at hr';cases hr';show hl
def IG(P:Program)(w:World):Sp:=λvs H Q _=>∃(d:Addr)(ep:Nat)(kvs:gk)(L:HM.bu->List HM.bu),vs=[.ref d]/\H d=some^.ext (dz P w d ep kvs)/\cu H kvs/\iz H kvs L/\fh (kvs.map (·.1)) L /\
 (∀H',aC H H'->(∀F,¬fj (kvs.map (·.1)) L F)->Q .dD H')/\∀(d':Addr)(rP:Nat)(kvs':gk)(F:List (HM.bu×Int))(H':Hp),aC H H'->H d'=none->H' d'=some^.ext (dz P w d' rP kvs')->cu H' kvs'->iA kvs' F->fj (kvs.map (·.1)) L F->Q (.ref d') H'
theorem Er(T:Txt w K mg):bQ P w K mg base gj 3 T.sX.f T.sX.d ["later"]^IG P w:=by
 show T.sX.F.ok vc (λvs H Q E h=>?_) (λcdv A outer s H vs Q E hr h=>?_);let#[d,ep,kvs,L,rfl,_]:=h;rfl;let#[d,ep,kvs,L,rfl,hd,hk,hl,hok,q0,q]:=h;show#[_,(ak (bq 1 vc.nd^aJ T.ended (BL T) hr^aa (pv 0) af)^ao^aE^fO (bY cN (aQ (xm) rfl T.dY BT.dW^aa (pv 1) af)^aQ (xm) rfl T.dY BT.dW^aa (pv 0) af) (pv 1) j6),?_];change(_:TS) (Ends.mk _ _ _ _) [_,_] H;k_in;lk;show#[d,ep,kvs,L,rfl,hd,hk,hl,hok,λf CO sA F H1 s1 ff hf R3 hF Yx=>?_];have hd1:=s1 _ _ hd;have hkF:sA.length=F.length:=by have:=congrArg List.length hF.keys;rw[aq,aq] at this;show this
 lk;rename_i e;show q f CO sA F H1 s1 ff hf R3 hF #[Yx,by rw[aq];lia];rename_i e;show q0 H1 s1 λG hG=>e ?_;have:=Gu hok.1 hG Yx;rw[aq] at this;lia
def MP(P:Program)(w:World):Sp:=λvs H Q _=>∃(c:Addr)(us:List V)(rs:List Row),vs=[.ref c]/\H c=some^.lst us/\Rows H us rs/\(∀r∈rs,r.ok rs.length)/\rs.length<=200 /\
 (fh (aM rs rs.length)^bF rs->(∀k r t,rs[k]?=some r->t∈b7 rs k->iI rs r t^bF rs ((k:Int),t))->(∀H',aC H H'->(∀F,¬fj (aM rs rs.length) (bF rs) F)->Q .dD H')/\∀(d':Addr)(rP:Nat)(kvs':gk)(F:List (HM.bu×Int))(H':Hp),aC H H'->H d'=none->H' d'=some^.ext (dz P w d' rP kvs')->cu H' kvs'->iA kvs' F->fj (aM rs rs.length) (bF rs) F->Q (.ref d') H')
def II(T:Txt w K mg):bQ P w K mg base gj 6 T.yU.f T.yU.d ["code"]^MP P w:=by
 show T.yU.F.ok HS (λvs H Q E h=>?_) (λcdv A outer s H vs Q E hr h=>?_);let#[c,us,rs,rfl,_]:=h;rfl;let#[c,us,rs,rfl,hc,hrs,hok,hn,q]:=h;show#[_,(ao^aE^aJ T.sX (Er T) hr^aa (aJ T.qo (vD T) hr^aa (pv 0) af) af),?_];change(_:TS) (Ends.mk _ _ _ _) [_] H;k_in;lk;show#[c,us,rs,rfl,hc,hrs,hok,hn,λd ep kvs H1 s1 fd hd hk em hla=>?_];let#[kr,jR]:=BQ hok hn em hla;let#[q0,q1]:=q kr jR;lk;show#[d,ep,kvs,bF rs,rfl,hd,hk,BO hla,by rw[em];show kr,λH2 s2 no=>?_,λf CO sA F H2 s2 ff hf R3 hF e=>?_]
 .lk;rw[em] at no;show q0 H2 (s1.trans s2) no
 .lk;rw[em] at e;show q1 f CO sA F H2 (s1.trans s2) (s1.free ff) hf R3 hF e
def P0:Sp:=λvs H Q _=>∃(c:Addr)(us:List V)(rs:List Row),vs=[.ref c]/\H c=some^.lst us/\Rows H us rs/\(∀r∈rs,r.ok rs.length)/\rs.length<=200/\rs≠[] /\
 (fh (aM rs rs.length)^bF rs->(∀k r t,rs[k]?=some r->t∈b7 rs k->iI rs r t^bF rs ((k:Int),t))->(∀H',aC H H'->(∀F,¬fj (aM rs rs.length) (bF rs) F)->Q .dD H')/\∀(m:Int)(H':Hp),aC H H'->iC (aM rs rs.length) (bF rs) m->Q (.int m) H')
def BR(T:Txt w K mg):bQ P w K mg base gj 7 T.delay.f T.delay.d ["code"] P0:=by
 show T.delay.F.ok A4 (λvs H Q E h=>?_) (λcdv A outer s H vs Q E hr h=>?_);let#[c,us,rs,rfl,_]:=h;rfl;let#[c,us,rs,rfl,hc,hrs,hok,hn,hne,q]:=h;show#[_,(ak (bq 1 A4.nd^aJ T.yU (II T) hr^aa (pv 0) af)^ao^aE^fO (bY yz (pv 1) j6) j6^aQ (HG rfl) rfl T.L5 BT.KL^aa (Lz^pv 1) af),?_];change(_:TS) (Ends.mk _ _ _ _) [_,_] H;k_in;lk;show#[c,us,rs,rfl,hc,hrs,hok,hn,λkr jR=>#[λH1 s1 no=>?_,λf CO sA F H1 s1 ff hf R3 hF e=>?_]]
 .lk;show(q kr jR).1 H1 s1 no
 .lk;rename_i v H2 n2;have ev:sA.map (·.2.2)=(F.map (·.2)).map V.int:=by have:=congrArg (List.map (·.2)) hF;rw[gq,gq] at this;rw[gq];show this
  have adt:F.map (·.2)≠[]:=λz=>by
   have h0:F.length=0:=by rw[<- aq (f:=(·.2)),z];rfl
   have h1:=e.2;cases rs with
   | nil=>show hne rfl
   | cons r rs =>
    have:((0:Int),none)∈aM (r::rs) (r::rs).length:=gw.mpr #[0,by simp,rfl,nP.mpr trivial];rw[h0] at h1;rw[List.length_eq_zero_iff.mp h1.symm] at this;show nomatch this
  show Ub n2.self (n2.keep hf) ev adt λm hm hle=>?_;lk;let#[x,hx,rfl]:=aD.mp hm;show(q kr jR).2 _ H2 (s1.trans n2.same) #[F,e,#[x,hx,rfl],λy hy=>hle _^mh hy]
section
variable {α:Type} [DecidableEq α]
noncomputable def Es(g:α->Int)(cs:List α)(i:Nat):Int:=((cs[i]?).map g).getD 0
noncomputable def gX(L:α->List α)(g:α->Int):Nat->List α->List α
 | 0,_=>[]
 | n+1,cs=>match cs[MK.pV (Es g cs) (cs.length-1)]? with
  | none=>[]
  | some h=>h::gX L g n^L h
theorem gS{g:α->Int}{cs:List α}(hne:cs≠[]):∃h,cs[MK.pV (Es g cs) (cs.length-1)]?=some h/\h∈cs/\∀x∈cs,g x<=g h:=by let#[h1,h2]:=MK.LC (Es g cs) (cs.length-1);have hp:=uc.mpr hne;have hlt:MK.pV (Es g cs) (cs.length-1)<cs.length:=∅;show#[cs[MK.pV (Es g cs) (cs.length-1)],dJ hlt,jC hlt,λx hx=>?_];let#[i,hi,rfl]:=oB.mp hx;have:=(h2 i ∅).1;generalize MK.pV (Es g cs) (cs.length-1)=j at hlt this ⊢;unfold Es at this;rw[dJ hi,dJ hlt] at this;show this
def iD{L:α->List α}{g:α->Int}{n:Nat}{cs:List α}{h:α}(e:cs[MK.pV (Es g cs) (cs.length-1)]?=some h):gX L g (n+1) cs=h::gX L g n^L h:=by change(match cs[MK.pV (Es g cs) (cs.length-1)]? with|none=>[]|some h=>h::gX L g n^L h)=_;rw[e]
theorem nQ(L:α->List α)(g:α->Int):∀n,gX L g n []=[]
 | 0=>rfl
 | _+1=>rfl
theorem Et(L:α->List α)(g:α->Int):∀(n:Nat)(cs:List α),(gX L g n cs).length<=n
 | 0,_=>ay _
 | n+1,cs=>by change(match cs[MK.pV (Es g cs) (cs.length-1)]? with|none=>[]|some h=>h::gX L g n^L h).length<=n+1;split;show aI _;show Nat.succ_le_succ^Et L g n _
theorem xS{L:α->List α}{g:α->Int}:∀(n:Nat)(cs:List α),(∀x,(gX L g n cs)[0]?=some x->x∈cs)/\∀(i:Nat)(x y:α),(gX L g n cs)[i]?=some x->(gX L g n cs)[i+1]?=some y->y∈L x
 | 0,cs=>#[(λx h=>nomatch h),λi x y h _=>by simp[gX] at h]
 | n+1,cs=>by
  by_cases hne:cs=[];subst hne;rw[nQ];show#[(λx h=>nomatch h),λi x y h _=>by simp at h];let#[h,e,hm,_]:=gS (g:=g) hne;rw[iD e];let#[c1,c2]:=xS (L:=L) (g:=g) n^L h;show#[λx hx=>by cases hx;show hm,λi x y hx hy=>?_];rw[ou] at hy;cases i with
  | zero=>cases hx;show c1 y hy
  | succ i=>show c2 i x y (by rwa [ou] at hx) hy
noncomputable def dP(F:List (α×Int))(n:Int)(h:α):Int:=((F.find? λx=>decide (x.1=h)).map (·.2)).getD n
def iE{F:List (α×Int)}{m:Int}{h:α}(nd:(F.map (·.1)).Nodup)(hm:(h,m)∈F):dP F n h=m:=by
 unfold dP;cases e:F.find? (λx=>decide (x.1=h)) with
 | none=>show absurd (List.find?_eq_none.mp e _ hm) (by simp)
 | some x =>
  have h1:=List.find?_some e;have h2:=List.mem_of_find?_eq_some e;let#[a,b]:=x;obtain rfl:a=h:=of_decide_eq_true h1;show nO nd h2 hm
theorem zl{ks:List α}{L:α->List α}{F:List (α×Int)}{n0:Int}(nd:ks.Nodup)(hL:∀k∈ks,∀o∈L k,o∈ks)(hF:fj ks L F):∀(n:Nat)(h:α),h∈ks->(dP F n0 h).toNat<=n+1 ->
  (gX L (dP F n0) n^L h).length+1=(dP F n0 h).toNat/\1<=dP F n0 h/\(∀x∈gX L (dP F n0) n^L h,x∈ks/\dP F n0 x<dP F n0 h)/\(gX L (dP F n0) n^L h).Nodup:=by
 intro n;induction n with
 | zero =>
  intro h hh hn;let#[m,hm]:=hF.mem nd hh;have ev:=iE (n:=n0) hF.1.nd hm;let#[h1,_,_]:=hF.1.fin _ hm;dsimp only at h1;show#[?_,∅,(λx hx=>nomatch hx),.nil];change 0+1=_;lia
 | succ n ih =>
  intro h hh hn;let#[m,hm]:=hF.mem nd hh;have ev:=iE (n:=n0) hF.1.nd hm;let#[h1,h2,h3]:=hF.1.fin _ hm;dsimp only at h1 h2 h3;by_cases hne:L h=[]
  .rw[hne,nQ];show#[?_,∅,(λx hx=>nomatch hx),.nil];rcases h3 with⟨e,_⟩|⟨o,ho,_⟩
   .change 0+1=_;lia
   .rw[hne] at ho;show nomatch ho
  let#[x,e,hx,Eu]:=gS (g:=dP F n0) hne;have hxk:=hL h hh x hx;rcases h3 with⟨_,e0⟩|⟨o,ho,Yw⟩;show absurd e0 hne;have evo:=iE (n:=n0) hF.1.nd Yw;let#[k,hk,hlt]:=h2 x hx;have evx:=iE (n:=n0) hF.1.nd hk;have h4:=Eu o ho;let#[i1,i2,i3,i4]:=ih x hxk ∅;rw[iD e];show#[?_,∅,λy hy=>?_,gZ.mpr #[λz=>?_,i4]];rw[cW];lia;rcases aH.mp hy with rfl|hy;show#[hxk,∅];have:=i3 y hy;show#[this.1,∅];have:=(i3 x z).2;lia
theorem P1{ks:List α}{L:α->List α}{F:List (α×Int)}{n0 m:Int}(nd:ks.Nodup)(hL:∀k∈ks,∀o∈L k,o∈ks)(hF:fj ks L F)(hd:iC ks L m):((gX L (dP F n0) ks.length ks).length:Int)=m:=by
 let#[G,hG,#[y,hy,rfl],hle]:=hd;have XW:=hG.1.sub y hy;have hne:ks≠[]:=λz=>by rw[z] at XW;show nomatch XW
 have hp:=uc.mpr hne;let#[h,e,hh,Eu]:=gS (g:=dP F n0) hne;have ev:∀x∈G,dP F n0 x.1=x.2:=λx hx=>iE hF.1.nd^iB hG.1 hF.1 _ x.1 x.2 (ay _) hx;let#[k,hk]:=hG.mem nd hh;have e1:=ev _ hk;have e2:=ev _ hy;have h1:=hle _ hk;have h2:=Eu _ XW;dsimp only at e1 h1;let#[a1,a2,a3,a4]:=zl (n0:=n0) nd hL hF ((dP F n0 h).toNat) h hh ∅;have hl:(h::gX L (dP F n0) ((dP F n0 h).toNat)^L h).length<=ks.length:=jn (gZ.mpr #[λz=>by have:=(a3 h z).2;lia,a4]) λx hx=>by rcases aH.mp hx with rfl|hx;show hh;show(a3 x hx).1
 rw[cW] at hl;obtain⟨n,hn⟩:∃n,ks.length=n+1:=#[ks.length-1,∅];let#[b1,_,_,_]:=zl (n0:=n0) nd hL hF n h hh ∅;rw[hn,iD e,cW];lia
theorem BS{L:α->List α}{f g:α->Int}{ks:List α}(hL:∀k∈ks,∀o∈L k,o∈ks)(hfg:∀k∈ks,f k=g k):∀(n:Nat)(cs:List α),(∀x∈cs,x∈ks)->gX L f n cs=gX L g n cs
 | 0,_,_=>rfl
 | n+1,cs,hc=>by
  by_cases hne:cs=[];rw[hne,nQ,nQ];have ek:Es f cs=Es g cs:=by
   funext i;unfold Es;cases e:cs[i]? with
   | none=>rfl
   | some x=>show hfg x^hc x^eY e
  let#[h,e,hh,_]:=gS (g:=f) hne;rw[iD e,iD (by rw[<- ek];show e),BS hL hfg n (L h)^hL h^hc h hh]
end
theorem BU:∀{kvs:gk}{F:List (HM.bu×Int)},iA kvs F->∀(o:HM.bu)(n:Int),(j8 kvs o).getD^.int n=.int (dP F n o)
 | [],[],_,_,_=>rfl
 | [],_::_,e,_,_=>nomatch e
 | _::_,[],e,_,_=>nomatch e
 | x::kvs,y::F,e,o,n=>by unfold iA at e;rw[cG,cG] at e;let#[e1,e2]:=List.cons.inj e;have a1:x.1=y.1:=congrArg Prod.fst e1;have a2:x.2.2=V.int y.2:=congrArg Prod.snd e1;unfold j8 dP;rw[iK,iK,<- a1];by_cases h:x.1=o;rw[decide_eq_true h];show a2;rw[decide_eq_false h];show BU (kvs:=kvs) (F:=F) e2 o n
theorem BV:∀{H:Hp}{vs:List V}{ks:List HM.bu},aU H vs ks->vs=(vs.map adr).map V.ref
 | _,_,_,.nil=>rfl
 | _,_,_,.cons h t=>by rw[cG,cG,<- h.adr,<- BV t]
def adu:Pos:=#[122,31,122,67]
noncomputable def Yy:Str:=(envOfC "way_of" (aB uZ) 0 0 .none).qual ++ "<lambda>"
abbrev vG(H:Hp):Prop:=sG bK Yy adu H
def fU.tups{p:Addr}(t:sG p qual pos H)(s:fU p H H'):BG H H':=λb vs h=>s _ _ (t.ne h λ_ z=>nomatch z) h
def Yz(P:Program)(w:World):Sp:=λvs H Q _=>∃(d f:Addr)(ep CO n:Nat)(kvs sA:gk)(L:HM.bu->List HM.bu)(F:List (HM.bu×Int)),vs=[.ref d,.ref f,.int n]/\H d=some^.ext (dz P w d ep kvs)/\cu H kvs/\iz H kvs L/\fh (kvs.map (·.1)) L /\
 H f=some^.ext (dz P w f CO sA)/\cu H sA/\iA sA F/\n<=4000/\vG H/\∀(b:Addr)(us:List V)(H':Hp),fU bK H H'->vG H'->H b=none->H' b=some^.lst us->aU H' us^gX L (dP F n) n^kvs.map (·.1)->Q (.ref b) H'
theorem IJ(T:Txt w K mg)(hB:base.BuiltinsAt mg bK):bQ P w K mg base gj 4 T.rB.f T.rB.d ["later", "found", "most"]^Yz P w:=by
 show T.rB.F.okC kI (λvs H Q E h=>?_) (λA outer s H vs Q E hr h=>?_);let#[d,f,ep,CO,n,kvs,sA,L,F,rfl,_]:=h;rfl;let#[d,f,ep,CO,n,kvs,sA,L,F,rfl,hd,hk,hl,hok,hf,R3,hF,hn,tab,q]:=h;show#[_,(ak (bq 3 kI.nd^cA (DT rfl) rfl T.vf BT.ux^aa (pv 0) af)^ak (bq 4 kI.nd^bT af)^ak (ku bD (PW.pt^ia (qW (pv 3) (λ_=>rfl))^f6^bY iY (aQ bx rfl T.dY BT.dW^aa (pv 4) af)^pv 2)^ak (bq 5 kI.nd^O2 T.rB.cq T.rB.ch hB rfl rfl (uX.caps (x := "other") (fr:=["found", "most"]) (ix:=[1,2]) (nm:=["most", "found"]) rfl (by decide +kernel) rfl rfl rfl rfl #[rfl,#[rfl,trivial]] rfl (by decide +kernel) rfl #[#[rfl,rfl,rfl],#[#[rfl,rfl,rfl],trivial]]) (LK hr) (λ_ _ _=>rfl) (λ_ _ _ _ _=>(DS (P:=P) (w:=w) rfl rfl (hr.in1.deeper _).units (pv 1) (pv 0) (pv 2) #[rfl,rfl,rfl,rfl])) rfl T.L5^aa (pv 3) af)^ak (dR^i0 dj gA gB d9 (pv 4)^aa (pv 5) af)^ao^bq 3 kI.nd^jI hr.units (pv 0) (pv 5) (λ_ _=>rfl))^ao^aE^pv 4),?_];change(_:TS) (Ends.mk _ _ _ _) [_,_,_,_,_,_] H;k_in;lk;show OS hd ?_;intro cl H1 n1;lk;rename_i wa H2 n2;have s2:=n1.same.trans n2.same;have YA:H wa=none:=n1.same.free n2.1;have hne:cl≠wa:=λz=>by have:=n1.self;rw[z,n2.1] at this;cases this
 have ek:(kvs.map λe=>V.ref e.2.1).length=kvs.length:=aq _;generalize Eo:kvs.map (·.1)=ks at *;have hv1:aU H2 (kvs.map λe=>V.ref e.2.1) ks:=by
  have go:∀{l:gk},(∀x∈l,aS H (.ref x.2.1) x.1)->aU H2 (l.map λe=>V.ref e.2.1)^l.map (·.1):=λ{l}=>by
   induction l with
   | nil=>intro _;show .nil
   | cons x l ih=>intro h;show .cons (aS.same (h x^by simp) s2) (ih λy hy=>h y^cX _ hy)
  rw[<- Eo];show go hk
 show nD (λm σ' H'=>∃cl y5 vs cs us dn,σ'=[some^.ref d,some^.ref f,some^.int n,some^.ref cl,some^.ref wa,y5]/\fU bK H H'/\vG H'/\H' cl=some^.lst vs/\aU H' vs cs/\(∀x∈cs,x∈ks)/\cs.length<=4000/\cl≠wa/\H' wa=some^.lst us/\aU H' us dn/\dn.length<=n/\dn++gX L (dP F n) (n-dn.length) cs=gX L (dP F n) n ks/\m=n-dn.length) ?_ ?_;show#[_,cl,_,_,ks,[],[],rfl,s2.AU,tab.same s2,n2.keep n1.self,hv1,λ_ h=>h,hok.2.1,hne,n2.self,.nil,aI _,rfl,rfl];clear hv1 hne n1 n2 s2 ek;rintro m σ' H3 ⟨cl,y5,vs,cs,us,dn,rfl,s3,vH,hcl,hvs,hcs,ahY,hne,YB,mF,hdn,hw,rfl⟩;have hvl:=hvs.length;have sr:=mF.length;lk;have fin:gX L (dP F n) (n-dn.length) cs=[]->nx0 [some^.ref d,some^.ref f,some^.int n,some^.ref cl,some^.ref wa,y5] H3:=λe=>by show Eh _ _ ?_;clear Eh;lk;rw[e,fL] at hw;show q wa us H3 s3 vH YA YB (by rw[<- hw];show mF)
 rcases vs with _|⟨v0,vr⟩;show Kr rfl^fin ?_;cases hvs;show nQ _ _ _;show Kq rfl ?_;lk
 .rename_i hlt;show O1 ?_;lk;show Ug vH λc fq ctv H4 s4 hfq hcc Ew=>?_;have t4:=fU.tups vH s4;have np:∀{b:Addr}{xs:List V},H3 b=some^.lst xs->b≠bK:=λh=>vH.ne h λ_ z=>nomatch z;have ne:∀{b:Addr}{φ:Heap->Prop},H b=some^.ext φ->b≠bK:=λh=>tab.ne h λ_ z=>nomatch z;have Iu:=s3.trans s4;have U1:=aU.tups hvs t4;have YC:=s4 _ _ (np hcl) hcl;have YD:=s4 _ _ (np YB) YB;have adw:=aU.tups mF t4;have xN:=Iu _ _ (ne hf) hf;have RI:=Iu _ _ (ne hd) hd;have t04:=fU.tups tab Iu;have ady:=cu.tups R3 t04;have VI:=cu.tups hk t04;clear hcl hvs YB mF s4 s3 vH t4 np Eh fin;have eva:=BV U1;have adz:cs≠[]:=λz=>by rw[z] at hvl;cases hvl
  let#[h,eh,hhm,_]:=gS (g:=dP F n) adz;let#[v,hv,PX]:=jc U1 eh;show#[cl,(v0::vr).map adr,fq,c,ctv,Es (dP F n) cs,rfl,rfl,bB.of (by rw[<- eva];show YC),hfq,hcc,by simp,λi a ha=>?_,λa ha=>?_]
  .rw[aW] at ha;let#[x,hx,rfl]:=cE.mp ha;let#[k,hk,hxk]:=bf U1 hx;rw[hxk.adr] at hxk;show Xh ?_;lk;show#[f,CO,sA,rfl,xN,?_];lk;show#[adr x,CO,sA,k,rfl,#[xN,ady],hxk,?_,rfl];rw[BU hF];unfold Es;rw[hk];rfl
  .have ea:V.ref a=v:=by rw[aq,hvl,aW,hv] at ha;rw[<- Option.some.inj ha];show PX.adr.symm
   subst ea;lk;rename_i H5 p5;have t5:=mU YD p5;have ned:d≠wa:=λz=>by rw[z,YA] at hd;cases hd
   have RL:=hcs h hhm;have hL:=hok.2.2 h RL;let#[x,MI,rfl,hxv]:=tE (kvs:=kvs) (k:=h) (by rw[Eo];show hok.1) (by rw[Eo];show RL);let#[b,bs,eb,hb,v8]:=hl x MI;have nwb:b≠wa:=λz=>by rw[z,YA] at hb;cases hb
   show nW (p5.keep ned RI) (cu.tups VI t5) (aS.tups PX t5) (hxv.trans^congrArg some eb) ?_;show Yh _ _ #[n-(dn.length+1),∅,b,_,bs,L x.1,us++[.ref a],dn++[x.1],rfl,λc o hc e=>p5.keep (λz=>by rw[z,YA] at e;cases e)^Iu c o hc e,Ew.put YD p5,p5.keep nwb^Iu _ _ (tab.ne hb λ_ z=>nomatch z) hb,aU.tups (aU.tups v8 t04) t5,hL.2,∅,nwb,p5.self,cF (aU.tups adw t5)^aS.tups PX t5,by rw[aO,ji];lia,?_,by rw[aO,ji]];obtain⟨m,em⟩:∃m,n-dn.length=m+1:=#[n-dn.length-1,∅];rw[em,iD eh] at hw;rw[aO,ji,show n-(dn.length+1)=m by lia,kR];show hw
 .rename_i hge;have e0:n-dn.length=0:=∅;rw[e0] at hw;have e1:gX L (dP F n) 0 cs=[]:=rfl;rw[e1,fL] at hw;show q wa us H3 s3 vH YA YB (by rw[<- hw];show mF)
def zm(K:aF):Sp:=λvs H Q E=>Xs K vs H Q E/\H bK=some^.qC #[]
section
variable {α:Type} [DecidableEq α]
noncomputable def CQ:List Int->Int
 | []=>0
 | x::l=>if x<=CQ l then CQ l else x
theorem Ex:∀{l:List Int}{x:Int},x∈l->x<=CQ l
 | y::l,x,h=>by
  unfold CQ;rcases aH.mp h with rfl|h;split<;>lia
  .have:=Ex h;split<;>lia
theorem zo:∀l:List Int,(CQ l=0\/CQ l∈l)/\0<=CQ l\/(CQ l∈l)
 | []=>.inl #[.inl rfl,j3 _]
 | y::l=>by unfold CQ;split;rcases zo l with⟨h|h,h0⟩|h;show .inl #[.inl h,h0];show .inr^cX _ h;show .inr^cX _ h;show .inr^aH.mpr^.inl rfl
noncomputable def vI(L:α->List α):Nat->α->Int
 | 0,_=>1
 | n+1,h=>1+CQ^(L h).map^vI L n
theorem xT{ks:List α}{L:α->List α}{rk:α->Nat}(hL:∀k∈ks,∀o∈L k,o∈ks)(hr:∀k∈ks,∀o∈L k,rk o<rk k):∀(n m:Nat)(h:α),h∈ks->rk h<n->rk h<m->vI L n h=vI L m h
 | 0,_,_,_,h1,_=>absurd h1^fZ _
 | _,0,_,_,_,h2=>absurd h2^fZ _
 | n+1,m+1,h,hk,h1,h2=>by unfold vI;congr 2;show List.map_congr_left λo ho=>xT hL hr n m o (hL h hk o ho) ?_ ?_;have:=hr h hk o ho;lia;have:=hr h hk o ho;lia
theorem MQ{ks:List α}{L:α->List α}{rk:α->Nat}(nd:ks.Nodup)(hL:∀k∈ks,∀o∈L k,o∈ks)(hr:∀k∈ks,∀o∈L k,rk o<rk k):∃F,fj ks L F:=by
 let G:α->Int:=λh=>vI L (rk h+1) h;have hG:∀h∈ks,G h=1+CQ^(L h).map G:=λh hk=>by change 1+CQ^(L h).map^vI L^rk h=_;congr 2;show List.map_congr_left λo ho=>xT hL hr _ _ o (hL h hk o ho) (hr h hk o ho)^jT _
 have pos:∀h,1<=G h:=λh=>by
  change 1<=1+CQ _;have:0<=CQ^(L h).map^vI L^rk h:=by
   rcases zo^(L h).map^vI L^rk h with⟨_,h0⟩|hm;show h0
   .have:∀(n:Nat)(x:α),0<=vI L n x:=λn=>by
     induction n with
     | zero=>intro x;change(0:Int)<=1;decide
     | succ n ih =>
      intro x;change 0<=1+CQ^(L x).map^vI L n;rcases zo^(L x).map^vI L n with⟨_,h0⟩|hm;lia
      .let#[o,_,e]:=aD.mp hm;have:=ih o;lia
    let#[o,_,e]:=aD.mp hm;rw[<- e];show this _ _
  lia
 have em:(ks.map λh=>(h,G h)).map (·.1)=ks:=by rw[gq];show List.map_id' _
 show#[ks.map λh=>(h,G h),#[by rw[em];show nd,λx hx=>?_,λx hx=>?_,λh hh no=>absurd (by rw[em];show hh) no],aq _];let#[h,hh,rfl]:=aD.mp hx;show hh
 .let#[h,hh,rfl]:=aD.mp hx;dsimp only;have e:=hG h hh;show#[pos h,λo ho=>#[G o,aD.mpr #[o,hL h hh o ho,rfl],?_],?_];have:=Ex^mh (f:=G) ho;lia
  .by_cases hn:L h=[];left;rw[hn] at e;show#[e,hn]
   .right;have hm:CQ^(L h).map G∈(L h).map G:=by rcases zo^(L h).map G with⟨h0|h0,_⟩|h0;exfalso;let#[o,ho]:=List.exists_mem_of_ne_nil _ hn;have h1:=Ex^mh (f:=G) ho;have:=pos o;lia;show h0;show h0
    let#[o,ho,eo]:=aD.mp hm;show#[o,ho,aD.mpr #[o,hL h hh o ho,by rw[eo,e];congr 1;lia]]
end
open Classical in
def b8(rs:List Row):Option Int:=if e:∃m,iC (aM rs rs.length) (bF rs) m then some e.choose else none
def rG{m:Int}(h:iC (aM rs rs.length) (bF rs) m):b8 rs=some m:=by unfold b8;rw[dif_pos #[m,h]];show congrArg some^IF (Exists.choose_spec (#[m,h]:∃m,iC (aM rs rs.length) (bF rs) m)) h
def rH(h:∀F,¬fj (aM rs rs.length) (bF rs) F):b8 rs=none:=by unfold b8;rw[dif_neg];rintro⟨m,F,hF,_⟩;show h F hF
theorem mV(hne:rs≠[])(h:fj (aM rs rs.length) (bF rs) F):∃m,b8 rs=some m/\1<=m:=by
 have hin:((0:Int),none)∈aM rs rs.length:=gw.mpr #[0,uc.mpr hne,rfl,nP.mpr trivial];have hF:F≠[]:=λz=>by have h1:=h.2;rw[z] at h1;rw[List.length_eq_zero_iff.mp h1.symm] at hin;show nomatch hin
 have ex:∀l:List (HM.bu×Int),l≠[]->∃x∈l,∀y∈l,y.2<=x.2:=λl=>by
  induction l with
  | nil=>intro z;show absurd rfl z
  | cons x l ih =>
   intro _;by_cases hl:l=[];subst hl;show#[x,by simp,λy hy=>by rw[aA.mp hy];show j3 _]
   .let#[z,hz,hm]:=ih hl;by_cases hx:z.2<=x.2
    .show#[x,by simp,λy hy=>by
      rcases aH.mp hy with rfl|hy;show j3 _
      .have:=hm y hy;lia]
    .show#[z,cX _ hz,λy hy=>by
      rcases aH.mp hy with rfl|hy;lia
      .show hm y hy]
 let#[x,hx,hm]:=ex F hF;show#[x.2,rG #[F,h,#[x,hx,rfl],hm],(h.1.fin x hx).1]
def Gx(jR:∀k r t,rs[k]?=some r->t∈b7 rs k->iI rs r t^bF rs ((k:Int),t)){z:HM.bu}(hz:z∈aM rs rs.length){o:HM.bu}(ho:o∈bF rs z):∃(p:Nat)(r:Row),z.1=(p:Int)/\p<rs.length/\rs[p]?=some r/\z.2∈b7 rs p/\Gh rs r z.2 o:=by let#[p,hp,e,ht]:=gw.mp hz;let#[zp,zt]:=z;dsimp only at e ht;subst e;show#[p,rs[p],rfl,hp,dJ hp,ht,((jR p _ zt (dJ hp) ht).2 o).mp ho]
theorem P5(kr:fh (aM rs rs.length)^bF rs)(jR:∀k r t,rs[k]?=some r->t∈b7 rs k->iI rs r t^bF rs ((k:Int),t))(hf:∀(p:Nat)(r:Row),rs[p]?=some r->∀q∈r.ways,(p:Int)<q):∃F,fj (aM rs rs.length) (bF rs) F:=by show MQ (rk:=λz=>rs.length-z.1.toNat) kr.1 (λk hk o ho=>(kr.2.2 k hk).2 o ho) λz hz o ho=>?_;let#[p,r,e,hp,hr,_,hl]:=Gx jR hz ho;have h1:=hf p r hr _ hl.1;have h2:=(kr.2.2 z hz).2 o ho;let#[q,hq,e2,_]:=gw.mp h2;change rs.length-o.1.toNat<rs.length-z.1.toNat;rw[e2] at h1;rw[e,e2];lia
def cM(rs:List Row)(p:Nat):List Int:=SN.fG^(ja rs p).map (·.2)
def dB(rs:List Row)(p:Nat):Nat:=if d8 rs p=true then(cM rs p).length+1 else 0
def Row.own(r:Row):Nat:=if r.fJ=true then 2 else 1
def gz(rs:List Row)(p:Nat):Nat:=dB rs p+(rs[p]?.map Row.own).getD 0
def firstM(rs:List Row):Nat->Nat
 | 0=>0
 | p+1=>firstM rs p+gz rs p
def iF(rs:List Row)(q:Int):Int:=(firstM rs q.toNat:Int)
noncomputable def Row.dbl(at_:Int):Row->List Row
 | .num _ k v q=>[.num 0 k v (at_+1),.num 1 k v q]
 | .copy _ k i q=>[.copy 0 k i (at_+1),.copy 1 k i q]
 | .op _ s k i j q=>[.op 0 s k i j (at_+1),.op 1 s k i j q]
 | r=>[r]
noncomputable def cI(f:Int):List Int->List Row
 | []=>[]
 | b::bs=>.look b (f+1)::cI (f+1) bs
theorem eF(f:Int):∀bs,(cI f bs).length=bs.length
 | []=>rfl
 | b::bs=>by rw[cI,cW,eF (f+1) bs,cW]
theorem mW(b:Int):∀(f:Int)(bs:List Int),cI f (bs++[b])=cI f bs++[.look b (f+bs.length+1)]
 | f,[]=>by simp[cI]
 | f,c::bs=>by rw[List.cons_append,cI,mW b (f+1) bs,cI,List.cons_append,cW];have:f+1+(bs.length:Int)+1=f+((bs.length+1:Nat):Int)+1:=∅;rw[this]
def BW(rs:List Row)(p:Nat):List Row:=if d8 rs p=true then cI (firstM rs p)^cM rs p++[.mark ((firstM rs p:Int)+(cM rs p).length+1)] else[]
def putAt(rs:List Row)(p:Nat)(r:Row):List Row:=BW rs p++(r.dN^iF rs).dbl ((firstM rs p:Int)+dB rs p)
def cj(rs:List Row):Nat->List Row
 | 0=>[]
 | p+1=>cj rs p++(rs[p]?.map^putAt rs p).getD []
def vJ(rs:List Row)(p:Nat):(BW rs p).length=dB rs p:=by unfold BW dB;split;rw[aO,eF];rfl;rfl
def Gy(f:Int->Int)(a:Int)(r:Row):((r.dN f).dbl a).length=r.own:=by cases r<;>rfl
theorem eG{rs:List Row}:∀{p},p<=rs.length->(cj rs p).length=firstM rs p
 | 0,_=>rfl
 | p+1,h=>by have e:rs[p]?=some rs[p]:=dJ h;rw[cj,firstM,aO,eG^Nat.le_of_succ_le h];unfold gz;rw[e];change _+(putAt rs p rs[p]).length=_;unfold putAt;rw[aO,vJ,Gy];rfl
theorem IK(rs:List Row)(p:Nat):∀b∈cM rs p,0<=b/\b<8:=λb hb=>by unfold cM SN.fG at hb;let#[k,hk,rfl]:=aD.mp hb;have:=fN.mp (c9.mp hk).1;lia
def vK(rs:List Row)(p:Nat):(cM rs p).length<=8:=kN _
theorem zq(rs:List Row)(p:Nat):dB rs p<=9:=by have:=vK rs p;unfold dB;split<;>lia
theorem rJ(r:Row):r.own<=2:=by unfold Row.own;split<;>lia
theorem P6(rs:List Row)(p:Nat):gz rs p<=11:=by
 have:=zq rs p;unfold gz;cases rs[p]? with
 | none=>simp;lia
 | some r=>have:=rJ r;simp;lia
theorem rK(rs:List Row):∀p,firstM rs p<=11*p
 | 0=>ay _
 | p+1=>by have:=rK rs p;have:=P6 rs p;rw[firstM];lia
theorem vL{ks:Nat->Key}{vs:Nat->V}:∀{n:Nat},(∀i j,i<n->j<n->ks i=ks j->i=j)->∀i,i<n->fQ (jl ks vs n)^ks i=some (vs i)
 | 0,_,i,h=>absurd h^fZ _
 | n+1,hn,i,h=>by
  rw[jl,zZ];by_cases e:ks i=ks n;have:i=n:=hn i n h (jT _) e;rw[if_pos e,this]
  .rw[if_neg e];show vL (λa b ha hb=>hn a b ∅ ∅) i ?_;rcases bg i n with hl|hg;show hl;show absurd (by rw[show i=n by lia]) e
theorem lR{ks:Nat->Key}{vs:Nat->V}{k:Key}:∀{n:Nat},(∀i,i<n->ks i≠k)->fQ (jl ks vs n) k=none
 | 0,_=>rfl
 | n+1,h=>by rw[jl,zZ,if_neg (λe=>h n (jT _) e.symm)];show lR λi hi=>h i ∅
def qz(H:Hp)(rs:List Row)(kvs:List (Key×V)):Prop:=∀j:Nat,j<rs.length->(d8 rs j=true->∃a,fQ kvs^.inl (j:Int)=some^.ref a/\H a=some^.lst^(cM rs j).map V.int)/\(¬d8 rs j=true->fQ kvs^.inl (j:Int)=none)
def qz.same{kvs:List (Key×V)}(e:aC H H')(h:qz H rs kvs):qz H' rs kvs:=λj hj=>#[λhm=>let⟨a,h1,h2⟩:=(h j hj).1 hm;#[a,h1,e _ _ h2],(h j hj).2]
def Row.pl:Row->Prop
 | .num d _ _ _=>d=2|.copy d _ _ _=>d=2|.op d _ _ _ _ _=>d=2|.look _ _=>False|.mark _=>False|_=>True
inductive NQ (rs:List Row):Nat->Prop
 | zero:NQ rs 0
 | step {p q:Nat} {r:Row} (h:NQ rs p) (hr:rs[p]?=some r) (w:((q:Nat):Int)∈r.ways):NQ rs q
def cnt_cons(r:Row)(rs:List Row)(j:Nat):cnt (r::rs) j=r.ways.count (j:Int)+cnt rs j:=by unfold cnt;rw[cG,List.sum_cons]
theorem zu:∀{rs:List Row}{p j:Nat}{r:Row},rs[p]?=some r->((j:Nat):Int)∈r.ways->1<=cnt rs j
 | [],_,_,_,h,_=>by simp at h
 | x::rs,0,j,r,h,w=>by
  simp at h;subst h;have:=List.count_pos_iff.mpr w;rw[cnt_cons];lia
 | x::rs,p+1,j,r,h,w=>by have:=zu (rs:=rs) (p:=p) (by simpa using h) w;rw[cnt_cons];lia
theorem Gz{r':Row}(w:((j:Nat):Int)∈r.ways)(w':((j:Nat):Int)∈r'.ways)(rs:List Row):∀(p q:Nat),p<q->rs[p]?=some r->rs[q]?=some r'->2<=cnt rs j:=by
 induction rs with
 | nil=>intro p q _ h;simp at h
 | cons x rs ih =>
  intro p q hl h h';rw[cnt_cons];obtain⟨q,rfl⟩:∃i,q=i+1:=#[q-1,∅];rw[ou] at h';rcases Nat.eq_zero_or_pos p with e|hp
  .subst e;rw[List.getElem?_cons_zero] at h;cases h;have h1:=List.count_pos_iff.mpr w;have h2:=zu h' w';lia
  .obtain⟨p,rfl⟩:∃i,p=i+1:=#[p-1,∅];rw[ou] at h;have:=ih p q ∅ h h';lia
def zw(hn:¬d8 rs j=true)(hr:rs[p]?=some r)(w:((j:Nat):Int)∈r.ways):j≠0/\∀(q:Nat)(r':Row),rs[q]?=some r'->((j:Nat):Int)∈r'.ways->q=p:=by have h1:=zu hr w;have hm:¬(if j=0 then 1 else 2)<=cnt rs j:=λz=>hn^decide_eq_true z;have hj:j≠0:=λz=>hm (by rw[if_pos z];show h1);rw[if_neg hj] at hm;show#[hj,λq r' hq w'=>?_];rcases nk p q with h|h|h;show absurd (Gz w w' rs _ _ h hr hq) hm;show h.symm;show absurd (Gz w' w rs _ _ h hq hr) hm
inductive GA (rs:List Row):Nat->Nat->Prop
 | top {j:Nat} (h:j=0\/d8 rs j=true):GA rs j 0
 | on {p j d:Nat} {r:Row} (hr:rs[p]?=some r) (w:((j:Nat):Int)∈r.ways) (hn:¬d8 rs j=true) (h:GA rs p d):GA rs j (d+1)
def U3(h:NQ rs j):∃d,GA rs j d:=by
 induction h with
 | zero=>show#[0,.top^.inl rfl]
 | step _ hr w ih =>
  rename_i p q r _;let#[d,hd]:=ih;by_cases hm:d8 rs q=true;show#[0,.top^.inr hm];show#[d+1,.on hr w hm hd]
def GB(h:GA rs j d):∀{d':Nat},GA rs j d'->d=d':=by
 induction h with
 | top h =>
  intro d' h';cases h' with
  | top _=>rfl
  | on hr w hn _=>show absurd (h.resolve_left (zw hn hr w).1) hn
 | on hr w hn _ ih =>
  intro d' h';cases h' with
  | top h=>show absurd (h.resolve_left (zw hn hr w).1) hn
  | on hr' w' _ h' =>
   obtain rfl:=(zw hn hr w).2 _ _ hr' w';rw[ih h']
theorem MR(h:GA rs j d):j<rs.length->∃l:List Nat,l.length=d+1/\l.Nodup/\∀x∈l,x<rs.length/\∃i,i<=d/\GA rs x i:=by
 induction h with
 | top h=>show λhj=>#[[_],rfl,by simp,λx hx=>by rw[aA.mp hx];show#[hj,0,ay _,.top h]]
 | @on p j d r hr w hn hd ih =>
  intro hj;let#[l,h1,h2,h3]:=ih (eX hr).1;show#[j::l,by rw[cW,h1],gZ.mpr #[λhx=>?_,h2],λx hx=>?_];let#[_,i,hi,hd']:=h3 _ hx;have:=GB (GA.on hr w hn hd) hd';lia;rcases aH.mp hx with rfl|hx;show#[hj,_,ay _,.on hr w hn hd];let#[h4,i,hi,hd']:=h3 x hx;show#[h4,i,∅,hd']
theorem MS(h:GA rs j d)(hj:j<rs.length):d<rs.length:=by let#[l,h1,h2,h3]:=MR h hj;have:=jn h2 (ys:=List.range rs.length) λx hx=>fN.mpr (h3 x hx).1;rw[l0] at this;lia
open Classical in
def P7(rs:List Row)(j:Nat):Nat:=if e:∃d,GA rs j d then e.choose else 0
def GC(h:GA rs j d):P7 rs j=d:=by unfold P7;rw[dif_pos #[d,h]];show GB (Exists.choose_spec (#[d,h]:∃d,GA rs j d)) h
theorem jd(h:p<=q):firstM rs p<=firstM rs q:=by
 induction q with
 | zero=>rw[Nat.le_zero.mp h];show ay _
 | succ q ih =>
  rcases bg p (q+1) with h1|h1;have:=ih ∅;change _<=firstM rs q+gz rs q;lia;rw[show p=q+1 by lia];show ay _
theorem MT(hr:rs[p]?=some r)(hk:k<gz rs p):∀m,p<m->m<=rs.length->(cj rs m)[firstM rs p+k]?=(putAt rs p r)[k]?:=by
 intro m;induction m with
 | zero=>intro h;show absurd h^fZ _
 | succ m ih =>
  intro h1 h2;have hl:=eG (rs:=rs) (p:=m) ∅;change(cj rs m++_)[firstM rs p+k]?=_;rcases bg p m with h3|h3
  .have hm:=jd (rs:=rs) (p:=p+1) (q:=m) h3;have e:firstM rs (p+1)=firstM rs p+gz rs p:=rfl;rw[kT ∅,ih h3 ∅]
  .obtain rfl:p=m:=∅;rw[j4 ∅,hl,show firstM rs p+k-firstM rs p=k by lia,hr];rfl
theorem vM{rs:List Row}:∀{m x:Nat},x<firstM rs m->m<=rs.length->∃p k,p<m/\k<gz rs p/\x=firstM rs p+k
 | 0,x,h,_=>absurd h^fZ _
 | m+1,x,h,hm=>by rcases bg x^firstM rs m with h1|h1;let#[p,k,h2,h3,h4]:=vM h1 ∅;show#[p,k,∅,h3,h4];have h:x<firstM rs m+gz rs m:=h;show#[m,x-firstM rs m,∅,∅,∅]
theorem rL(hk:k<gz rs p)(hj:j<gz rs q)(e:firstM rs p+k=firstM rs q+j):p=q/\k=j:=by rcases nk p q with h|h|h;have h1:=jd (rs:=rs) (p:=p+1) (q:=q) h;have h1:firstM rs p+gz rs p<=firstM rs q:=h1;lia;subst h;show#[rfl,∅];have h1:=jd (rs:=rs) (p:=q+1) (q:=p) h;have h1:firstM rs q+gz rs q<=firstM rs p:=h1;lia
theorem oh:∀(f:Int)(bs:List Int)(k:Nat),(cI f bs)[k]?=bs[k]?.map λb=>Row.look b (f+k+1)
 | _,[],_=>by simp[cI]
 | f,b::bs,0=>by simp[cI]
 | f,b::bs,k+1=>by rw[cI,ou,ou,oh (f+1) bs k,show f+1+(k:Int)+1=f+((k+1:Nat):Int)+1 by lia]
inductive Ey (rs:List Row) (p:Nat) (r:Row) (x:Int):Nat->Row->Prop
 | look {k:Nat} {b:Int} (hm:d8 rs p=true) (hb:(cM rs p)[k]?=some b):Ey rs p r x k^.look b (x+1)
 | mark {k:Nat} (hm:d8 rs p=true) (e:k=(cM rs p).length):Ey rs p r x k^.mark (x+1)
 | own {k:Nat} (hd:r.fJ=false) (e:k=dB rs p):Ey rs p r x k^r.dN^iF rs
 | one {k:Nat} {R:Row} (hd:r.fJ=true) (e:k=dB rs p) (h1:R.fJ=true) (h2:R.sd=0) (h3:R.nK=r.nK) (h4:R.ways=[x+1]) (h5:∀n n':Int,r.ok n->kM n' (x+1)->R.ok n'):Ey rs p r x k R
 | two {k:Nat} {R:Row} (hd:r.fJ=true) (e:k=dB rs p+1) (h1:R.fJ=true) (h2:R.sd=1) (h3:R.nK=r.nK) (h4:R.ways=r.ways.map^iF rs) (h5:∀n n':Int,r.ok n->(∀q,kM n q->kM n'^iF rs q)->R.ok n'):Ey rs p r x k R
theorem adA(h:(putAt rs p r)[k]?=some R):Ey rs p r ((firstM rs p:Int)+k) k R:=by
 have hl:=vJ rs p;unfold putAt at h;rcases bg k^dB rs p with h1|h1
 .rw[kT ∅] at h;unfold dB at h1;by_cases hm:d8 rs p=true
  .rw[if_pos hm] at h1;unfold BW at h;rw[if_pos hm] at h;rcases bg k (cM rs p).length with h2|h2
   .rw[kT (by rw[eF];show h2),oh] at h;let#[b,hb,rfl]:=cE.mp h;show .look hm hb
   .obtain rfl:k=(cM rs p).length:=∅;rw[j4 (by rw[eF];show ay _),eF,Nat.sub_self] at h;cases h;show .mark hm rfl
  .rw[if_neg hm] at h1;show absurd h1^fZ _
 .rw[j4 ∅,hl] at h;have e2:k=dB rs p+(k-dB rs p):=∅;generalize k-dB rs p=i at h e2;subst e2;have ex:(firstM rs p:Int)+dB rs p+1=(firstM rs p:Int)+((dB rs p+0:Nat):Int)+1:=∅;cases r with
  | num d a v q =>
   match i,h with
   | 0,h=>cases h;show .one rfl rfl rfl rfl rfl (by change[_]=_;rw[ex]) (λn n' h hx=>by rw[<- ex] at hx;show#[#[by decide,by decide],h.2.1,h.2.2.1,hx])
   | 1,h=>cases h;show .two rfl rfl rfl rfl rfl rfl (λn n' h hf=>#[#[by decide,by decide],h.2.1,h.2.2.1,hf _ h.2.2.2])
   | i+2,h=>cases h
  | copy d a b q =>
   match i,h with
   | 0,h=>cases h;show .one rfl rfl rfl rfl rfl (by change[_]=_;rw[ex]) (λn n' h hx=>by rw[<- ex] at hx;show#[#[by decide,by decide],h.2.1,h.2.2.1,hx])
   | 1,h=>cases h;show .two rfl rfl rfl rfl rfl rfl (λn n' h hf=>#[#[by decide,by decide],h.2.1,h.2.2.1,hf _ h.2.2.2])
   | i+2,h=>cases h
  | op d s a b c q =>
   match i,h with
   | 0,h=>cases h;show .one rfl rfl rfl rfl rfl (by change[_]=_;rw[ex]) (λn n' h hx=>by rw[<- ex] at hx;show#[#[by decide,by decide],h.2.1,h.2.2.1,h.2.2.2.1,h.2.2.2.2.1,hx])
   | 1,h=>cases h;show .two rfl rfl rfl rfl rfl rfl (λn n' h hf=>#[#[by decide,by decide],h.2.1,h.2.2.1,h.2.2.2.1,h.2.2.2.2.1,hf _ h.2.2.2.2.2])
   | i+2,h=>cases h
  | out a q =>
   match i,h with
   | 0,h=>cases h;show .own rfl rfl
   | i+1,h=>cases h
  | fork a q q2 =>
   match i,h with
   | 0,h=>cases h;show .own rfl rfl
   | i+1,h=>cases h
  | look a q =>
   match i,h with
   | 0,h=>cases h;show .own rfl rfl
   | i+1,h=>cases h
  | mark q =>
   match i,h with
   | 0,h=>cases h;show .own rfl rfl
   | i+1,h=>cases h
  | back a =>
   match i,h with
   | 0,h=>cases h;show .own rfl rfl
   | i+1,h=>cases h
section
variable {rs:List Row}
def BX(h:r.pl)(s s':Int):r.gv s=r.gv s'/\r.rd s=r.rd s':=by
 unfold Row.gv Row.rd;cases r with
 | num d _ _ _=>have h:d=2:=h;subst h;simp[Row.sd,Row.fJ]
 | copy d _ _ _=>have h:d=2:=h;subst h;simp[Row.sd,Row.fJ]
 | op d _ _ _ _ _=>have h:d=2:=h;subst h;simp[Row.sd,Row.fJ]
 | _=>show#[rfl,rfl]
def BY(hok:∀r∈rs,r.ok rs.length)(hpl:∀r∈rs,r.pl){s':Int}(hs:s=0\/s=1)(hs':s'=0\/s'=1)(hb:0<=b)(h:cH rs (s,b) p):cH rs (s',b) p:=by show jZ (S:=cH rs (s',b)) (λk r hr hm=>?_) (λk q r hr hm w hq=>?_) p h;have hm':=eY hr;rw[iR (hok r hm') hs,(BX (hpl r hm') s s').2] at hm;show .here hr^(iR (hok r hm') hs').mpr hm;have hm':=eY hr;rw[gc (hok r hm') hs hb,(BX (hpl r hm') s s').1] at hm;show .on hr (λz=>hm^(gc (hok r hm') hs' hb).mp z) w hq
theorem tF(r:Row):1<=r.own:=by unfold Row.own;split<;>lia
theorem qA(hp:p<rs.length):firstM rs p<firstM rs rs.length/\dB rs p<gz rs p:=by
 have h1:=jd (rs:=rs) (p:=p+1) (q:=rs.length) hp;have h1:firstM rs p+gz rs p<=_:=h1;have e:gz rs p=dB rs p+(rs[p]).own:=by unfold gz;rw[dJ hp];rfl
 have:=tF rs[p];lia
def oU:iF rs (q:Int)=(firstM rs q:Int):=by unfold iF;rw[jg]
theorem tG{x:Nat}(h:(cj rs rs.length)[x]?=some R):∃(p k:Nat)(r:Row),rs[p]?=some r/\k<gz rs p/\x=firstM rs p+k/\Ey rs p r (x:Int) k R:=by have hx:=(eX h).1;rw[eG^ay _] at hx;let#[p,k,h1,h2,rfl]:=vM hx^ay _;have hr:rs[p]?=some rs[p]:=dJ h1;rw[MT hr h2 _ h1^ay _] at h;have:=adA h;show#[p,k,_,hr,h2,rfl,by rw[show((firstM rs p+k:Nat):Int)=(firstM rs p:Int)+k by lia];show this]
def mX(hr:rs[p]?=some r):gz rs p=dB rs p+r.own:=by unfold gz;rw[hr];rfl
def mY(f:Int->Int)(r:Row):(r.dN f).fJ=r.fJ/\(r.dN f).sd=r.sd/\(r.dN f).nK=r.nK/\(r.dN f).ways=r.ways.map f:=by cases r<;>show#[rfl,rfl,rfl,rfl]
def BZ(f:Int->Int)(r:Row)(s:Int):(r.dN f).gv s=r.gv s/\(r.dN f).rd s=r.rd s:=by let#[h1,h2,h3,_]:=mY f r;unfold Row.gv Row.rd Row.Bo;rw[h1,h2,h3];show#[rfl,rfl]
theorem tH{d:Int}(hpl:r.pl)(hd:r.fJ=true)(h1:R.fJ=true)(h2:R.sd=d)(h3:R.nK=r.nK)(rX:d=0\/d=1)(s:Int):(s=d->R.gv s=r.gv s/\R.rd s=r.rd s)/\(s≠d->s=0\/s=1->R.gv s = -1/\R.rd s=[]):=by
 have e2:r.sd=2:=by
  cases r with
  | num d _ _ _=>show hpl
  | copy d _ _ _=>show hpl
  | op d _ _ _ _ _=>show hpl
  | _=>cases hd
 unfold Row.gv Row.rd Row.Bo;rw[h1,h2,h3,hd,e2];constructor;intro e;subst e;simp;intro e hs;have e1:¬d=s:=λz=>e z.symm;have e3:¬d=2:=∅;simp[e1,e3]
theorem IL(hok:∀r∈rs,r.ok rs.length)(hpl:∀r∈rs,r.pl)(P8:∀r∈cj rs rs.length,r.ok (cj rs rs.length).length)(hs:s=0\/s=1)(hb:0<=b/\b<8){x:Nat}(h:cH (cj rs rs.length) (s,b) x):
  ∀(p k:Nat)(r:Row),rs[p]?=some r->k<gz rs p->x=firstM rs p+k->(k<=dB rs p\/s=1->cH rs (s,b) p)/\(dB rs p<k->s=0->∃q:Nat,((q:Nat):Int)∈r.ways/\cH rs (s,b) q):=by
 show jZ (S:=λx=>∀(p k:Nat)(r:Row),rs[p]?=some r->k<gz rs p->x=firstM rs p+k->(k<=dB rs p\/s=1->cH rs (s,b) p)/\(dB rs p<k->s=0->∃q:Nat,((q:Nat):Int)∈r.ways/\cH rs (s,b) q)) (λy R hR hm=>?_) (λy q R hR hm w hq=>?_) x h
 .intro p k r hr hk ey;let#[p',k',r',hr',hk',ey',hw]:=tG hR;let#[rfl,rfl]:=rL hk hk' ∅;rw[hr] at hr';cases hr';have hmem:=eY hr;have MU:=hok r hmem;rw[iR (P8 R^eY hR) hs] at hm;have hso:=mX hr;have Dg:=rJ r;have here:b∈r.rd s->cH rs (s,b) p:=λz=>.here hr^(iR MU hs).mpr z;cases hw with
  | look hm' hb' =>
   have:b∈cM rs p:=by have hm:b∈[_]:=hm;rw[aA.mp hm];show eY hb'
   obtain⟨z,hz,ez⟩:∃z∈ja rs p,z.2=b:=by
    unfold cM at this;rw[SN.jy λn hn=>?_] at this;let#[z,hz,ez]:=aD.mp this;show#[z,hz,ez]
    .let#[z,hz,rfl]:=aD.mp hn;have all:∀t∈bV,0<=t.2/\t.2<8:=by decide
     show all z (c9.mp hz).1
   let#[hz1,hz2]:=c9.mp hz;have all:∀t∈bV,t.1=0\/t.1=1:=by decide
   let#[zs,zb]:=z;dsimp only at ez;subst ez;show#[λ_=>BY hok hpl (all _ hz1) hs hb.1^fY.mp hz2,λh=>?_];have:=(eX hb').1;unfold dB at h;rw[if_pos hm'] at h;lia
  | mark _ _=>show nomatch (show b∈([]:List Int) from hm)
  | own hd e =>
   rw[(BZ _ r s).2] at hm;show#[λ_=>here hm,λh=>∅]
  | one hd e h1 h2 h3 h4 _ =>
   show#[λ_=>?_,λh=>∅];have hg:=tH (hpl r hmem) hd h1 h2 h3 (.inl rfl) s;by_cases e0:s=0;rw[(hg.1 e0).2] at hm;show here hm;rw[(hg.2 e0 hs).2] at hm;show nomatch hm
  | two hd e h1 h2 h3 h4 _ =>
   have hg:=tH (hpl r hmem) hd h1 h2 h3 (.inr rfl) s;by_cases e0:s=1;rw[(hg.1 e0).2] at hm;show#[λ_=>here hm,λ_ h=>∅];rw[(hg.2 e0 hs).2] at hm;show nomatch hm
 .intro p k r hr hk ey;let#[p',k',r',hr',hk',ey',hw]:=tG hR;let#[rfl,rfl]:=rL hk hk' ∅;rw[hr] at hr';cases hr';have hmem:=eY hr;have MU:=hok r hmem;rw[gc (P8 R^eY hR) hs hb.1] at hm;have hso:=mX hr;have Dg:=rJ r;have hop:=tF r;have next:∀{j:Nat},(q:Int)=(y:Int)+1->k+1=j->j<gz rs p->_:=λ{j} e1 e2 e3=>hq p j r hr e3 ∅;have MV:(q:Int)∈r.ways.map^iF rs->∃q':Nat,((q':Nat):Int)∈r.ways/\cH rs (s,b) q':=λw=>by let#[z,hz,ez]:=aD.mp w;let#[h1,h2]:=Row.gG MU z hz;obtain⟨q',rfl⟩:∃q':Nat,z=(q':Int):=#[z.toNat,∅];rw[oU] at ez;have hq':q'<rs.length:=∅;show#[q',hz,(hq q' 0 rs[q'] (dJ hq') (by have:=(qA hq').2;lia) ∅).1^.inl^aI _]
  have onp:r.gv s≠b->(∃q':Nat,((q':Nat):Int)∈r.ways/\cH rs (s,b) q')->cH rs (s,b) p:=λh ⟨q',h1,h2⟩=>.on hr (λz=>h^(gc MU hs hb.1).mp z) h1 h2;cases hw with
  | look hm' hb' =>
   have Ec:=(eX hb').1;have em:dB rs p=(cM rs p).length+1:=by unfold dB;rw[if_pos hm']
   have w:(q:Int)=(y:Int)+1:=aA.mp w;show#[λ_=>(next (j:=k+1) w rfl ∅).1 (.inl ∅),λh=>∅]
  | mark hm' e =>
   have em:dB rs p=(cM rs p).length+1:=by unfold dB;rw[if_pos hm']
   have w:(q:Int)=(y:Int)+1:=aA.mp w;show#[λ_=>(next (j:=k+1) w rfl ∅).1 (.inl ∅),λh=>∅]
  | own hd e =>
   rw[(mY (iF rs) r).2.2.2] at w;rw[(BZ _ r s).1] at hm;show#[λ_=>onp hm^MV w,λh=>∅]
  | one hd e h1 h2 h3 h4 _ =>
   rw[h4] at w;have w:(q:Int)=(y:Int)+1:=aA.mp w;have ho:r.own=2:=by unfold Row.own;rw[if_pos hd]
   have hn:=next (j:=k+1) w rfl ∅;show#[λ_=>?_,λh=>∅];by_cases e0:s=1;show hn.1^.inr e0;have e1:s=0:=hs.resolve_right e0;have hg:=(tH (hpl r hmem) hd h1 h2 h3 (.inl rfl) s).1 e1;rw[hg.1] at hm;show onp hm (hn.2 ∅ e1)
  | two hd e h1 h2 h3 h4 _ =>
   rw[h4] at w;show#[λh=>?_,λ_ _=>MV w];have e1:s=1:=h.resolve_left ∅;have hg:=(tH (hpl r hmem) hd h1 h2 h3 (.inr rfl) s).1 e1;rw[hg.1] at hm;show onp hm^MV w
def vN{n':Int}{f:Int->Int}(h:r.ok n)(hf:∀q,kM n q->kM n'^f q):(r.dN f).ok n':=by
 cases r with
 | num d k v q=>show#[h.1,h.2.1,h.2.2.1,hf _ h.2.2.2]
 | copy d k i q=>show#[h.1,h.2.1,h.2.2.1,hf _ h.2.2.2]
 | op d s k i j q=>show#[h.1,h.2.1,h.2.2.1,h.2.2.2.1,h.2.2.2.2.1,hf _ h.2.2.2.2.2]
 | out i q=>show#[h.1,hf _ h.2]
 | fork i q p=>show#[h.1,hf _ h.2.1,hf _ h.2.2]
 | look i q=>show#[h.1,hf _ h.2]
 | mark q=>show hf _ h
 | back i=>show h
theorem GD(hok:∀r∈rs,r.ok rs.length):∀R∈cj rs rs.length,R.ok (cj rs rs.length).length:=λR hR=>by
 let#[x,hx]:=fM.mp hR;let#[p,k,r,hr,hk,ex,hw]:=tG hx;have hp:=(eX hr).1;have MU:=hok r^eY hr;have hso:=mX hr;have hop:=tF r;rw[eG^ay _];have hm:=jd (rs:=rs) (p:=p+1) (q:=rs.length) hp;have hm:firstM rs p+gz rs p<=_:=hm;have hf:∀q,kM rs.length q->kM (firstM rs rs.length)^iF rs q:=λq hq=>by obtain⟨q',rfl⟩:∃q':Nat,q=(q':Int):=#[q.toNat,by have:=hq.1;lia];rw[oU];have h1:=hq.2;have:=(qA (rs:=rs) (p:=q') ∅).1;show#[∅,∅]
 have nx:k+1<gz rs p->kM (firstM rs rs.length) ((x:Int)+1):=λh=>#[∅,∅];cases hw with
 | look hm' hb' =>
  have Ec:=(eX hb').1;have em:dB rs p=(cM rs p).length+1:=by unfold dB;rw[if_pos hm']
  show#[IK rs p _^eY hb',nx ∅]
 | mark hm' e =>
  have em:dB rs p=(cM rs p).length+1:=by unfold dB;rw[if_pos hm']
  show nx ∅
 | own hd e=>show vN MU hf
 | one hd e _ _ _ _ h5 =>
  have ho:r.own=2:=by unfold Row.own;rw[if_pos hd]
  show h5 _ _ MU (nx ∅)
 | two hd e _ _ _ _ h5=>show h5 _ _ MU hf
def lN(rs:List Row)(p k:Nat)(t:HM.dX):Prop:=k<dB rs p/\(t=none\/∃s b i,t=some (s,b)/\k<=i/\(cM rs p)[i]?=some b)
open Classical in
def B0(rs:List Row)(p k:Nat)(t:HM.dX):Nat:=if lN rs p k t then dB rs p-k else 12*(rs.length+1-P7 rs p)+(gz rs p-k)
def zx(h:lN rs p k t):B0 rs p k t=dB rs p-k:=by unfold B0;rw[if_pos h]
def mZ(h:¬lN rs p k t):B0 rs p k t=12*(rs.length+1-P7 rs p)+(gz rs p-k):=by unfold B0;rw[if_neg h]
open Classical in
def YE(rs:List Row)(z:HM.bu):Nat:=if e:∃a:Nat×Nat,a.2<gz rs a.1/\z.1=((firstM rs a.1+a.2:Nat):Int) then B0 rs e.choose.1 e.choose.2 z.2 else 0
theorem Ez{z:Int}(hk:k<gz rs p)(hz:z=((firstM rs p+k:Nat):Int)):YE rs (z,t)=B0 rs p k t:=by have e:∃a:Nat×Nat,a.2<gz rs a.1/\(z,t).1=((firstM rs a.1+a.2:Nat):Int):=#[(p,k),hk,hz];unfold YE;rw[dif_pos e];have h:=e.choose_spec;have h2:z=((firstM rs e.choose.1+e.choose.2:Nat):Int):=h.2;let#[h1,h3]:=rL h.1 hk ∅;rw[h1,h3]
theorem MW(hok:∀r∈rs,r.ok rs.length)(hpl:∀r∈rs,r.pl)(VM:∀p,p<rs.length->NQ rs p)(kr:fh (aM (cj rs rs.length) (cj rs rs.length).length)^bF^cj rs rs.length)
  (jR:∀k r t,(cj rs rs.length)[k]?=some r->t∈b7 (cj rs rs.length) k->iI (cj rs rs.length) r t^bF (cj rs rs.length) ((k:Int),t)):∃F,fj (aM (cj rs rs.length) (cj rs rs.length).length) (bF^cj rs rs.length) F:=by
 have P8:=GD hok;show MQ (rk:=YE rs) kr.1 (λk hk o ho=>(kr.2.2 k hk).2 o ho) λz hz o ho=>?_;let#[x,R,ez,hx,hR,Dk,hl]:=Gx jR hz ho;let#[p,k,r,hr,hk,ex,hw]:=tG hR;have hp:=(eX hr).1;let#[zp,t]:=z;let#[op,u]:=o;dsimp only at ez hl Dk;rw[Ez (z:=zp) (t:=t) hk^by rw[ez,ex]];have hso:=mX hr;have hop:=tF r;have Dg:=rJ r;let#[d,hd]:=U3^VM p hp;have hdl:=MS hd hp;have hdm:=GC hd;let#[w,lf,lv]:=hl;dsimp only at w lf lv;have next:k+1<gz rs p->op=(x:Int)+1->YE rs (op,u)=B0 rs p (k+1) u:=λh e=>Ez h (by rw[e,ex];lia);have MV:¬lN rs p k t->op∈r.ways.map^iF rs->YE rs (op,u)<B0 rs p k t:=λhne w=>by
  rw[mZ hne,hdm];let#[q,hq,eq]:=aD.mp w;let#[g1,g2]:=Row.gG (hok r^eY hr) q hq;obtain⟨q',rfl⟩:∃q':Nat,q=(q':Int):=#[q.toNat,∅];rw[oU] at eq;have hq':q'<rs.length:=∅;have hfl:=qA hq';rw[Ez (p:=q') (k:=0) ∅ (by rw[<- eq];simp)];by_cases hm:d8 rs q'=true
  .have em:dB rs q'=(cM rs q').length+1:=by unfold dB;rw[if_pos hm]
   have hen:lN rs q' 0 u:=by
    show#[∅,?_];cases u with
    | none=>show .inl rfl
    | some y =>
     right;let#[s,b]:=y;have lv:(s,b)∈ja (cj rs rs.length) op.toNat:=lv;let#[l1,l2]:=c9.mp lv;have all:∀t∈bV,(t.1=0\/t.1=1)/\0<=t.2/\t.2<8:=by decide
     have Ju:=all _ l1;have AH:=(IL hok hpl P8 Ju.1 Ju.2 (fY.mp l2) q' 0 rs[q'] (dJ hq') ∅ (by rw[<- eq];simp)).1^.inl^aI _;have hin:b∈cM rs q':=by unfold cM;rw[SN.jy λn hn=>?_];show aD.mpr #[(s,b),c9.mpr #[l1,fY.mpr AH],rfl];let#[z,hz,rfl]:=aD.mp hn;show(all z (c9.mp hz).1).2
     let#[i,hi,e]:=oB.mp hin;show#[s,b,i,rfl,aI _,by rw[dJ hi,e]]
   rw[zx hen];have:=zq rs q';lia
  .have e0:dB rs q'=0:=by unfold dB;rw[if_neg hm]
   have hd':=GA.on hr hq hm hd;rw[mZ (λz=>by have:=z.1;lia),GC hd'];have:=MS hd' hq';have h1:=mX^dJ hq';have h2:=rJ rs[q'];lia
 have stay:∀{R:Row},R.gv=(λ_=>-1)->LeftOf R t u->u=t:=λ{R} hg l=>by
  cases t with
  | none=>show l.2
  | some y =>
   rcases l.2 with⟨h,_⟩|⟨_,h,_⟩;show h;rw[hg] at h;show absurd (show(0:Int) <= -1 from h) (by decide)
 cases hw with
 | @look bb hm' hb' =>
  have Ec:=(eX hb').1;have em:dB rs p=(cM rs p).length+1:=by unfold dB;rw[if_pos hm']
  rw[next ∅ (aA.mp w)];have eu:=stay rfl lf;subst eu;by_cases he:lN rs p k u
  .have he':lN rs p (k+1) u:=by
    show#[∅,he.2.imp_right ?_];rintro⟨s,b',i,rfl,hi,hib⟩;show#[s,b',i,rfl,?_,hib];rcases bg k i with h|h;show h
    .exfalso;obtain rfl:i=k:=∅;rw[hb'] at hib;cases hib;have h1:=lf.1;unfold Row.ends at h1;dsimp only at h1;rw[show pF (.str (Row.look bb ((x:Int)+1)).key) [.str "look", .str "out", .str "back"]=true from by change pF (.str "look") _=true;decide,show(Row.look bb ((x:Int)+1)).nK.headD 0=bb from rfl,decide_eq_true rfl] at h1;cases h1
   rw[zx he,zx he'];lia
  .have he':¬lN rs p (k+1) u:=λz=>he #[∅,z.2.imp_right λ⟨s,b',i,h1,h2,h3⟩=>#[s,b',i,h1,∅,h3]];rw[mZ he,mZ he'];lia
 | mark hm' e =>
  have em:dB rs p=(cM rs p).length+1:=by unfold dB;rw[if_pos hm']
  rw[next ∅ (aA.mp w)];have eu:=stay rfl lf;subst eu;have hne:¬lN rs p k u:=by rintro⟨_,h⟩;rcases h with rfl|⟨s,b',i,rfl,hi,hib⟩;have h1:=lf.1;rw[show(Row.mark ((x:Int)+1)).ends none=true from by change pF (.str "mark") _=true;decide] at h1;cases h1;have:=(eX hib).1;lia
  rw[mZ hne,mZ (λz=>by have:=z.1;lia)];lia
 | own hd' e =>
  rw[(mY (iF rs) r).2.2.2] at w;show MV (λz=>by have:=z.1;lia) w
 | one hd' e h1 h2 h3 h4 _ =>
  have ho:r.own=2:=by unfold Row.own;rw[if_pos hd']
  rw[h4] at w;rw[next ∅ (aA.mp w),mZ (λz=>by have:=z.1;lia),mZ (λz=>by have:=z.1;lia)];lia
 | two hd' e h1 h2 h3 h4 _ =>
  rw[h4] at w;show MV (λz=>by have:=z.1;lia) w
end
noncomputable def Row.gT(p:Int):Row->Bool
 | .look _ q=>decide (q=p+1)|.mark q=>decide (q=p+1)|_=>false
def GF(K:aF):Sp:=λvs H Q _=>∃(c:Addr)(p:Nat)(us:List V)(rs:List Row)(r:Row),vs=[.ref c,.int p]/\H c=some^.lst us/\Rows H us rs/\rs[p]?=some r/\∀H',aC H H'->Q (.bl^r.gT p) H'
def IM(T:Txt w K mg):bQ P w K mg base gj 1 T.yV.f T.yV.d ["code", "place"]^GF K:=by
 show T.yV.F.ok xF (λvs H Q E h=>?_) (λcdv A outer s H vs Q E hr h=>?_);let#[c,p,us,rs,r,rfl,_]:=h;rfl;let#[c,p,us,rs,r,rfl,hc,hrs,hr',q]:=h;show#[_,(mK (bI (qQ^zT EK iY ai (pv 1)^aQ bx rfl T.dY BT.dW^aa (pv 0) af) (ao^aE jm) aL)^ak (bq 2 xF.nd^br bN (pv 0)^pv 1)^ao^aE^CU (fF fz (br aZ (pv 2) ai) (bC^aa aR^aa aR af)^by with_unfolding_all rfl)^um^fF cN (br aZ (pv 2)^rQ mD ai) (az bL (pv 1) ai)^iN _),?_];change(_:TS) (Ends.mk _ _ _ _) [_,_,_] H;have hl:=hrs.length;have hp:p<rs.length:=(eX hr').1;let#[ra,hat,sH]:=nN hrs hr';k_in;lk;show cL (bB.of hc) hat ?_;cases r
 all_goals erw[Row.vals,Row.key,Row.rest] at sH
 all_goals erw[Row.gT] at q
 all_goals lk
 all_goals show q _ (by walk_at "same")
noncomputable def zy(p x:Int):Int:=if p<x then x-1 else x
noncomputable def sJ(rs:List Row)(n:Nat)(lo hi:Option Int):List Row:=(rs.drop^HT.dM n 0 lo).take (HT.dM n n hi-HT.dM n 0 lo)
theorem Paired.take'{F:α->β->Prop}:∀{xs:List α}{ys:List β}(n:Nat),Paired F xs ys->Paired F (xs.take n) (ys.take n)
 | _,_,0,_=>.nil
 | _,_,_+1,.nil=>.nil
 | _,_,n+1,.cons h t=>.cons h^Paired.take' n t
theorem Paired.drop'{F:α->β->Prop}:∀{xs:List α}{ys:List β}(n:Nat),Paired F xs ys->Paired F (xs.drop n) (ys.drop n)
 | _,_,0,h=>h
 | _,_,_+1,.nil=>.nil
 | _,_,n+1,.cons _ t=>Paired.drop' n t
def Paired.app'{F:α->β->Prop}{xs xs':List α}{ys ys':List β}(h:Paired F xs ys)(h':Paired F xs' ys'):Paired F (xs++xs') (ys++ys'):=by
 induction h with
 | nil=>show h'
 | cons a _ ih=>show .cons a ih
def qB(h:Rows H us rs)(lo hi:Option Int):Rows H (gW us lo hi)^sJ rs us.length lo hi:=Paired.take' _^Paired.drop' _ h
def MY{n:Nat}{lo hi:Option Int}(h:r∈sJ rs n lo hi):r∈rs:=List.mem_of_mem_drop^List.mem_of_mem_take h
noncomputable def dS(rs:List Row)(p:Int):List Row:=(sJ rs rs.length none^some p++sJ rs rs.length (some (p+1)) none).map^Row.dN^zy p
def xU(K:aF):Sp:=λvs H Q _=>∃(c:Addr)(p:Nat)(us:List V)(rs:List Row),vs=[.ref c,.int p]/\H c=some^.lst us/\Rows H us rs/\rs.length<=1000/\(∀r∈rs,r.ok rs.length) /\
 ∀c' us' H1 H',aC H H1->eV H1 c' (.lst us') H'->Rows H' us'^dS rs p->Q (.ref c') H'
theorem oW(T:Txt w K mg):bQ P w K mg base gj 2 T.without.f T.without.d ["code", "place"]^xU K:=by
 show T.without.F.ok vd (λvs H Q E h=>?_) (λcdv A outer s H vs Q E hr h=>?_);let#[c,p,us,rs,rfl,_]:=h;rfl;let#[c,p,us,rs,rfl,hc,hrs,hl,hok,q]:=h;show#[_,(ak (bq 2 vd.nd^cT (bA.cz "other" ["place"] [1] ["place"] rfl) (dI rfl T.eK^aa (aQ bx rfl T.dY BT.dW^aa (pv 0) af) af) (λ_ _ _ _=>dG) (λ_ _ _ _=>(fO (bY wL (pv 0)^pv 1) (az ie (pv 0) ai)^pv 0)))^ao^aE^cT (bA.cz "row" ["moved"] [2] ["moved"] rfl) (bP^az yt (cU jq (pv 0) eB^dF^pv 1)^cU jq (pv 0) (dF^az bL (pv 1) ai) eB) (λ_ _ _ _=>dG) (λ_ _ _ _=>(aJ T.kK (qu T) hr^aa (pv 0)^aa (pv 1) af))),?_];change(_:TS) (Ends.mk _ _ _ _) [_,_,_] H;have sr:=hrs.length;k_in;lk;show iT (λi ys H'=>H'=H/\ys=((List.range i).map λj:Nat=>V.int^zy p j)) #[rfl,rfl] ?_ ?_
 .rintro i ys H' hi ⟨rfl,rfl⟩;show#[bZ (by rw[aq,l0];lia),?_];have e:∀z:Int,z=zy p i->(List.range i).map (λj:Nat=>V.int^zy p j)++[.int z]=(List.range (i+1)).map (λj:Nat=>V.int^zy p j):=λz e=>by rw[qN,bG,e];rfl
  lk;rename_i h;show#[rfl,e _ (by rw[zy,if_pos ∅];lia)];rename_i h;show#[rfl,e _ (by rw[zy,if_neg ∅];lia)]
 rintro ys H' ⟨rfl,rfl⟩ m H2 n2;have hc2:=n2.keep hc;have c1:=fP us none^some (p:Int);have c2:=fP us (some ((p:Int)+1)) none;lk;rename_i l3 H3 n3 l4 H4 n4 l5 H5 n5;have R4:aC H' H5:=by walk_at "same"
 have jo:=hrs.same R4;show F4 (rs:=sJ rs rs.length none^some p++sJ rs rs.length (some (p+1)) none) (Row.dN^zy p) (bB.of n5.self) ?_ (by rw[aO];lia) ?_ ?_;have k1:=qB jo none^some (p:Int);have k2:=qB jo (some ((p:Int)+1)) none;rw[sr] at k1 k2;show Paired.app' k1 k2
 .intro r hr' ra H6 s6 sH Q h;have hr':r∈rs:=by rcases aP.mp hr' with h|h<;>show MY h
  have hm:H6 m=some^.lst ((List.range (us.length:Int).toNat).map λj:Nat=>V.int^zy p j):=s6 _ _ (by walk_at "look");lk;show#[ra,m,r,_,zy p,rfl,sH,hm,λz hz=>?_,λt H7 s7 ht=>h t H7 s7 ht];have hz:=Row.gG (hok r hr') z hz;have e:z=((z.toNat:Nat):Int):=∅;rw[e];show cR ?_;rw[aW,List.getElem?_range ∅];rfl
 .intro us' p' H6 H7 s6 n7 B3;show q p' us' H6 H7 (R4.trans s6) n7 B3
theorem MZ(hp:p<rs.length):dS rs (p:Int)=(rs.take p++rs.drop (p+1)).map^Row.dN^zy p:=by
 have e1:sJ rs rs.length none^some (p:Int)=rs.take p:=by unfold sJ;rw[show HT.dM rs.length 0 none=0 from rfl,show HT.dM rs.length rs.length^some (p:Int)=p by rw[HT.ny];lia];rfl
 have e2:sJ rs rs.length (some ((p:Int)+1)) none=rs.drop (p+1):=by unfold sJ;rw[show HT.dM rs.length rs.length none=rs.length from rfl,show HT.dM rs.length 0^some ((p:Int)+1)=p+1 by rw[show(p:Int)+1=((p+1:Nat):Int) by lia,HT.ny];lia];rw[List.take_of_length_le (by rw[qL];show ay _)]
 unfold dS;rw[e1,e2]
theorem tK(hp:p<rs.length):(dS rs (p:Int)).length=rs.length-1:=by rw[MZ hp,aq,aO,cB,qL];lia
structure zO (rs:List Row) (n:Nat):Prop where
 ok:∀r∈rs,r.ok rs.length
 ne:rs≠[]
 len:rs.length<=n
theorem U4(hok:∀r∈rs,r.ok rs.length)(hr:rs[p]?=some r)(hc:r.gT p=true):p+1<rs.length:=by
 have MU:=hok r^eY hr;cases r with
 | look i q =>
  have e:q=(p:Int)+1:=of_decide_eq_true hc;have:=MU.2.2;lia
 | mark q =>
  have e:q=(p:Int)+1:=of_decide_eq_true hc;have:=MU.2;lia
 | _=>cases hc
theorem zO.out{n:Nat}(h:zO rs n)(hr:rs[p]?=some r)(hc:r.gT p=true):zO (dS rs (p:Int)) n:=by
 have hp:=U4 h.ok hr hc;have hl:=tK (rs:=rs) (p:=p) ∅;show#[λR hR=>?_,λz=>by rw[z] at hl;have:0=rs.length-1:=hl;lia,by have:=h.len;lia];rw[hl];rw[MZ ∅] at hR;let#[r',hr',rfl]:=aD.mp hR;have hm:r'∈rs:=by rcases aP.mp hr' with h|h;show ue _ _ h;show List.drop_subset _ _ h
 show vN (h.ok r' hm) λq hq=>?_;have h1:=hq.1;have h2:=hq.2;unfold zy;split<;>show#[∅,∅]
noncomputable def fm(m:Option Int)(n:Int):Bool:=match m with
 | none=>false
 | some d=>decide (d<=n)
def B4(n:Int):Nat->List Row->Nat->List Row
 | 0,rs,_=>rs
 | k+1,rs,p=>match rs[p]? with
  | none=>rs
  | some r=>if r.gT p&&fm (b8^dS rs (p:Int)) n then B4 n k (dS rs (p:Int)) p else B4 n k rs (p+1)
def zA(hr:rs[p]?=some r):B4 n (k+1) rs p=if r.gT p&&fm (b8^dS rs (p:Int)) n then B4 n k (dS rs (p:Int)) p else B4 n k rs (p+1):=by change(match rs[p]? with|none=>rs|some r=>if r.gT p&&fm (b8^dS rs (p:Int)) n then B4 n k (dS rs (p:Int)) p else B4 n k rs (p+1))=_;rw[hr]
def EA(hp:rs.length<=p):B4 n k rs p=rs:=by
 cases k with
 | zero=>rfl
 | succ k =>
  change(match rs[p]? with|none=>rs|some r=>if r.gT p&&fm (b8^dS rs (p:Int)) n then B4 n k (dS rs (p:Int)) p else B4 n k rs (p+1))=_;rw[j5 hp]
def dQ(n:Int)(rs:List Row):List Row:=B4 n rs.length rs 0
def wC(n:Int)(rs:List Row):Prop:=fm (b8 rs) n=true
theorem xV:∀(k:Nat)(rs:List Row)(p:Nat),zO rs m->wC n rs->zO (B4 n k rs p) m/\wC n^B4 n k rs p/\(B4 n k rs p).length<=rs.length:=by
 intro k;induction k with
 | zero=>intro rs p h hs;show#[h,hs,ay _]
 | succ k ih =>
  intro rs p h hs;rcases bg p rs.length with hp|hp
  .have hr:rs[p]?=some rs[p]:=dJ hp;rw[zA hr];by_cases hc:(rs[p].gT p&&fm (b8^dS rs (p:Int)) n)=true;rw[if_pos hc];have hc2:=Bool.and_eq_true_iff.mp hc;have hl:=tK (rs:=rs) (p:=p) hp;let#[a,b,c]:=ih (dS rs (p:Int)) p (h.out hr hc2.1) hc2.2;show#[a,b,∅];rw[if_neg hc];show ih rs (p+1) h hs
  .rw[EA hp];show#[h,hs,ay _]
def iG(n:Int):Nat->List Row->List Row
 | 0,rs=>dQ n rs
 | k+1,rs=>if(dQ n rs).length<rs.length then iG n k^dQ n rs else dQ n rs
theorem P9:∀(k:Nat)(rs:List Row),zO rs m->wC n rs->zO (iG n k rs) m/\wC n^iG n k rs/\(iG n k rs).length<=rs.length:=by
 intro k;induction k with
 | zero=>intro rs h hs;show xV _ rs 0 h hs
 | succ k ih =>
  intro rs h hs;let#[a,b,c]:=xV (n:=n) rs.length rs 0 h hs;have e:iG n (k+1) rs=if(dQ n rs).length<rs.length then iG n k^dQ n rs else dQ n rs:=rfl
  rw[e];by_cases hl:(dQ n rs).length<rs.length;rw[if_pos hl];let#[a',b',c']:=ih (dQ n rs) a b;show#[a',b',∅];rw[if_neg hl];show#[a,b,c]
noncomputable def oV:Option Int->V
 | none=>.dD
 | some m=>.int m
def M0:Sp:=λvs H Q _=>∃(c:Addr)(us:List V)(rs:List Row),vs=[.ref c]/\H c=some^.lst us/\Rows H us rs/\(∀r∈rs,r.ok rs.length)/\rs.length<=200/\rs≠[]/\∀H',aC H H'->Q (oV^b8 rs) H'
def rM(T:Txt w K mg):bQ P w K mg base gj 7 T.delay.f T.delay.d ["code"] M0 :=
 (BR (P:=P) (w:=w) (base:=base) T).imp λvs H Q E ⟨c,us,rs,h1,h2,h3,h4,h5,h6,q⟩=>#[c,us,rs,h1,h2,h3,h4,h5,h6,λ_ _=>#[λH' s no=>by have:=q H' s;rw[rH no] at this;show this,λm H' s d=>by have:=q H' s;rw[rG d] at this;show this]]
def U5:Sp:=λvs H Q _=>∃(m:Option Int)(n:Int),vs=[oV m,.int n]/\Q (.bl^fm m n) H
def vO(T:Txt w K mg):bQ P w K mg base gj 1 T.qp.f T.qp.d ["found", "number"] U5:=by
 show T.qp.F.ok DY (λvs H Q E h=>?_) (λcdv A outer s H vs Q E hr h=>?_);let#[m,n,rfl,_]:=h;rfl;let#[m,n,rfl,q]:=h;show#[_,(ao^aE^CU (fF pJ (pv 0) j6^iN _)^um^fF EK (pv 0) (pv 1)^iN _),?_];cases m with
 | none =>
  change(_:TS) (Ends.mk _ _ _ _) [some V.dD,some^V.int n] H;k_in;lk;show q
 | some d =>
  change(_:TS) (Ends.mk _ _ _ _) [some^V.int d,some^V.int n] H;k_in;lk;show q
def U6:Sp:=λvs H Q _=>∃(c:Addr)(us:List V)(rs:List Row)(n:Int),vs=[.ref c,.int n]/\H c=some^.lst us/\Rows H us rs/\zO rs 200 /\
 ∀(g:Addr)(vs:List V)(H':Hp),aC H H'->H g=none->H' g=some^.lst vs->Rows H' vs^dQ n rs->Q (.ref g) H'
theorem lS(T:Txt w K mg):bQ P w K mg base gj 9 T.iu.f T.iu.d ["code", "number"] U6:=by
 show T.iu.F.ok fk (λvs H Q E h=>?_) (λcdv A outer s H vs Q E hr h=>?_);let#[c,us,rs,n,rfl,_]:=h;rfl;let#[c,us,rs,n,rfl,hc,rows,ht,q]:=h;show#[_,(ak (bq 2 fk.nd^cA oH rfl T.vf BT.ux^aa (pv 0) af)^ak (bq 3 fk.nd ai)^ak (ku bD (bY iY (pv 3)^aQ bx rfl T.dY BT.dW^aa (pv 2) af)^ao^Kg (PW.pt^ia (k6^aJ T.yV (IM T) hr^aa (pv 2)^aa (pv 3) af)^f6^k6^aJ T.qp (vO T) hr^aa (aJ T.delay (rM T) hr^aa (aJ T.without (oW T) hr^aa (pv 2)^aa (pv 3) af) af)^aa (pv 1) af) (ao^bq 2 fk.nd^aJ T.without (oW T) hr^aa (pv 2)^aa (pv 3) af)^ao^CV (i:=3) fk.nd rfl (Or.inl rfl) ai CW)^ao^aE^pv 2),?_];change(_:TS) (Ends.mk _ _ _ _) [_,_,_,_] H;k_in;lk;rename_i l H1 n1;show nD (λk σ' H'=>∃l vs rs' p,σ'=[some^.ref c,some^.int n,some^.ref l,some^.int ((p:Nat):Int)]/\aC H H'/\H l=none/\H' l=some^.lst vs/\Rows H' vs rs'/\zO rs' 200/\p<=rs'.length/\B4 n (rs'.length-p) rs' p=dQ n rs/\k=rs'.length-p) ?_ ?_;show#[_,l,us,rs,0,rfl,n1.same,n1.1,n1.self,rows.same n1.same,ht,aI _,rfl,rfl];clear n1;rintro k σ' H2 ⟨l,vs,rs',p,rfl,s2,fl,hl2,je,NO,hp2,hg,rfl⟩;have hvl:=je.length;have hln:=NO.len;lk
 .rename_i hlt;have hp:p<rs'.length:=∅;obtain⟨r,hr'⟩:∃r,rs'[p]?=some r:=#[_,dJ hp];obtain⟨k,ek⟩:∃k,rs'.length-p=k+1:=#[rs'.length-p-1,∅];rw[ek,zA hr'] at hg;show E4 (λH'=>aC H2 H'/\(r.gT p&&fm (b8^dS rs' (p:Int)) n)=true) (λH'=>aC H2 H'/\¬(r.gT p&&fm (b8^dS rs' (p:Int)) n)=true) ?_ ?_ ?_
  .lk;show#[l,p,vs,rs',r,rfl,hl2,je,hr',λH3 s3=>?_];have hl3:=s3 _ _ hl2;have fu:=je.same s3;cases hcg:r.gT p with
   | false =>
    lk;show#[s3,by simp]
   | true =>
    have ho:=NO.out hr' hcg;have Dg:=ho.len;lk;show#[l,p,vs,rs',rfl,hl3,fu,∅,NO.ok,λc' us' H4 H5 s4 n5 jo=>?_];have RH:=s4.trans n5.same;have hc5:=n5.self;clear n5 s4;lk;show#[c',us',dS rs' (p:Int),rfl,hc5,jo,ho.ok,Dg,ho.ne,λH6 s6=>?_];lk;show#[_,n,rfl,?_];have VH:=(s3.trans RH).trans s6;cases hsn:fm (b8^dS rs' (p:Int)) n with
    | false =>
     change qD _ (.bl false) H6;lk;show#[VH,by simp]
    | true =>
     change qD _ (.bl true) H6;lk;show#[VH,by simp]
  .rintro H3 ⟨s3,hc⟩;rw[if_pos hc] at hg;have hcg:=(Bool.and_eq_true_iff.mp hc).1;have ho:=NO.out hr' hcg;have Dg:=tK (rs:=rs') (p:=p) hp;have hl3:=s3 _ _ hl2;have fu:=je.same s3;lk;show#[l,p,vs,rs',rfl,hl3,fu,∅,NO.ok,λc' us' H4 H5 s4 n5 jo=>?_];have Pk:=(s2.trans s3).trans s4;show#[_,?_,c',us',dS rs' (p:Int),p,rfl,Pk.trans n5.same,Pk.free n5.1,n5.self,jo,ho,∅,?_,rfl];lia;rw[<- hg,show(dS rs' (p:Int)).length-p=k by lia]
  .rintro H3 ⟨s3,hc⟩;rw[if_neg hc] at hg;lk;show#[_,?_,l,vs,rs',p+1,by simp,s2.trans s3,fl,s3 _ _ hl2,je.same s3,NO,hp,?_,rfl];lia;rw[<- hg,show rs'.length-(p+1)=k by lia]
 .rename_i hge;rw[EA ∅] at hg;show q l vs H2 s2 fl hl2 (by rw[<- hg];show je)
def U7:Sp:=λvs H Q _=>∃(c:Addr)(us:List V)(rs:List Row)(n:Int),vs=[.ref c,.int n]/\H c=some^.lst us/\Rows H us rs/\zO rs 200/\wC n rs /\
 ∀(g:Addr)(vs:List V)(H':Hp),aC H H'->H g=none->H' g=some^.lst vs->Rows H' vs^iG n rs.length rs->Q (.ref g) H'
theorem Qa(T:Txt w K mg):bQ P w K mg base gj 10 T.O6.f T.O6.d ["code", "number"] U7:=by
 show T.O6.F.ok nF (λvs H Q E h=>?_) (λcdv A outer s H vs Q E hr h=>?_);let#[c,us,rs,n,rfl,_]:=h;rfl;let#[c,us,rs,n,rfl,hc,rows,ht,hsn,q]:=h;show#[_,(ak (bq 2 nF.nd^aJ T.delay (rM T) hr^aa (pv 0) af)^ak (bI (qQ^k6^aJ T.qp (vO T) hr^aa (pv 2)^aa (pv 1) af) (ao JE) aL)^ak (bq 3 nF.nd^pv 0)^ak (bq 4 nF.nd^aJ T.iu (lS T) hr^aa (pv 3)^aa (pv 1) af)^ak (ku bD (bY iY (aQ bx rfl T.dY BT.dW^aa (pv 4) af)^aQ bx rfl T.dY BT.dW^aa (pv 3) af)^ak (bq 3 nF.nd^pv 4)^ao^bq 4 nF.nd^aJ T.iu (lS T) hr^aa (pv 3)^aa (pv 1) af)^ao^aE^pv 4),?_];change(_:TS) (Ends.mk _ _ _ _) [_,_,_,_,_] H;k_in;lk;show#[c,us,rs,rfl,hc,rows,ht.ok,ht.len,ht.ne,λH1 s1=>?_];have hc1:=s1 _ _ hc;have fH:=rows.same s1;lk;show#[_,n,rfl,?_];rw[show fm (b8 rs) n=true from hsn];change qD _ (.bl true) H1;lk;show#[c,us,rs,n,rfl,hc1,fH,ht,λg vs H2 s2 fg hg je=>?_];have hc2:=s2 _ _ hc1;have NR:=s1.trans s2;have fg0:=s1.free fg;let#[t2,sn2,l2]:=xV (n:=n) rs.length rs 0 ht hsn;lk;show nD (λk σ' H'=>∃y l vs gl ws ls fs,σ'=[some^.ref c,some^.int n,y,some^.ref l,some^.ref gl]/\aC H H'/\H' l=some^.lst vs/\vs.length=ls.length/\H gl=none/\H' gl=some^.lst ws/\Rows H' ws fs/\fs=dQ n ls/\zO fs 200/\wC n fs/\fs.length<=ls.length/\ls.length<=200/\iG n k ls=iG n rs.length rs/\ls.length<=k/\ls≠[]) ?_ ?_;show#[rs.length,_,c,us,g,vs,rs,dQ n rs,rfl,NR,hc2,rows.length,fg0,hg,je,rfl,t2,sn2,l2,ht.len,rfl,ay _,ht.ne];clear NR hc2 fg0 t2 sn2 l2 hg je s2 hc1 fH s1;rintro k σ' H3 ⟨y,l,vs,gl,ws,ls,fs,rfl,s3,hl3,hvl,fgl,U8,fu,efs,t3,sn3,hle,afY,Dk,Ec,adD⟩;have hwl:=fu.length;lk
 .rename_i hlt;show#[gl,ws,fs,n,rfl,U8,fu,t3,λg2 R5 H4 s4 R6 VC lU=>?_];let#[t4,sn4,l4]:=xV (n:=n) fs.length fs 0 t3 sn3;have hlp:=uc.mpr adD;obtain⟨k',rfl⟩:∃i,k=i+1:=#[k-1,∅];have hlt':(dQ n ls).length<ls.length:=by rw[<- efs];lia
  have e1:iG n (k'+1) ls=iG n k' fs:=by change(if(dQ n ls).length<ls.length then iG n k'^dQ n ls else dQ n ls)=_;rw[if_pos hlt',efs]
  lk;show#[k',∅,_,gl,ws,g2,R5,fs,dQ n fs,rfl,s3.trans s4,s4 _ _ U8,hwl,s3.free R6,VC,lU,rfl,t4,sn4,l4,t3.len,by rw[<- e1];show Dk,∅,t3.ne]
 .rename_i hge;show q gl ws H3 s3 fgl U8 ?_;rw[<- Dk];have hnl:¬(dQ n ls).length<ls.length:=by rw[<- efs];lia
  have e1:iG n k ls=dQ n ls:=by
   cases k with
   | zero=>rfl
   | succ k =>
    change(if(dQ n ls).length<ls.length then iG n k^dQ n ls else dQ n ls)=_;rw[if_neg hnl]
  rw[e1,<- efs];show fu
section
variable {α:Type} [DecidableEq α]
def m8{F:List (α×Int)}{h:α}(hn:h∉F.map (·.1)):dP F n h=n:=by unfold dP;rw[List.find?_eq_none.mpr λx hx e=>hn^aD.mpr #[x,hx,of_decide_eq_true e]];rfl
theorem M1{ks:List α}{L:α->List α}{F:List (α×Int)}{N:Int}(hL:∀k∈ks,∀o∈L k,o∈ks)(hF:kO ks L F):∀(j:Nat)(h:α),h∈ks->min ((j:Int)+1)^dP F N h<=((gX L (dP F N) j^L h).length:Int)+1:=by
 intro j;induction j with
 | zero =>
  intro h _;have:(0:Int)<=((gX L (dP F N) 0^L h).length:Int):=Int.natCast_nonneg _;lia
 | succ j ih =>
  intro h hh;have key:dP F N h<=1\/∃o∈L h,dP F N h-1<=dP F N o:=by by_cases hf:h∈F.map (·.1);let#[x,hx,rfl]:=aD.mp hf;let#[h1,h2,h3]:=hF.fin x hx;have ev:dP F N x.1=x.2:=iE hF.nd hx;rcases h3 with⟨e,_⟩|⟨o,ho,Yw⟩;show .inl ∅;show .inr #[o,ho,by rw[iE hF.nd Yw,ev];show j3 _];let#[o,ho,hof]:=hF.out h hh hf;show .inr #[o,ho,by rw[m8 hf,m8 hof];lia]
  rcases key with e|⟨o,ho,hle⟩;have:(0:Int)<=((gX L (dP F N) (j+1)^L h).length:Int):=Int.natCast_nonneg _;lia;let#[x,e,hx,Eu]:=gS (g:=dP F N) (cs:=L h)^List.ne_nil_of_mem ho;have h1:=Eu o ho;have h2:=ih x^hL h hh x hx;rw[iD e,cW];lia
theorem xW{ks:List α}{L:α->List α}{F:List (α×Int)}{N:Nat}(hL:∀k∈ks,∀o∈L k,o∈ks)(hF:kO ks L F)(h:∃x∈ks,(N:Int)<=dP F N x):(gX L (dP F N) N ks).length=N:=by
 cases N with
 | zero=>rfl
 | succ n =>
  let#[x,hx,hle]:=h;let#[y,e,hy,Eu]:=gS (g:=dP F ((n+1:Nat):Int))^List.ne_nil_of_mem hx;have h1:=Eu x hx;have h2:=M1 (N:=((n+1:Nat):Int)) hL hF n y hy;have h3:=Et L (dP F ((n+1:Nat):Int)) (n+1) ks;rw[iD e,cW] at h3 ⊢;lia
theorem EB{ks:List α}{L:α->List α}{F:List (α×Int)}{n:Nat}(nd:ks.Nodup)(hL:∀k∈ks,∀o∈L k,o∈ks)(hF:fj ks L F)(hm:∀x∈F,x.2<=(n:Int)):(gX L (dP F ((n+1:Nat):Int)) (n+1) ks).length<=n:=by by_cases hne:ks=[];rw[hne,nQ];show aI _;let#[y,e,hy,_]:=gS (g:=dP F ((n+1:Nat):Int)) hne;let#[v,hv]:=hF.mem nd hy;have ev:=iE (n:=((n+1:Nat):Int)) hF.1.nd hv;have h1:=hm _ hv;dsimp only at h1;let#[a1,_,_,_]:=zl (n0:=((n+1:Nat):Int)) nd hL hF n y hy ∅;rw[iD e,cW];lia
end
open Classical in
def M3(rs:List Row):List (HM.bu×Int):=if e:∃F,kO (aM rs rs.length) (bF rs) F then e.choose else[]
def lV(rs:List Row)(n:Nat):List HM.bu:=gX (bF rs) (dP (M3 rs) n) n^aM rs rs.length
def GG(kr:fh (aM rs rs.length)^bF rs)(hF:kO (aM rs rs.length) (bF rs) F)(n:Nat):gX (bF rs) (dP F n) n^aM rs rs.length=lV rs n:=by
 have hG:kO (aM rs rs.length) (bF rs)^M3 rs:=by unfold M3;rw[dif_pos #[F,hF]];show Exists.choose_spec (#[F,hF]:∃F,kO (aM rs rs.length) (bF rs) F)
 show BS (λk hk o ho=>(kr.2.2 k hk).2 o ho) (λk _=>?_) _ _ λ_ h=>h;by_cases hf:k∈F.map (·.1);let#[x,hx,rfl]:=aD.mp hf;rw[iE hF.nd hx,iE hG.nd^iB hF hG _ x.1 x.2 (ay _) hx]
 .have hg:k∉(M3 rs).map (·.1):=λz=>by let#[x,hx,rfl]:=aD.mp z;show hf^aD.mpr #[_,iB hG hF _ x.1 x.2 (ay _) hx,rfl]
  rw[m8 hf,m8 hg]
theorem M4{n:Nat}(hne:rs≠[])(kr:fh (aM rs rs.length)^bF rs)(hF:kO (aM rs rs.length) (bF rs) F):if fm (b8 rs) n=true then(lV rs (n+1)).length<=n else(lV rs (n+1)).length=n+1:=by
 rw[<- GG kr hF];have hL:∀k∈aM rs rs.length,∀o∈bF rs k,o∈aM rs rs.length:=λk hk o ho=>(kr.2.2 k hk).2 o ho;by_cases hl:F.length=(aM rs rs.length).length
 .have hA:fj (aM rs rs.length) (bF rs) F:=#[hF,hl];let#[m,hm,_]:=mV hne hA;have hd:iC (aM rs rs.length) (bF rs) m:=by unfold b8 at hm;by_cases e:∃m,iC (aM rs rs.length) (bF rs) m;rw[dif_pos e] at hm;rw[<- Option.some.inj hm];show e.choose_spec;rw[dif_neg e] at hm;cases hm
  let#[G,hG,#[x,hx,ex],hle]:=hd;rw[hm];by_cases hmn:m<=(n:Int)
  .rw[if_pos^show fm (some m) n=true from decide_eq_true hmn];show EB kr.1 hL hA λy hy=>by have:=hle y^iB hF hG.1 _ y.1 y.2 (ay _) hy;lia
  .rw[if_neg (λz:fm (some m) n=true=>hmn^of_decide_eq_true z)];show xW hL hF #[x.1,hG.1.sub x hx,?_];rw[iE hF.nd^iB hG.1 hF _ x.1 x.2 (ay _) hx];lia
 .have no:∀G,¬fj (aM rs rs.length) (bF rs) G:=λG hG=>hl^Gu kr.1 hG hF;rw[rH no,if_neg (λz:fm none n=true=>nomatch z)];show xW hL hF ?_;have:∃x∈aM rs rs.length,x∉F.map (·.1):=oj λz=>hl ?_;let#[x,hx,hxf]:=this;show#[x,hx,by rw[m8 hxf];show j3 _]
  .have h1:(aM rs rs.length).length<=(F.map (·.1)).length:=jn kr.1 λx hx=>oj λh=>z #[x,hx,h];have h2:(F.map (·.1)).length<=(aM rs rs.length).length:=jn hF.nd λx hx=>by let#[y,hy,rfl]:=aD.mp hx;show hF.sub y hy
   rw[aq] at h1 h2;lia
def vP{n:Nat}(kr:fh (aM rs rs.length)^bF rs):(∀(i:Nat)(x:HM.bu),(lV rs n)[i]?=some x->x∈aM rs rs.length)/\∀(i:Nat)(x y:HM.bu),(lV rs n)[i]?=some x->(lV rs n)[i+1]?=some y->y∈bF rs x:=by
 let#[c1,c2]:=xS (L:=bF rs) (g:=dP (M3 rs) n) n^aM rs rs.length;show#[λi=>?_,c2];induction i with
 | zero=>show c1
 | succ i ih =>
  intro x hx;have hi:i<(lV rs n).length:=Nat.lt_of_succ_lt (eX hx).1;show(kr.2.2 _^ih _^dJ hi).2 _^c2 i _ x (dJ hi) hx
def U9:Sp:=λvs H Q _=>∃(c:Addr)(p n:Nat)(us:List V)(rs:List Row)(r:Row),vs=[.ref c,.int p,.int n]/\H c=some^.lst us/\Rows H us rs/\zO rs 200/\rs[p]?=some r/\r.gT p=true/\n<=3900/\vG H /\
 (fh (aM (dS rs p) (dS rs p).length)^bF^dS rs p->(∀k r t,(dS rs p)[k]?=some r->t∈b7 (dS rs p) k->iI (dS rs p) r t^bF (dS rs p) ((k:Int),t)) ->
  (fm (b8^dS rs p) n=true->∀H',fU bK H H'->vG H'->Q .dD H')/\(fm (b8^dS rs p) n=false->(lV (dS rs p) (n+1)).length=n+1->∀(b:Addr)(us:List V)(H':Hp),fU bK H H'->vG H'->H b=none->H' b=some^.lst us->aU H' us^lV (dS rs p) (n+1)->Q (.ref b) H'))
theorem zB(T:Txt w K mg)(hB:base.BuiltinsAt mg bK):bQ P w K mg base gj 7 T.need.f T.need.d ["code", "place", "number"] U9:=by
 show T.need.F.ok yO (λvs H Q E h=>?_) (λcdv A outer s H vs Q E hr h=>?_);let#[c,p,n,us,rs,r,rfl,_]:=h;rfl;let#[c,p,n,us,rs,r,rfl,hc,rows,ht,hr',hcg,hn,tab,q]:=h;show#[_,(ak (bq 3 yO.nd^aJ T.qo (vD T) hr^aa (aJ T.without (oW T) hr^aa (pv 0)^aa (pv 1) af) af)^ak (bq 4 yO.nd^aJ T.rB.toDD (IJ T hB) hr^aa (pv 3)^aa (aJ T.ended (BL T) hr^aa (pv 3) af)^aa (az bL (pv 2) ai) af)^ao^aE^fO (bY wL (aQ bx rfl T.dY BT.dW^aa (pv 4) af)^pv 2) (pv 4) j6),?_];change(_:TS) (Ends.mk _ _ _ _) [_,_,_,_,_] H;have hl:=ht.len;have ho:=ht.out hr' hcg;k_in;lk;show#[c,p,us,rs,rfl,hc,rows,∅,ht.ok,λc1 us1 H1 H2 s1 n2 fH=>?_];have s2:=s1.trans n2.same;have hc1:=n2.self;clear n2 s1;generalize dS rs (p:Int)=os at *;lk;show#[c1,us1,os,rfl,hc1,fH,ho.ok,ho.len,λd ep kvs H3 s3 fd hd hk em hla=>?_];let#[kr,jR]:=BQ ho.ok ho.len em hla;let#[q0,q1]:=q kr jR;have Ut:=BO hla;have s3:=s2.trans s3;lk;show#[d,ep,kvs,bF os,rfl,hd,hk,Ut,by rw[em];show kr,λf CO sA F H4 s4 ff hf R3 hF Va=>?_];rw[em] at Va;have RI:=s4 _ _ hd;have s4':=s3.trans s4;lk;show#[d,f,ep,CO,n+1,kvs,sA,bF os,F,rfl,RI,hk.same s4,iz.same Ut s4,by rw[em];show kr,hf,R3,hF,∅,tab.same s4',λb vs H5 s5 sL fb hb hvs=>?_];rw[em,GG kr Va] at hvs;have hvl:=hvs.length;have nl:=M4 (n:=n) ho.ne kr Va;have s5':=s4'.AU.trans s5;have fb':=s4'.free fb;lk
 .rename_i hgt;cases e:fm (b8 os) n with
  | true=>rw[e,if_pos rfl] at nl;lia
  | false =>
   rw[e,if_neg^by decide] at nl;show q1 e nl b vs H5 s5' sL fb' hb hvs
 .rename_i hgt;cases e:fm (b8 os) n with
  | true=>show q0 e H5 s5' sL
  | false=>rw[e,if_neg^by decide] at nl;lia
def Qc:Sp:=λvs H Q _=>∃(p:Addr)(us:List V)(rs:List Row),vs=[.ref p]/\H p=some^.lst us/\Rows H us rs/\(∀r∈rs,r.ok rs.length)/\rs.length<=200 /\
 ∀(d:Addr)(kvs:List (Key×V))(H':Hp),aC H H'->H d=none->H' d=some^.dK kvs->qz H' rs kvs->Q (.ref d) H'
theorem M5(T:Txt w K mg):bQ P w K mg base gj 5 T.looks.f T.looks.d ["code"] Qc:=by
 show T.looks.F.ok A5 (λvs H Q E h=>?_) (λcdv A outer s H vs Q E hr h=>?_);let#[p,us,rs,rfl,_]:=h;rfl;let#[p,us,rs,rfl,hp,hrs,hok,hn,q]:=h;show#[_,(ak (bq 1 A5.nd^aJ T.live (Ga T) hr^aa (pv 0) af)^ao^aE^cA (Aj rfl) rfl T.D4 BT.Dc^aa (cT (bA.cz "place" ["lively"] [1] ["lively"] rfl) (bP^aJ T.meets (Mk T) hr^aa (pv 0) af) (λ_ _ _ _=>dG) (λ_ _ _ _=>(bC^aa (pv 0)^aa (aQ (Az (w:=w) rfl rfl) rfl T.kL BT.kF^aa (cA (Dz (K:=K) (w:=w) rfl rfl rfl) rfl T.F0 BT.z8^aa (cT (bA.plain rfl (by decide +kernel) (by decide +kernel) rfl (by decide +kernel) rfl) (KI (K:=K) rfl^br (gr (K:=K) rfl) (pv 1)^pv 0) (λ_ _ _ _=>dG) (λ_ _ _ _=>(br (pK (K:=K) rfl) (pv 0) ai))) af) af) af))) af),?_];change(_:TS) (Ends.mk _ _ _ _) [_,_] H;k_in;lk;show#[p,us,rs,rfl,hp,hrs,hok,hn,λlv as H1 s1 flv AH hal _ _ _ hL=>?_];lk;show#[p,us,rs,rfl,s1 _ _ hp,hrs.same s1,hok,∅,λmt H2 s2 _ hmt=>?_];have PK:=s2 _ _ AH;have Q4:sy H2 as rs:=λk a e=>let⟨vs,h1,h2⟩:=hL k a e;#[vs,s2 _ _ h1,h2.same s2];have s12:=s1.trans s2;clear s1 s2 AH hL;have mem:∀x∈f9 rs,∃j:Nat,x=(j:Int)/\j<rs.length/\d8 rs j=true:=λx hx=>by unfold f9 at hx;let#[j,hj,rfl]:=aD.mp hx;let#[h1,h2]:=c9.mp hj;show#[j,rfl,fN.mp h1,h2]
 have aib:(f9 rs).length<=rs.length:=by unfold f9;rw[aq];show bO (iL _ _) (by rw[l0];show ay _)
 lk;show ig (xs:=(f9 rs).map V.int) (λi ys H'=>aC H2 H'/\∃ps:List (Key×V),uH H' ys ps/\ps.length=i/\∀(k:Nat)(x:Int),k<i->(f9 rs)[k]?=some x->∃b,ps[k]?=some (.inl x,.ref b)/\H' b=some^.lst^(cM rs x.toNat).map V.int) #[aC.refl _,[],.nil,rfl,λk x h=>absurd h^fZ _] ?_ ?_ ?_;rintro i ys H' _ ⟨s',_⟩;show bB.of^s' _ _ hmt
 .rintro i x ys H3 hx ⟨s3,ps,hP,hpl,hps⟩;rw[aW] at hx;let#[x,hxi,rfl]:=cE.mp hx;let#[j,rfl,hj,hmj]:=mem x^eY hxi;have hil:=(eX hxi).1;have hyl:=jV hP;show#[bZ ∅,?_];obtain⟨a,ha⟩:∃a,as[j]?=some a:=#[_,dJ ∅];let#[vs,hvs,zg]:=Q4 j a ha;have adF:=s3 _ _ hvs;have adG:=zg.same s3;have hvl:vs.length<=16:=by rw[zg.length];show mS ..
  lk;show cL (bB.of^s3 _ _ PK) (v:=.ref a) (cR (by rw[aW,ha];rfl)) ?_;lk;show ig (xs:=vs) (λk zs H'=>H'=H3/\zs=(((ja rs j).take k).map (·.2)).map V.int) #[rfl,rfl] ?_ ?_ ?_;rintro k zs H' _ ⟨rfl,_⟩;show bB.of adF
  .rintro k y zs H' hy ⟨rfl,rfl⟩;let#[t,htk,b,rfl,hb]:=bf adG hy;have Ut:=mS rs j;show#[bZ (by simp;lia),?_];lk;show#[rfl,?_];rw[bS,htk,bG,bG];rfl
  .rintro zs H' ⟨rfl,rfl⟩ l H4 n4;rw[zg.length,cg] at n4;have F7:∀b∈(ja rs j).map (·.2),0<=b/\b<8:=λb hb=>by
    let#[t,ht,rfl]:=aD.mp hb;have all:∀t∈bV,0<=t.2/\t.2<8:=by decide
    show all t (c9.mp ht).1
   have hl:=mS rs j;lk;show KW (bB.of n4.self) (by rw[aq];lia) ?_;intro st H5 n5;lk;show Ff n5.self F7 ?_;intro so H6 n6;have hso:=n6.self;have s36:=(n4.same.trans n5.same).trans n6.same;clear n4 n5 n6;lk;rename_i tu H7 n7;have Ur:=s36.trans n7.same;show#[s3.trans Ur,ps++[(.inl (j:Int),.ref so)],?_,by simp[hpl],λk y hk hy=>?_];show cF (cQ (λ_ _ ⟨t,e1,e2⟩=>#[t,e1,Ur _ _ e2]) hP) #[tu,rfl,n7.self];rcases bg k i with hlt|hge;let#[b,h1,h2]:=hps k y hlt hy;show#[b,by rw[kT ∅];show h1,Ur _ _ h2];have ek:k=i:=∅;subst ek;rw[hxi] at hy;cases hy;show#[so,?_,n7.keep hso];rw[j4 ∅,hpl,Nat.sub_self];rfl
 .rintro ys H3 ⟨s3,ps,hP,hpl,hps⟩ l H4 n4;rw[aq] at hpl hps;have hP4:uH H4 ys ps:=cQ (λ_ _ ⟨t,e1,e2⟩=>#[t,e1,n4.keep e2]) hP;lk;show WZ (bB.of n4.self) hP4 ?_;intro d H5 n5;have s25:=(s3.trans n4.same).trans n5.same;lk;show q d _ H5 (s12.trans s25) (s12.free^(s3.trans n4.same).free n5.1) n5.self λj hj=>#[λhm=>?_,λhm=>?_]
  all_goals
   have up:(f9 rs).Pairwise (· < ·):=by unfold f9;rw[jj];show List.Pairwise.imp (λh=>Int.ofNat_lt.mpr h)^List.Pairwise.sublist List.filter_sublist yg
   have key:∀i,i<ps.length->∃x,(f9 rs)[i]?=some x/\(ps.getD i (.inl 0,.dD)).1=(.inl x:Key)/\∃b,(ps.getD i (.inl 0,.dD)).2=.ref b/\H3 b=some^.lst^(cM rs x.toNat).map V.int:=λi hi=>by obtain⟨x,hx⟩:∃x,(f9 rs)[i]?=some x:=#[_,dJ ∅];let#[b,h1,h2]:=hps i x ∅ hx;show#[x,hx,by rw[getD_at h1],b,by rw[getD_at h1],h2]
  .have hin:(j:Int)∈f9 rs:=by unfold f9;show aD.mpr #[j,c9.mpr #[fN.mpr hj,hm],rfl]
   let#[i,hi]:=fM.mp hin;have hil:=(eX hi).1;let#[x,hx,hk,b,hb,hHb]:=key i ∅;rw[hi] at hx;cases hx;rw[jg] at hHb;show#[b,?_,((n4.same.trans n5.same) _ _ hHb)];have:=vL (ks:=λi=>(ps.getD i (.inl 0,.dD)).1) (vs:=λi=>(ps.getD i (.inl 0,.dD)).2) (n:=ps.length) (λa c ha hc e=>?_) i ∅;rw[<- hk,<- hb];show this;let#[x1,h1,k1,_]:=key a ha;let#[x2,h2,k2,_]:=key c hc;have e':(Sum.inl x1:Key)=Sum.inl x2:=k1.symm.trans^e.trans k2;cases e';show rC (up.imp λh=>∅) h1 h2
  .show lR λi hi e=>hm ?_;let#[x1,h1,k1,_]:=key i hi;have e':(Sum.inl x1:Key)=Sum.inl (j:Int):=k1.symm.trans e;cases e';let#[j',e1,_,hm']:=mem _^eY h1;have:j'=j:=∅;rw[<- this];show hm'
def Qd:Sp:=λvs H Q _=>∃(p d:Addr)(us:List V)(rs:List Row)(kvs:List (Key×V)),vs=[.ref p,.ref d]/\H p=some^.lst us/\Rows H us rs/\rs.length<=200/\H d=some^.dK kvs/\qz H rs kvs /\
 ∀(f:Addr)(H':Hp),aC H H'->H f=none->H' f=some^.lst ((List.range rs.length).map λp=>V.int^firstM rs p)->Q (.ref f) H'
theorem sM(T:Txt w K mg):bQ P w K mg base gj 1 T.jw.f T.jw.d ["code", "looked"] Qd:=by
 show T.jw.F.ok dw (λvs H Q E h=>?_) (λcdv A outer s H vs Q E hr h=>?_);let#[p,d,us,rs,kvs,rfl,_]:=h;rfl;let#[p,d,us,rs,kvs,rfl,hp,hrs,hn,hd,hL,q]:=h;have cD:=T.jM.q;have cS:=T.xH.q;show#[_,(ak (bq 2 dw.nd^bT af)^ak (bq 3 dw.nd ai)^ak (cP bD rfl (lz rfl T.fX^aa (pv 0) af) (k7 (n:=2) rfl^bw (di 4 dw.nd)^bw (di 5 dw.nd) fE)^ak (dR^i0 dj gA gB d9 (pv 2)^aa (pv 3) af)^jt (bI (CS^J4 (uw hr) (pv 4)^pv 1) (ao^CV (i:=3) dw.nd rfl (Or.inl rfl) (az bL (aQ bx rfl T.dY BT.dW^aa (Oc (uw hr) (pv 1) (pv 4) (λ_ _=>rfl)) af) ai) CW) aL)^ao^CV (i:=3) dw.nd rfl (Or.inl rfl) (fO (cK fz (br aZ (pv 5) ai) (gD (v:=.ref T.jM.a) rfl T.jM.c rfl)^by with_unfolding_all rfl) (aQ bx rfl T.dY BT.dW^aa (gD (v:=.ref T.xH.a) rfl T.xH.c rfl) af) ai) CW)^ao^aE^pv 2),?_];have sr:=hrs.length;change(_:TS) (Ends.mk _ _ _ _) [_,_,_,_,_,_] H;k_in;lk;rename_i f H1 n1;have ff:=n1.1;have s1:=n1.same;have hf1:=n1.self;clear n1;show uF (xs:=us) (λi σ' H'=>(∃x y,σ'=[some^.ref p,some^.ref d,some^.ref f,some^.int^firstM rs i,x,y])/\aC H H'/\H' f=some^.lst ((List.range i).map λp=>V.int^firstM rs p)) ?_ ?_ ?_ ?_;show#[#[_,_,rfl],s1,hf1];rintro i σ' H' _ ⟨_,s',_⟩;show bB.of^s' _ _ hp
 .rintro i x t σ' H2 H3 hx ⟨⟨x0,y0,rfl⟩,s2,hf2⟩ n3;have hi:i<us.length:=(eX hx).1;let#[r,hr',ra,rfl,sH]:=bf hrs hx;have s3:=s2.trans n3.same;have hf3:=n3.keep hf2;have HJ:=s3 _ _ hd;have Ph:=s3 _ _ sH;have ht3:=n3.self;have hfl:((List.range i).map λp=>V.int^firstM rs p).length=i:=by simp
  have hdf:d≠f:=aV hd ff;have adI:ra≠f:=aV sH ff;clear n3 s2 hf2;let#[Tf,Q4]:=hL i ∅;lk;rename_i H4 p4;have s4:=p4.same s3 ff;have xN:H4 f=some^.lst ((List.range (i+1)).map λp=>V.int^firstM rs p):=by rw[p4.self,qN,bG];rfl
  have RI:=p4.keep hdf HJ;have aif:=p4.keep adI Ph;clear p4 HJ Ph hf3 s3 ht3;show rT (λσ' H'=>H'=H4/\σ'=[some^.ref p,some^.ref d,some^.ref f,some^.int ((firstM rs i:Int)+dB rs i),some^.int (i:Int),some^.ref ra]) ?_ ?_
  .lk;by_cases hm:d8 rs i=true
   .let#[a,e1,e2]:=Tf hm;have Rw:=s4 _ _ e2;rw[e1,if_pos (show(some^V.ref a).isSome=true from rfl)];lk;show WT RI e1 ?_;lk;show#[rfl,?_];unfold dB;rw[if_pos hm,aq];have:(firstM rs i:Int)+((cM rs i).length+1:Int)=(firstM rs i:Int)+(((cM rs i).length+1:Nat):Int):=∅;rw[this]
   .rw[Q4 hm,if_neg^by decide];lk;show#[rfl,?_];unfold dB;rw[if_neg hm];simp
  rintro _ _ ⟨rfl,rfl⟩;have hdi:=nL r;have eN:firstM rs (i+1)=firstM rs i+(dB rs i+r.own):=by rw[firstM];unfold gz;rw[hr'];rfl
  lk;rw[hdi];cases rX:r.fJ with
  | true =>
   rw[if_pos rfl];lk;show#[#[some^.int (i:Int),some^.ref ra,?_],s4,xN];have:(firstM rs (i+1):Int)=(firstM rs i:Int)+(dB rs i:Int)+2:=by rw[eN];unfold Row.own;rw[rX,if_pos rfl];lia
   rw[this]
   first|rfl|skip
  | false =>
   rw[if_neg^by decide];lk;show#[#[some^.int (i:Int),some^.ref ra,?_],s4,xN];have:(firstM rs (i+1):Int)=(firstM rs i:Int)+(dB rs i:Int)+1:=by rw[eN];unfold Row.own;rw[rX,if_neg^by decide];lia
   rw[this]
 .rintro σ' H2 ⟨⟨x0,y0,rfl⟩,s2,hf2⟩;lk;rw[sr] at hf2;show q f H2 s2 ff hf2
def IP:Sp:=λvs H Q _=>∃(a:Addr)(r:Row)(q:Int),vs=[.ref a,.int q]/\H a=some^.tup r.vals/\∀(l:Addr)(us:List V)(H':Hp),aC H H'->H l=none->H' l=some^.lst us->Rows H' us^r.dbl q->Q (.ref l) H'
def EC(T:Txt w K mg):bQ P w K mg base gj 1 T.doubled.f T.doubled.d ["row", "place"] IP:=by
 show T.doubled.F.ok DZ (λvs H Q E h=>?_) (λcdv A outer s H vs Q E hr h=>?_);let#[a,r,q,rfl,_]:=h;rfl;let#[a,r,q1,rfl,ha,q]:=h;have cD:=T.jM.q;show#[_,(ak (bI (cK f7 (br aZ (pv 0) ai) (gD (v:=.ref T.jM.a) rfl T.jM.c rfl)^by with_unfolding_all rfl) (ao^aE^bT^aa (pv 0) af) aL)^ao^aE^bT^aa (az lg (az lg (az lg (cU k9 (pv 0) eB^dF ai)^bC^aa ai af)^cU k9 (pv 0) (dF ai)^dF^rQ mD ai)^bC^aa (az bL (pv 1) ai) af)^aa (az lg (az lg (cU k9 (pv 0) eB^dF ai)^bC^aa ai af)^cU k9 (pv 0) (dF ai) eB) af),?_];change(_:TS) (Ends.mk _ _ _ _) [_,_] H;k_in;cases r with
 | num d k v p =>
  erw[Row.vals,Row.key,Row.rest] at ha;lk;show jH (cY.of ha) (by change ¬(HT.dM 5 0 none=0/\HT.dM 5 5^some 1=5);decide) ?_;intro p1 H1 n1;replace n1:eV H p1 (.tup [.str "num"]) H1:=n1;lk;rename_i p2 H2 n2;show fT (cY.of^n2.keep n1.self) (cY.of n2.self) (by simp) (by simp) (eZ rfl) ?_;intro p3 H3 n3;have s3:=(n1.same.trans n2.same).trans n3.same;have Iw:=s3 _ _ ha;lk;show jH (cY.of Iw) (by change ¬(HT.dM 5 0^some 2=0/\HT.dM 5 5^some (-1)=5);decide) ?_;intro p4 H4 n4;replace n4:eV H3 p4 (.tup [.int k,.int v]) H4:=n4;show fT (cY.of^n4.keep n3.self) (cY.of n4.self) (by simp) (by simp) (eZ rfl) ?_;intro p5 H5 n5;have s5:=(s3.trans n4.same).trans n5.same;have Jx:=s5 _ _ ha;have h5:=n5.self;clear n1 n2 n3 n4 n5 Iw s3;lk;rename_i p6 H6 n6;show fT (cY.of^n6.keep h5) (cY.of n6.self) (by simp) (by simp) (eZ rfl) ?_;intro p7 H7 n7;have s7:=(s5.trans n6.same).trans n7.same;have R7:=s7 _ _ ha;have h7:H7 p7=some^.tup (.num 0 k v (q1+1):Row).vals:=n7.self;clear n6 n7 h5 Jx s5;lk;show jH (cY.of R7) (by change ¬(HT.dM 5 0 none=0/\HT.dM 5 5^some 1=5);decide) ?_;intro p8 H8 n8;replace n8:eV H7 p8 (.tup [.str "num"]) H8:=n8;lk;rename_i p9 H9 n9;show fT (cY.of^n9.keep n8.self) (cY.of n9.self) (by simp) (by simp) (eZ rfl) ?_;intro NK zM Gk;have kj:=(n8.same.trans n9.same).trans Gk.same;have sI:=kj _ _ R7;lk;show jH (cY.of sI) (by change ¬(HT.dM 5 0^some 2=0/\HT.dM 5 5 none=5);decide) ?_;intro zN Jw ko;replace ko:eV zM zN (.tup [.int k,.int v,.int p]) Jw:=ko;show fT (cY.of^ko.keep Gk.self) (cY.of ko.self) (by simp) (by simp) (eZ rfl) ?_;intro CP Mi vt;have s12:=(kj.trans ko.same).trans vt.same;have h12:Mi CP=some^.tup (.num 1 k v p:Row).vals:=vt.self;have YF:=s12 _ _ h7;clear n8 n9 Gk ko vt sI;lk;rename_i l RA B5;have zh:=(s7.trans s12).trans B5.same;show q l _ RA zh ((s7.trans s12).free B5.1) B5.self^.cons #[p7,rfl,B5.keep YF]^.cons #[CP,rfl,B5.keep h12] .nil
 | copy d k i p =>
  erw[Row.vals,Row.key,Row.rest] at ha;lk;show jH (cY.of ha) (by change ¬(HT.dM 5 0 none=0/\HT.dM 5 5^some 1=5);decide) ?_;intro p1 H1 n1;replace n1:eV H p1 (.tup [.str "copy"]) H1:=n1;lk;rename_i p2 H2 n2;show fT (cY.of^n2.keep n1.self) (cY.of n2.self) (by simp) (by simp) (eZ rfl) ?_;intro p3 H3 n3;have s3:=(n1.same.trans n2.same).trans n3.same;have Iw:=s3 _ _ ha;lk;show jH (cY.of Iw) (by change ¬(HT.dM 5 0^some 2=0/\HT.dM 5 5^some (-1)=5);decide) ?_;intro p4 H4 n4;replace n4:eV H3 p4 (.tup [.int k,.int i]) H4:=n4;show fT (cY.of^n4.keep n3.self) (cY.of n4.self) (by simp) (by simp) (eZ rfl) ?_;intro p5 H5 n5;have s5:=(s3.trans n4.same).trans n5.same;have Jx:=s5 _ _ ha;have h5:=n5.self;clear n1 n2 n3 n4 n5 Iw s3;lk;rename_i p6 H6 n6;show fT (cY.of^n6.keep h5) (cY.of n6.self) (by simp) (by simp) (eZ rfl) ?_;intro p7 H7 n7;have s7:=(s5.trans n6.same).trans n7.same;have R7:=s7 _ _ ha;have h7:H7 p7=some^.tup (.copy 0 k i (q1+1):Row).vals:=n7.self;clear n6 n7 h5 Jx s5;lk;show jH (cY.of R7) (by change ¬(HT.dM 5 0 none=0/\HT.dM 5 5^some 1=5);decide) ?_;intro p8 H8 n8;replace n8:eV H7 p8 (.tup [.str "copy"]) H8:=n8;lk;rename_i p9 H9 n9;show fT (cY.of^n9.keep n8.self) (cY.of n9.self) (by simp) (by simp) (eZ rfl) ?_;intro NK zM Gk;have kj:=(n8.same.trans n9.same).trans Gk.same;have sI:=kj _ _ R7;lk;show jH (cY.of sI) (by change ¬(HT.dM 5 0^some 2=0/\HT.dM 5 5 none=5);decide) ?_;intro zN Jw ko;replace ko:eV zM zN (.tup [.int k,.int i,.int p]) Jw:=ko;show fT (cY.of^ko.keep Gk.self) (cY.of ko.self) (by simp) (by simp) (eZ rfl) ?_;intro CP Mi vt;have s12:=(kj.trans ko.same).trans vt.same;have h12:Mi CP=some^.tup (.copy 1 k i p:Row).vals:=vt.self;have YF:=s12 _ _ h7;clear n8 n9 Gk ko vt sI;lk;rename_i l RA B5;have zh:=(s7.trans s12).trans B5.same;show q l _ RA zh ((s7.trans s12).free B5.1) B5.self^.cons #[p7,rfl,B5.keep YF]^.cons #[CP,rfl,B5.keep h12] .nil
 | op d o k i j p =>
  erw[Row.vals,Row.key,Row.rest] at ha;lk;show jH (cY.of ha) (by change ¬(HT.dM 7 0 none=0/\HT.dM 7 7^some 1=7);decide) ?_;intro p1 H1 n1;replace n1:eV H p1 (.tup [.str "op"]) H1:=n1;lk;rename_i p2 H2 n2;show fT (cY.of^n2.keep n1.self) (cY.of n2.self) (by simp) (by simp) (eZ rfl) ?_;intro p3 H3 n3;have s3:=(n1.same.trans n2.same).trans n3.same;have Iw:=s3 _ _ ha;lk;show jH (cY.of Iw) (by change ¬(HT.dM 7 0^some 2=0/\HT.dM 7 7^some (-1)=7);decide) ?_;intro p4 H4 n4;replace n4:eV H3 p4 (.tup [.str o,.int k,.int i,.int j]) H4:=n4;show fT (cY.of^n4.keep n3.self) (cY.of n4.self) (by simp) (by simp) (eZ rfl) ?_;intro p5 H5 n5;have s5:=(s3.trans n4.same).trans n5.same;have Jx:=s5 _ _ ha;have h5:=n5.self;clear n1 n2 n3 n4 n5 Iw s3;lk;rename_i p6 H6 n6;show fT (cY.of^n6.keep h5) (cY.of n6.self) (by simp) (by simp) (eZ rfl) ?_;intro p7 H7 n7;have s7:=(s5.trans n6.same).trans n7.same;have R7:=s7 _ _ ha;have h7:H7 p7=some^.tup (.op 0 o k i j (q1+1):Row).vals:=n7.self;clear n6 n7 h5 Jx s5;lk;show jH (cY.of R7) (by change ¬(HT.dM 7 0 none=0/\HT.dM 7 7^some 1=7);decide) ?_;intro p8 H8 n8;replace n8:eV H7 p8 (.tup [.str "op"]) H8:=n8;lk;rename_i p9 H9 n9;show fT (cY.of^n9.keep n8.self) (cY.of n9.self) (by simp) (by simp) (eZ rfl) ?_;intro NK zM Gk;have kj:=(n8.same.trans n9.same).trans Gk.same;have sI:=kj _ _ R7;lk;show jH (cY.of sI) (by change ¬(HT.dM 7 0^some 2=0/\HT.dM 7 7 none=7);decide) ?_;intro zN Jw ko;replace ko:eV zM zN (.tup [.str o,.int k,.int i,.int j,.int p]) Jw:=ko;show fT (cY.of^ko.keep Gk.self) (cY.of ko.self) (by simp) (by simp) (eZ rfl) ?_;intro CP Mi vt;have s12:=(kj.trans ko.same).trans vt.same;have h12:Mi CP=some^.tup (.op 1 o k i j p:Row).vals:=vt.self;have YF:=s12 _ _ h7;clear n8 n9 Gk ko vt sI;lk;rename_i l RA B5;have zh:=(s7.trans s12).trans B5.same;show q l _ RA zh ((s7.trans s12).free B5.1) B5.self^.cons #[p7,rfl,B5.keep YF]^.cons #[CP,rfl,B5.keep h12] .nil
 | _ =>
  have ha0:=ha;erw[Row.vals,Row.key,Row.rest] at ha;lk;rename_i l H1 n1;show q l _ H1 n1.same n1.1 n1.self^.cons #[a,rfl,n1.keep ha0] .nil
def kP{g:Addr}(h:H g=some^.lst us)(p:qE H g (.lst vs) H'):iw H H':=λb xs e=>p.keep (uf e h (by intro z;cases z)) e
def M6{qs:List Row}(h1:Rows H us rs)(h2:Rows H vs qs):Rows H (us++vs) (rs++qs):=jO h1 h2
def M7:Sp:=λvs H Q _=>∃(p:Addr)(us:List V)(rs:List Row),vs=[.ref p]/\H p=some^.lst us/\Rows H us rs/\(∀r∈rs,r.ok rs.length)/\rs.length<=200 /\
 ∀(g:Addr)(vs:List V)(H':Hp),aC H H'->H g=none->H' g=some^.lst vs->Rows H' vs^cj rs rs.length->Q (.ref g) H'
theorem IQ(T:Txt w K mg):bQ P w K mg base gj 6 T.yW.f T.yW.d ["code"] M7:=by
 show T.yW.F.ok iO (λvs H Q E h=>?_) (λcdv A outer s H vs Q E hr h=>?_);let#[p,us,rs,rfl,_]:=h;rfl;let#[p,us,rs,rfl,hp,hrs,hok,hn,q]:=h;show#[_,(ak (bq 1 iO.nd^aJ T.looks (M5 T) hr^aa (pv 0) af)^ak (bq 2 iO.nd^aJ T.jw (sM T) hr^aa (pv 0)^aa (pv 1) af)^ak (bq 3 iO.nd^bT af)^ak (cP bD rfl (lz rfl T.fX^aa (pv 0) af) (k7 (n:=2) rfl^bw (di 4 iO.nd)^bw (di 5 iO.nd) fE)^ak (cP bD rfl (bP^Kd (uw hr) (pv 1) (pv 4) (bT af) #[rfl,rfl,rfl,rfl]) (di 6 iO.nd)^ao^dR^i0 dj gA gB d9 (pv 3)^aa (bC^aa aR^aa (pv 6)^aa (az bL (aQ bx rfl T.dY BT.dW^aa (pv 3) af) ai) af) af)^jt (bI (CS^J4 (uw hr) (pv 4)^pv 1) (ao^dR^i0 dj gA gB d9 (pv 3)^aa (bC^aa aR^aa (az bL (aQ bx rfl T.dY BT.dW^aa (pv 3) af) ai) af) af) aL)^ao^dR^i0 dj o5 o6 kC (pv 3)^aa (aJ T.doubled (EC T) hr^aa (aJ T.kK (qu T) hr^aa (pv 5)^aa (pv 2) af)^aa (aQ bx rfl T.dY BT.dW^aa (pv 3) af) af) af)^ao^aE^pv 3),?_];have sr:=hrs.length;change(_:TS) (Ends.mk _ _ _ _) [_,_,_,_,_,_,_] H;k_in;lk;show#[p,us,rs,rfl,hp,hrs,hok,hn,λd kvs H1 s1 fd hd1 Tf=>?_];lk;show#[p,d,us,rs,kvs,rfl,s1 _ _ hp,hrs.same s1,hn,hd1,Tf,λf H2 s2 ff hf2=>?_];have hd2:=s2 _ _ hd1;have Q4:=Tf.same s2;have NR:=s1.trans s2;have hp2:=NR _ _ hp;have Mg:=hrs.same NR;clear s1 s2 hd1 Tf;lk;rename_i g H3 n3;have R6:H2 g=none:=n3.1;have s3:=n3.same;have hg3:=n3.self;clear n3;show uF (xs:=us) (λi σ' H'=>(∃x y z,σ'=[some^.ref p,some^.ref d,some^.ref f,some^.ref g,x,y,z])/\aC H2 H'/\∃vs,H' g=some^.lst vs/\Rows H' vs^cj rs i) ?_ ?_ ?_ ?_;show#[#[_,_,_,rfl],s3,[],hg3,.nil];rintro i σ' H' _ ⟨_,s',_⟩;show bB.of^s' _ _ hp2
 .rintro i x t σ' H4 H5 hx ⟨⟨x0,y0,z0,rfl⟩,s4,vs,Mv,hvs⟩ n5;have hi:i<us.length:=(eX hx).1;let#[r,hr',ra,rfl,sH]:=bf Mg hx;have s5:=s4.trans n5.same;have hg5:=n5.keep Mv;have M8:=hvs.same n5.same;have ZG:=s5 _ _ hd2;have YG:=s5 _ _ sH;have ht5:=n5.self;have hdg:d≠g:=aV hd2 R6;have hvl:vs.length=firstM rs i:=by rw[hvs.length,eG ∅]
  have hfl:=rK rs i;let#[hm1,hm2]:=Q4 i ∅;clear n5 s4 Mv hvs;lk;rename_i dl H6 n6;have s6:=s5.trans n6.same;have hg6:=n6.keep hg5;have Qe:=M8.same n6.same;have Yd:=n6.keep ZG;have Ms:=n6.keep YG;have adK:dl≠g:=(aV hg5 n6.1).symm;have YH:=n6.self;clear n6 hg5 M8 ZG YG s5 ht5;obtain⟨la,Lk,ela,hla,hlk,hlg⟩:∃la Lk,(fQ kvs (.inl (i:Int))).getD (.ref dl)=.ref la/\H6 la=some (.lst (Lk.map V.int))/\Lk=(if d8 rs i=true then cM rs i else[])/\la≠g:=by by_cases hm:d8 rs i=true;let#[a,e1,e2]:=hm1 hm;show#[a,_,by rw[e1];rfl,s6 _ _ e2,by rw[if_pos hm],aV e2 R6];show#[dl,[],by rw[hm2 hm];rfl,YH,by rw[if_neg hm],adK]
  have hLl:Lk.length<=8:=by rw[hlk];split;show vK rs i;show aI _
  rw[ela];lk;show f_list (xs:=Lk.map V.int) (λk σ' H'=>(∃z,σ'=[some^.ref p,some^.ref d,some^.ref f,some^.ref g,some^.int (i:Int),some^.ref ra,z])/\aC H2 H'/\H' la=some^.lst^Lk.map V.int/\∃vs',H' g=some^.lst vs'/\Rows H' vs' (cj rs i++cI (firstM rs i)^Lk.take k)) ?_ ?_ ?_ ?_;show#[#[_,rfl],s6,hla,vs,hg6,by simpa[cI] using Qe];rintro k σ' H' _ ⟨_,_,h,_⟩;show bB.of h
  .rintro k y σ' H7 hy ⟨⟨z,rfl⟩,s7,MB,vs',YI,m9⟩;rw[aW] at hy;let#[b,hb,rfl]:=cE.mp hy;have Ec:=(eX hb).1;have YJ:vs'.length=firstM rs i+k:=by rw[m9.length,aO,eG ∅,eF,cB];lia
   lk;rename_i t8 H8 n8 H9 p9;have R8:=n8.keep YI;have tt:=kP R8 p9;show#[#[_,rfl],p9.same (s7.trans n8.same) R6,p9.keep hlg^n8.keep MB,_,p9.self,?_];rw[bS,hb];change Rows H9 _ (cj rs i++cI (firstM rs i) (Lk.take k++[b]));rw[mW,<- kR];show cF ((m9.same n8.same).i9 tt) #[t8,rfl,?_];have e:(firstM rs i:Int)+((Lk.take k).length:Int)+1=(vs'.length:Int)+1:=by rw[cB];lia
   rw[e];show tt _ _ n8.self
  .rintro σ' H7 ⟨⟨z,rfl⟩,s7,MB,vs',YI,m9⟩;rw[aq,cg] at m9;have Ye:=s7 _ _ hd2;have Mt:=s7 _ _ sH;have YJ:vs'.length=firstM rs i+Lk.length:=by rw[m9.length,aO,eG ∅,eF]
   clear hg6 Qe Yd Ms YH hla s6;lk;show rT (λσ' H'=>σ'=[some^.ref p,some^.ref d,some^.ref f,some^.ref g,some^.int (i:Int),some^.ref ra,z]/\aC H2 H'/\∃R5,H' g=some^.lst R5/\Rows H' R5 (cj rs i++BW rs i)) ?_ ?_
   .lk;by_cases hm:d8 rs i=true
    .let#[a,e1,_]:=hm1 hm;rw[e1,if_pos (show(some^V.ref a).isSome=true from rfl)];lk;rename_i t8 H8 n8 H9 p9;have R8:=n8.keep YI;have tt:=kP R8 p9;show#[rfl,p9.same (s7.trans n8.same) R6,_,p9.self,?_];unfold BW;rw[if_pos hm,<- kR];rw[hlk,if_pos hm] at m9 YJ;show cF ((m9.same n8.same).i9 tt) #[t8,rfl,?_];have e:(firstM rs i:Int)+((cM rs i).length:Int)+1=(vs'.length:Int)+1:=∅;rw[e];show tt _ _ n8.self
    .rw[hm2 hm,if_neg^by decide];lk;show#[rfl,s7,vs',YI,?_];unfold BW;rw[if_neg hm];rw[hlk,if_neg hm] at m9;simpa[cI] using m9
   rintro _ H8 ⟨rfl,s8,R5,R8,BN⟩;have adL:R5.length=firstM rs i+dB rs i:=by rw[BN.length,aO,eG ∅,vJ]
   have hmn:=zq rs i;have Mu:=s8 _ _ sH;have Jv:=s8 _ _ hf2;clear Ye Mt YI m9 s7 MB;lk;show#[ra,f,r,_,iF rs,rfl,Mu,Jv,λz hz=>?_,λt9 H9 s9 ht9=>?_];have hzb:=Row.gG (hok r^eY hr') z hz;have ez:z=((z.toNat:Nat):Int):=∅;have UM:z.toNat<rs.length:=∅;have:=cR (xs:=(List.range rs.length).map λp=>V.int^firstM rs p) (j:=z.toNat) (v:=.int^firstM rs z.toNat) (by rw[aW,List.getElem?_range UM];rfl);rw[<- ez] at this;show this;have hg9:=s9 _ _ R8;have Ep:=BN.same s9;have X6:=s8.trans s9;clear s9 s8 R8 BN Mu Jv;lk;show#[t9,r.dN^iF rs,_,rfl,ht9,λl Vb zM kj fl aij R9=>?_];have adN:=kj _ _ hg9;have M9:=Ep.same kj;have adO:=X6.trans kj;have hlg:l≠g:=(aV hg9 fl).symm;have aik:Vb.length<=2:=by rw[R9.length,Gy];show rJ r
   clear kj hg9 Ep X6 ht9;lk;rename_i Jw zN;have tt:=kP adN zN;show#[#[_,_,_,rfl],zN.same adO R6,_,zN.self,?_];have e:cj rs (i+1)=cj rs i++BW rs i++(r.dN^iF rs).dbl (R5.length:Int):=by rw[cj,hr'];change _++putAt rs i r=_;unfold putAt;rw[adL,<- kR,Int.natCast_add]
   rw[e];show M6 (M9.i9 tt)^R9.i9 tt
 .rintro σ' H4 ⟨⟨x0,y0,z0,rfl⟩,s4,vs,Mv,hvs⟩;lk;rw[sr] at hvs;show q g vs H4 (NR.trans s4) (NR.free R6) Mv hvs
def Qf:Sp:=λvs H Q _=>∃(c p m y:Int),vs=[.int c,.int p,.int m,.int y]/\0<=p/\p<m/\∀q,kM m q->(y≠2->p+1≠m->p<q)->Q (.int q) H
theorem B6(T:Txt w K mg):bQ P w K mg base gj 1 T.goes.f T.goes.d ["_law_cell", "_law_p", "_law_many", "_law_way"] Qf:=by
 show T.goes.F.ok O4 (λvs H Q E h=>?_) (λcdv A outer s H vs Q E hr h=>?_);let#[c,p,m,y,rfl,_]:=h;rfl;let#[c,p,m,y,rfl,h0,h1,q]:=h;show#[_,(jt (bI (PW.pt^lO (bY cN (az bL (pv 1) ai)^pv 2)^jk^PW.pt^ia (bY cN (pv 3) ai)^f6^bY cN (az bh (pv 0) ai) ai) (ao^aE^az bh (az bR (pv 0) ai)^pv 2) aL)^mK (bI (PW.pt^ia (bY cN (pv 3) ai)^f6^bY cN (az bh (pv 0) ai) ai) (ao^aE^aQ (uG rfl) rfl T.Rv BT.Q8^aa (az ie (pv 2) ai)^aa (az bL (az bL (pv 1) ai)^az bh (az bR (pv 0) ai)^pv 2) af) aL)^ao^aE^az bL (pv 1) ai),?_];change(_:TS) (Ends.mk _ _ _ _) [_,_,_,_] H;have b:=cV (a:=c / 4) (b:=m) ∅;k_in;show rT (λσ' H'=>H'=H/\σ'=[some^.int c,some^.int p,some^.int m,some^.int y]/\p+1≠m) ?_ ?_
 .lk;show q _ b ∅;show q _ b ∅
  all_goals show#[rfl,rfl,by assumption]
 .rintro _ H' ⟨rfl,rfl,hne⟩;lk
  .show q _ ?_ ?_;split<;>show#[∅,∅]
   .intros
    split<;>lia
  .show q _ #[∅,∅] ∅
def Vc(K:aF):Sp:=λvs H Q _=>∃(c p m y:Int)(a:Addr)(ks:List Int),vs=[.int c,.int p,.int m,.ref a,.int y]/\0<=p/\p<m/\m<=1000/\H a=some^.lst^ks.map V.int/\0<ks.length/\ks.length<=1000/\(∀k∈ks,i8 k)/\∀q H' r,aC H H'->H' q=some^.tup^Row.vals r->r.ok m->(y<2->∀z∈r.ways,p<z)->Q (.ref q) H'
theorem Qg(T:Txt w K mg):bQ P w K mg base gj 2 T.row.f T.row.d ["_law_cell", "_law_p", "_law_many", "_law_pool_here", "_law_way"]^Vc K:=by
 show T.row.F.ok lE (λvs H Q E h=>?_) (λcdv A outer s H vs Q E hr h=>?_);let#[c,p,m,y,a,ks,rfl,_]:=h;rfl;let#[c,p,m,y,a,ks,rfl,h0,h1,hm,ha,hk0,hk1,hb,q]:=h;show#[_,(ak (bq 5 lE.nd^az bh (pv 0) ai)^ak (bq 6 lE.nd^br aZ (bC^aa ai^aa ai^aa ai^aa ai af)^az bh (az bR (pv 0) ai) ai)^ak (bq 7 lE.nd^az bR (pv 0) ai)^ak (mz (cT (bA.cz "_law_x" ["_law_pool_here", "_law_rest"] [3,7] ["_law_rest", "_law_pool_here"] rfl) (dI rfl T.eK^aa ai af) (λ_ _ _ _=>dG) (λ_ _ _ _=>(br (gr (K:=K) rfl) (pv 1)^az bh (az bh (az uC (pv 2)^br (pK (K:=K) rfl) (bC^aa ai^aa ai^aa ai af)^pv 0) ai)^aQ (lB (K:=K) rfl) rfl T.dY BT.dW^aa (pv 1) af)))^Kp rfl^bw (di 8 lE.nd)^bw (di 9 lE.nd)^bw (di 10 lE.nd) fE)^ak (bq 11 lE.nd^aJ T.goes (B6 T) hr^aa (az bR (pv 7) ai)^aa (pv 1)^aa (pv 2)^aa (pv 4) af)^ak (bq 12 lE.nd^az uC (pv 7)^az jG ai ai)^jt (bI (PW.pt^lO (bY cN (pv 5) ai)^jk^PW.pt^ia (bY iY (pv 4) ai)^f6^bY cN (az bL (pv 1) ai)^pv 2) (ao^aE^bC^aa aR^aa (pv 9) af) aL)^ak (bI (bY iY (pv 5) ai) (ao^aE^bC^aa aR^aa (pv 6)^aa (pv 8)^aa (az bh (pv 12)^az JK ai ai)^aa (pv 11) af) aL)^ak (bI (bY iY (pv 5) ai) (ao^aE^bC^aa aR^aa (pv 6)^aa (pv 8)^aa (pv 9)^aa (pv 11) af) aL)^ak (bI (bY iY (pv 5) ai) (ao^aE^bC^aa aR^aa (pv 6)^aa (br JU aR^az bh (pv 12) ai)^aa (pv 8)^aa (pv 9)^aa (pv 10)^aa (pv 11) af) aL)^ak (bI (bY iY (pv 5) ai) (ao^aE^bC^aa aR^aa (pv 9)^aa (pv 11) af) aL)^ak (bI (bY iY (pv 5) ai) (ao^aE^bC^aa aR^aa (pv 9)^aa (pv 11)^aa (aJ T.goes (B6 T) hr^aa (pv 12)^aa (pv 1)^aa (pv 2)^aa (pv 4) af) af) aL)^ak (bI (bY iY (pv 5) ai) (ao^aE^bC^aa aR^aa (pv 9)^aa (pv 11) af) aL)^ao^aE^bC^aa aR^aa (pv 11) af),?_];have Ec:(ks.map V.int).length=ks.length:=aq _;change(_:TS) (Ends.mk _ _ _ _) [_,_,_,_,_,_,_,_,_,_,_,_,_] H;k_in;lk;rename_i t1 H1 n1;have bs:=cV (a:=c / 24) (b:=4) (by decide);let#[d,hd,md]:=vg (ns:=[2,2,0,1]) (i:=c / 24 % 4) bs.1 (by change _<(4:Int);show bs.2);have sd:yZ d:=by erw[aH,g7,or_false] at md;rcases md with rfl|rfl|rfl|rfl<;>show#[by decide,by decide]
 show uB (cY.of n1.self) hd ?_;lk;show iT (λi ys H'=>aC H1 H'/\∃ls:List Int,ys=ls.map V.int/\ls.length=i/\∀k∈ls,i8 k) #[aC.refl _,[],rfl,rfl,λk h=>nomatch h] ?_ ?_
 .rintro i ys H' hi ⟨sm,ls,rfl,hl,hlb⟩;have hi:i<3:=∅;show#[bZ (by rw[aq];lia),?_];have ha':=sm _ _^n1.keep ha;lk;rename_i t2 H2 n2;have ha2:=n2.keep ha';have b3:∃g:Int,qU [V.int 1,V.int 8,V.int 64] (0+((i:Nat):Int))=some^.int g/\0<g/\g<=64:=by rcases i with _|_|_|i;show#[1,rfl,by decide,by decide];show#[8,rfl,by decide,by decide];show#[64,rfl,by decide,by decide];lia
  let#[g,hg,g0,g1]:=b3;show uB (cY.of n2.self) hg ?_;lk;rw[Ec];have bb:=cV (a:=c / 96 / g % 8) (b:=(ks.length:Int)) ∅;let#[v,hv,mv]:=vg (ns:=ks) (i:=c / 96 / g % 8 % (ks.length:Int)) bb.1 bb.2;show cL (bB.of ha2) hv ?_;show#[sm.trans n2.same,ls++[v],by rw[bG];rfl,by simp[hl],λk h=>?_];rcases aP.mp h with h|h;show hlb k h;rw[aA.mp h];show hb v mv
 rintro ys H2 ⟨s2,ls,rfl,hl,hlb⟩ l H3 n3;have hl3:ls.length=3:=∅
 match ls,hl3 with
 | [k,i,j],_ =>
 have bk:=hlb k (by simp);have bi:=hlb i (by simp);have bj:=hlb j (by simp);have s3:aC H H3:=(n1.same.trans s2).trans n3.same;replace n3:eV H2 l (.lst [.int k,.int i,.int j]) H3:=n3;lk;show#[_,p,m,y,rfl,h0,h1,λq1 hq1 GH=>?_];have bv:isVal ((c / 96 / (512*256)) % 2 ^ (48:Int).toNat):=cV (by decide);have b9:=cV (a:=c / 96 / (512*256)) (b:=9) (by decide);let#[ch,hch,Xu]:=L8 b9.1 b9.2;clear n1 s2 n3;lk;show rT (λσ' H'=>H'=H3/\σ'=[some^.int c,some^.int p,some^.int m,some^.ref a,some^.int y,some^.int (c % 24),some^.int d,some^.int (c / 96),some^.int k,some^.int i,some^.int j,some^.int q1,some^.int (c / 96 / (512*256))]/\(y<2->p+1≠m)) ?_ ?_
 .lk
  all_goals first
   | (rename_i t4 H4 n4;show q t4 H4 (.back i) (s3.trans n4.same) n4.self bi λ_ z hz=>nomatch hz)
   | show#[rfl,rfl,∅]
 rintro _ _ ⟨rfl,rfl,hyp⟩;lk
 all_goals first
  | (rename_i t4 H4 n4;show q t4 H4 (.num d k _ q1) (s3.trans n4.same) n4.self ⟨sd,bk,bv,hq1⟩ (λhy z hz=>by rw[aA.mp hz];show GH ∅ (hyp hy)))
  | (rename_i t4 H4 n4;show q t4 H4 (.copy d k i q1) (s3.trans n4.same) n4.self ⟨sd,bk,bi,hq1⟩ (λhy z hz=>by rw[aA.mp hz];show GH ∅ (hyp hy)))
  | (rename_i t4 H4 n4;show q t4 H4 (.out i q1) (s3.trans n4.same) n4.self ⟨bi,hq1⟩ (λhy z hz=>by rw[aA.mp hz];show GH ∅ (hyp hy)))
  | (rename_i t4 H4 n4;show q t4 H4 (.look i q1) (s3.trans n4.same) n4.self ⟨bi,hq1⟩ (λhy z hz=>by rw[aA.mp hz];show GH ∅ (hyp hy)))
  | (rename_i t4 H4 n4;show q t4 H4 (.mark q1) (s3.trans n4.same) n4.self hq1 (λhy z hz=>by rw[aA.mp hz];show GH ∅ (hyp hy)))
  | skip
 .show QX (by decide) hch ?_;lk;rename_i t4 H4 n4;show q t4 H4 (.op d #[#v[ch]] k i j q1) (s3.trans n4.same) n4.self #[sd,Xu,bk,bi,bj,hq1] (λhy z hz=>by rw[aA.mp hz];show GH ∅ (hyp hy))
 .show#[_,p,m,y,rfl,h0,h1,λq2 hq2 fq2=>?_];lk;rename_i t4 H4 n4;show q t4 H4 (.fork i q1 q2) (s3.trans n4.same) n4.self #[bi,hq1,hq2] λhy z hz=>by rcases aH.mp hz with rfl|hz;show GH ∅ (hyp hy);rw[aA.mp hz];show fq2 ∅ (hyp hy)
def GI(K:aF):Sp:=λvs H Q _=>∃(a:Addr)(ns:List Int)(n:Nat)(y:Int),vs=[.ref a,.int n,.int y]/\bB K H a^ns.map V.int/\ns.length<=63/\0<n/\n<=1000 /\
 ∀q H' us rs,aC H H'->H' q=some^.lst us->Rows H' us rs->rs.length=n->(∀r∈rs,Row.ok n r)->(y<2->∀(j:Nat)(r:Row),rs[j]?=some r->∀z∈r.ways,(j:Int)<z)->Q (.ref q) H'
theorem B7(T:Txt w K mg):bQ P w K mg base gj 4 T.code.f T.code.d ["_law_script", "_law_many", "_law_way"]^GI K:=by
 show T.code.F.ok yQ (λvs H Q E h=>?_) (λcdv A outer s H vs Q E hr h=>?_);let#[a,ns,n,y,rfl,_]:=h;rfl;let#[a,ns,n,y,rfl,hS,hn,h0,h1,q]:=h;show#[_,(ak (bq 3 yQ.nd^aJ T.pool (F2 T) hr^aa (pv 0)^aa ai af)^ak (bq 4 yQ.nd^aJ T.numbers (vm T) hr^aa (pv 0)^aa (pv 1) af)^ao^aE^cT (bA.cz "_law_p" ["_law_many", "_law_way", "_law_pool_here", "_law_numbers_here"] [1,2,3,4] ["_law_way", "_law_pool_here", "_law_numbers_here", "_law_many"] rfl) (dI rfl T.eK^aa (pv 1) af) (λ_ _ _ _=>dG) (λ_ _ _ _=>(aJ T.row (Qg T) hr^aa (br (gr (K:=K) rfl) (pv 4)^pv 0)^aa (pv 0)^aa (pv 1)^aa (pv 3)^aa (pv 2) af))),?_];change(_:TS) (Ends.mk _ _ _ _) [_,_,_,_,_] H;k_in;lk;show#[a,ns,8,rfl,hS,by decide,by decide,λp H1 ks s1 hp hk0 hk1 hkb=>?_];lk;show#[a,ns,n,rfl,s1.seq hS,hn,h0,h1,λc H2 cs s2 hc hcl=>?_];have hp2:=s2 _ _ hp;lk;show iT (λi ys H'=>aC H2 H'/\∃rs:List Row,Rows H' ys rs/\rs.length=i/\(∀r∈rs,r.ok n)/\(y<2->∀(j:Nat)(r:Row),rs[j]?=some r->∀z∈r.ways,(j:Int)<z)) #[aC.refl _,[],.nil,rfl,(λr h=>nomatch h),λ_ j r h=>nomatch h] ?_ ?_
 .rintro i ys H' hi ⟨sm,rs,hrs,hlen,hok,hfw⟩;have hi:i<n:=∅;show#[bZ (by rw[hrs.length];lia),?_];lk;let#[v,hv]:=sY (ns:=cs) (i:=0+((i:Nat):Int)) ∅ ∅;show cL (bB.of^sm _ _ hc) hv ?_;lk;show#[v,_,_,_,p,ks,rfl,∅,∅,∅,sm _ _ hp2,hk0,hk1,hkb,λt H3 r s3 ht hr fr=>?_];show#[sm.trans s3,rs++[r],cF (hrs.same s3) #[t,rfl,ht],by simp[hlen],λr' h=>?_,λhy j r' h=>?_];rcases aP.mp h with h|h;show hok r' h;rw[aA.mp h];show hr
  .rcases bg j rs.length with hj|hj;rw[kT hj] at h;show hfw hy j r' h
   .rw[j4 hj] at h;have:=(eX h).1;have e:j=i:=by simp at this;lia
    subst e;rw[hlen,Nat.sub_self] at h;cases h;intro z hz;have:=fr hy z hz;lia
 .rintro ys H' ⟨sm,rs,hrs,hlen,hok,hfw⟩ g H3 n3;show q g H3 ys rs (((s1.trans s2).trans sm).trans n3.same) n3.self (hrs.same n3.same) ∅ hok hfw
structure Lk (rs:List Row) (p:Nat):Prop where
 a:∀j r,j+1<rs.length->rs[j]?=some r->((j+1:Nat):Int)∈r.ways\/∃i r',i+1=j/\rs[i]?=some r'/\((j+1:Nat):Int)∈r'.ways
 b:∀j r,p<=j->j+1<rs.length->rs[j]?=some r->((j+1:Nat):Int)∈r.ways
theorem Lk.next(h:Lk rs p):Lk rs (p+1):=#[h.a,λj r hj=>h.b j r ∅]
theorem Lk.adP{f g:Row}(h:Lk rs (p+1))(h1:((p+1:Nat):Int)∈f.ways)(h2:((p+2:Nat):Int)∈f.ways):Lk ((rs.set p f).set (p+1) g) (p+2):=by
 have len:((rs.set p f).set (p+1) g).length=rs.length:=by rw[l8,l8]
 have MV:∀j,j≠p->j≠p+1->((rs.set p f).set (p+1) g)[j]?=rs[j]?:=λj a b=>by rw[qK^bz b,qK^bz a]
 have ZR:p<rs.length->((rs.set p f).set (p+1) g)[p]?=some f:=λhp=>by rw[qK ∅,List.getElem?_set_self hp]
 constructor
 .intro j r hj hr;rw[len] at hj;rcases nk j p with hlt|rfl|hgt
  .rw[MV j ∅ ∅] at hr;rcases h.a j r hj hr with h|⟨i,r',e,h3,h4⟩;show .inl h;show .inr #[i,r',e,by rw[MV i ∅ ∅];show h3,h4]
  .rw[ZR ∅] at hr;cases hr;show .inl h1
  .rcases bg (p+1) j with hg|hg;rw[MV j ∅ ∅] at hr;show .inl (h.b j r ∅ hj hr);have e:j=p+1:=∅;subst e;show .inr #[p,f,rfl,ZR ∅,h2]
 .intro j r hp hj hr;rw[len] at hj;rw[MV j ∅ ∅] at hr;show h.b j r ∅ hj hr
theorem Lk.rch(h:Lk rs p):∀j,j<rs.length->NQ rs j/\∀i,i<j->NQ rs i:=by
 intro j;induction j with
 | zero=>show λ_=>#[.zero,λi hi=>absurd hi^fZ _]
 | succ j ih =>
  intro hj;let#[r1,r2]:=ih ∅;have all:∀i,i<j+1->NQ rs i:=λi hi=>by rcases bg i j with hlt|hge;show r2 i hlt;rw[show i=j by lia];show r1
  show#[?_,all];obtain⟨r,hr⟩:∃r,rs[j]?=some r:=#[_,dJ ∅];rcases h.a j r hj hr with h|⟨i,r',e,h3,h4⟩;show .step r1 hr h;show .step (all i ∅) h3 h4
def Vd(K:aF):Sp:=λvs H Q _=>∃(c p m y:Int)(a:Addr)(ks:List Int),vs=[.int c,.int p,.int m,.ref a,.int y]/\0<=p/\p<m/\m<=1000/\H a=some^.lst^ks.map V.int/\0<ks.length/\ks.length<=1000/\(∀k∈ks,i8 k)/\∀q H' r,aC H H'->H' q=some^.tup^Row.vals r->r.ok m->r.pl->(p+1<m->p+1∈r.ways)->Q (.ref q) H'
theorem zC(T:Txt w K mg):bQ P w K mg base gj 2 T.nJ.f T.nJ.d ["_law_cell", "_law_p", "_law_many", "_law_pool_here", "_law_way"]^Vd K:=by
 show T.nJ.F.ok eE (λvs H Q E h=>?_) (λcdv A outer s H vs Q E hr h=>?_);let#[c,p,m,y,a,ks,rfl,_]:=h;rfl;let#[c,p,m,y,a,ks,rfl,h0,h1,hm,ha,hk0,hk1,hb,q]:=h;show#[_,(ak (bq 5 eE.nd^az bh (pv 0) ai)^ak (bq 6 eE.nd^az bR (pv 0) ai)^ak (mz (cT (bA.cz "_law_x" ["_law_pool_here", "_law_rest"] [3,6] ["_law_rest", "_law_pool_here"] rfl) (dI rfl T.eK^aa ai af) (λ_ _ _ _=>dG) (λ_ _ _ _=>(br (gr (K:=K) rfl) (pv 1)^az bh (az bh (az uC (pv 2)^br (pK (K:=K) rfl) (bC^aa ai^aa ai^aa ai af)^pv 0) ai)^aQ (lB (K:=K) rfl) rfl T.dY BT.dW^aa (pv 1) af)))^Kp rfl^bw (di 7 eE.nd)^bw (di 8 eE.nd)^bw (di 9 eE.nd) fE)^ak (bq 10 eE.nd^az bR (pv 6) ai)^ak (bq 11 eE.nd^aQ (uG rfl) rfl T.Rv BT.Q8^aa (az bL (pv 1) ai)^aa (az ie (pv 2) ai) af)^mK (bI (PW.pt^ia (bY cN (az bL (pv 1) ai)^pv 2)^f6^bY cN (pv 4) ai) (ao^aE^bC^aa aR^aa (pv 8) af) aL)^ak (bI (bY iY (pv 5) ai) (ao^aE^bC^aa aR^aa ai^aa (pv 7)^aa (az bh (az bR (pv 10) ai)^az JK ai ai)^aa (pv 11) af) aL)^ak (bI (bY iY (pv 5) ai) (ao^aE^bC^aa aR^aa ai^aa (pv 7)^aa (pv 8)^aa (pv 11) af) aL)^ak (bI (bY iY (pv 5) ai) (ao^aE^bC^aa aR^aa ai^aa (br JU aR^az bh (az bR (pv 10) ai) ai)^aa (pv 7)^aa (pv 8)^aa (pv 9)^aa (pv 11) af) aL)^ak (bI (bY iY (pv 5) ai) (ao^aE^bC^aa aR^aa (pv 8)^aa (pv 11) af) aL)^ak (bI (bY cN (az bh (az bR (pv 10) ai) ai) ai) (ao^aE^bC^aa aR^aa (pv 8)^aa (pv 11)^aa (az bh (az bR (pv 10) ai)^pv 2) af) aL)^ao^aE^bC^aa aR^aa (pv 8)^aa (az bh (az bR (pv 10) ai)^pv 2)^aa (pv 11) af),?_];have Ec:(ks.map V.int).length=ks.length:=aq _;change(_:TS) (Ends.mk _ _ _ _) [_,_,_,_,_,_,_,_,_,_,_,_] H;k_in;lk;show iT (λi ys H'=>aC H H'/\∃ls:List Int,ys=ls.map V.int/\ls.length=i/\∀k∈ls,i8 k) #[aC.refl _,[],rfl,rfl,λk h=>nomatch h] ?_ ?_
 .rintro i ys H' hi ⟨sm,ls,rfl,hl,hlb⟩;have hi:i<3:=∅;show#[bZ (by rw[aq];lia),?_];have ha':=sm _ _ ha;lk;rename_i t2 H2 n2;have ha2:=n2.keep ha';have b3:∃g:Int,qU [V.int 1,V.int 8,V.int 64] (0+((i:Nat):Int))=some^.int g/\0<g/\g<=64:=by rcases i with _|_|_|i;show#[1,rfl,by decide,by decide];show#[8,rfl,by decide,by decide];show#[64,rfl,by decide,by decide];lia
  let#[g,hg,g0,g1]:=b3;show uB (cY.of n2.self) hg ?_;lk;rw[Ec];have bb:=cV (a:=c / 16 / g % 8) (b:=(ks.length:Int)) ∅;let#[v,hv,mv]:=vg (ns:=ks) (i:=c / 16 / g % 8 % (ks.length:Int)) bb.1 bb.2;show cL (bB.of ha2) hv ?_;show#[sm.trans n2.same,ls++[v],by rw[bG];rfl,by simp[hl],λk h=>?_];rcases aP.mp h with h|h;show hlb k h;rw[aA.mp h];show hb v mv
 rintro ys H2 ⟨s2,ls,rfl,hl,hlb⟩ l H3 n3;have hl3:ls.length=3:=∅
 match ls,hl3 with
 | [k,i,j],_ =>
 have bk:=hlb k (by simp);have bi:=hlb i (by simp);have bj:=hlb j (by simp);have s3:aC H H3:=s2.trans n3.same;replace n3:eV H2 l (.lst [.int k,.int i,.int j]) H3:=n3;have b5:=cV (a:=c / 16 / 512 / 512) (b:=m) ∅;obtain⟨hq1,GH⟩:kM m (if m-1<p+1 then m-1 else p+1)/\(p+1<m->p+1=if m-1<p+1 then m-1 else p+1):=#[by split<;>show#[∅,∅],by split<;>lia];have bv:isVal ((c / 16 / 512 / 256) % 2 ^ (48:Int).toNat):=cV (by decide);have b9:=cV (a:=c / 16 / 512 / 256) (b:=9) (by decide);let#[ch,hch,Xu]:=L8 b9.1 b9.2;lk
 all_goals first
  | (rename_i t4 H4 n4;show q t4 H4 (.back i) (s3.trans n4.same) n4.self bi trivial (λh=>∅))
  | (rename_i t4 H4 n4;show q t4 H4 (.num 2 k _ _) (s3.trans n4.same) n4.self ⟨⟨by decide,by decide⟩,bk,bv,hq1⟩ rfl (λh=>aA.mpr^GH h))
  | (rename_i t4 H4 n4;show q t4 H4 (.copy 2 k i _) (s3.trans n4.same) n4.self ⟨⟨by decide,by decide⟩,bk,bi,hq1⟩ rfl (λh=>aA.mpr^GH h))
  | (rename_i t4 H4 n4;show q t4 H4 (.out i _) (s3.trans n4.same) n4.self ⟨bi,hq1⟩ trivial (λh=>aA.mpr^GH h))
  | (rename_i t4 H4 n4;show q t4 H4 (.fork i _ _) (s3.trans n4.same) n4.self ⟨bi,hq1,b5⟩ trivial (λh=>aH.mpr^.inl^GH h))
  | (rename_i t4 H4 n4;show q t4 H4 (.fork i _ _) (s3.trans n4.same) n4.self ⟨bi,b5,hq1⟩ trivial (λh=>cX _^aA.mpr^GH h))
  | skip
 all_goals
  show QX (by decide) hch ?_;lk;rename_i t4 H4 n4;show q t4 H4 (.op 2 #[#v[ch]] k i j _) (s3.trans n4.same) n4.self #[#[by decide,by decide],Xu,bk,bi,bj,hq1] rfl (λh=>aA.mpr^GH h)
theorem nh{α β:Type}{F:α->β->Prop}:∀{xs:List α}{ys:List β}(j:Nat){x:α}{y:β},Paired F xs ys->F x y->Paired F (xs.set j x) (ys.set j y)
 | _,_,_,_,_,.nil,_=>.nil
 | _,_,0,_,_,.cons _ t,h=>.cons h t
 | _,_,j+1,_,_,.cons a t,h=>.cons a^nh j t h
def Na(h1:r.key ≠ "fork")(h2:r.ways≠[])(q:Int):gW r.vals none^some (-1)++[V.int q]=(r.dN λ_=>q).vals/\¬(HT.dM r.vals.length 0 none=0/\HT.dM r.vals.length r.vals.length^some (-1)=r.vals.length):=by
 cases r
 case fork=>show absurd rfl h1
 case back=>show absurd rfl h2
 all_goals show#[rfl,by erw[Row.vals,Row.rest,cW,oA];decide]
def Ve{f:Int->Int}(h:r.pl):(r.dN f).pl:=by cases r<;>show h
theorem IS{l:List α}{x:α}{n:Nat}(hn:l.length=n+1)(hx:l[n]?=some x):qU l (-1)=some x:=by unfold qU Js;rw[if_neg^by decide,if_pos ∅];change l[((-1:Int)+(l.length:Int)).toNat]?=some x;rw[show((-1:Int)+(l.length:Int)).toNat=n by lia];show hx
structure YK (rs:List Row) (n p:Nat):Prop where
 len:rs.length=n
 ok:∀r∈rs,r.ok n
 pl:∀r∈rs,r.pl
 lk:Lk rs p
def Vf:Sp:=λvs H Q _=>∃(a:Addr)(c:Int)(us:List V)(rs:List Row)(n:Nat)(H0:Hp),vs=[.ref a,.int c]/\aC H0 H/\H0 a=none/\H a=some^.lst us/\Rows H us rs/\n<=1000/\0<n/\YK rs n 0 /\
 ∀us' rs' p H',aC H0 H'->H' a=some^.lst us'->Rows H' us' rs'->YK rs' n p->Q (.ref a) H'
theorem Qh(T:Txt w K mg):bQ P w K mg base gj 1 T.O7.f T.O7.d ["_law_rows", "_law_cell"] Vf:=by
 show T.O7.F.ok yR (λvs H Q E h=>?_) (λcdv A outer s H vs Q E hr h=>?_);let#[a,c,us,rs,n,H0,rfl,_]:=h;rfl;let#[a,c,us,rs,n,H0,rfl,s0,fa,ha,rows,hn,hn0,hP,q]:=h;show#[_,(ak (cP bD rfl (wJ rfl T.eK^aa ai^aa (az ie (aQ bx rfl T.dY BT.dW^aa (pv 0) af) ai) af) (di 2 yR.nd)^ak (bq 1 yR.nd^az bR (pv 1) ai)^ao^bI (PW.pt^ia (bY cN (br aZ (br bN (pv 0)^az ie (pv 2) ai) ai) aR)^ia (bY EJ (br aZ (br bN (pv 0)^pv 2) ai) aR)^f6^bY wL (az bh (pv 1) ai) ai) (ak (mz (br bN (bT^aa (bC^aa aR^aa (br aZ (br bN (pv 0)^az ie (pv 2) ai) ai)^aa (pv 2)^aa (az bL (pv 2) ai) af)^aa (bC^aa aR^aa (br aZ (br bN (pv 0)^az ie (pv 2) ai) ai)^aa (az bL (pv 2) ai)^aa (pv 2) af) af)^az bh (pv 2) ai)^yl (pv 0) (az ie (pv 2) ai) set_list)^ao^mz (az lg (cU k9 (br bN (pv 0)^pv 2) eB^dF^rQ mD ai)^bC^aa (az bh (az bR (pv 1) ai)^aQ bx rfl T.dY BT.dW^aa (pv 0) af) af)^yl (pv 0) (pv 2) set_list) aL)^ao^aE^pv 0),?_];have sr:=rows.length;have hrl:=hP.len;change(_:TS) (Ends.mk _ _ _ _) [_,_,_] H;k_in;lk;show pH (λi σ' H'=>∃c x us rs,σ'=[some^.ref a,some^.int c,x]/\aC H0 H'/\H' a=some^.lst us/\Rows H' us rs/\YK rs n (i+1)) #[c,_,us,rs,rfl,s0,ha,rows,hP.len,hP.ok,hP.pl,hP.lk.next] ?_ ?_
 .rintro i σ' H1 hi ⟨c,x,us,rs,rfl,s1,ha1,fH,h1⟩;have ain:=fH.length;have adQ:=h1.len;have hi:i+2<n:=∅;lk;have skip:YK rs n (i+1+1):=#[h1.len,h1.ok,h1.pl,h1.lk.next];obtain⟨r1,hr1⟩:∃r,rs[i]?=some r:=#[_,dJ ∅];obtain⟨r2,hr2⟩:∃r,rs[i+1]?=some r:=#[_,dJ ∅];let#[ra,hat,sH]:=nN fH hr1;let#[rb,Rq,hrb]:=nN fH hr2;have adR:=Rq;have adS:=hat;rw[show((i:Nat):Int)=1+(i:Int)-1 by lia] at hat;rw[show((i+1:Nat):Int)=1+(i:Int) by lia] at Rq;show cL (bB.of ha1) hat ?_;by_cases hk1:r1.key = "fork"
  case neg =>
   lk;show#[_,_,us,rs,rfl,s1,ha1,fH,skip]
  lk;show cL (bB.of ha1) Rq ?_;by_cases hk2:r2.key = "fork"
  case pos =>
   lk;show#[_,_,us,rs,rfl,s1,ha1,fH,skip]
  lk;rename_i hc3;obtain⟨b,x1,y1,rfl⟩:∃b x y,r1=.fork b x y:=by
   cases r1
   case fork b x y=>show#[b,x,y,rfl]
   all_goals show absurd hk1 (by erw[Row.key];decide)
  have sH:H1 ra=some^.tup [.str "fork", .int b,.int x1,.int y1]:=sH;show cL (bB.of ha1) hat ?_;lk;rename_i t1 H2 n2;show cL (bB.of^n2.keep ha1) hat ?_;have adT:=n2.keep sH;lk;rename_i t2 H3 n3 l H4 n4;have ht1:=n4.keep^n3.keep n2.self;have NO:=n4.keep n3.self;obtain⟨tn,f,htn,hf,fok,fpl,w1,w2⟩:∃(tn:Addr)(f:Row),qU [V.ref t1,V.ref t2] ((1+(i:Int)) % 2)=some (.ref tn)/\H4 tn=some (.tup f.vals)/\f.ok n/\f.pl/\((i+1:Nat):Int)∈f.ways/\((i+2:Nat):Int)∈f.ways:=by have hb:i8 b:=(h1.ok _^eY hr1).1;have o1:kM n (1+(i:Int)):=#[∅,∅];have o2:kM n (1+(i:Int)+1):=#[∅,∅];rcases(by lia:(1+(i:Int)) % 2=0\/(1+(i:Int)) % 2=1) with e|e;show#[t1,.fork b _ _,by rw[e];rfl,ht1,#[hb,o1,o2],trivial,aH.mpr (.inl ∅),cX _ (aA.mpr ∅)];show#[t2,.fork b _ _,by rw[e];rfl,NO,#[hb,o2,o1],trivial,cX _ (aA.mpr ∅),aH.mpr (.inl ∅)]
  have s4:=(n2.same.trans n3.same).trans n4.same;have Rw:=s4 _ _ ha1;have lU:=fH.same s4;show cL (bB.of n4.self) htn ?_;clear n2 n3 n4 ht1 NO adT;lk;show uD (j:=i) Rw (by rw[show 1+(i:Int)-1=i by lia,za ∅ ∅];rfl) ?_;intro H5 p5;have tt:=kP Rw p5;have jo:Rows H5 (us.set i^.ref tn)^rs.set i f:=nh i (lU.i9 tt) #[tn,rfl,tt _ _ hf];have s5:=p5.same (s1.trans s4) fa;have Jx:=p5.self;have hr5:(rs.set i f)[i+1]?=some r2:=by rw[qK ∅];show hr2
  let#[rc,hct,hrc]:=nN jo hr5;rw[show((i+1:Nat):Int)=1+(i:Int) by lia] at hct;have ZH:(us.set i^.ref tn).length=n:=by rw[l8];lia
  let#[cl,cw]:=Na hk2 (λz=>by have:=h1.lk.b (i+1) r2 ∅ ∅ hr2;rw[z] at this;show nomatch this) (c / 5 / 3 % (n:Int));have hq:=cV (a:=c / 5 / 3) (b:=(n:Int)) ∅;clear sH hrb hat Rq adS adR p5 lU Rw;lk;show cL (bB.of Jx) hct ?_;lk;show jH (cY.of hrc) cw ?_;intro t6 H6 n6;have ha6:=n6.keep Jx;lk;rename_i t7 H7 n7;rw[ZH] at n7;have hcl:(gW r2.vals none^some (-1)).length+1=(r2.dN λ_=>c / 5 / 3 % (n:Int)).vals.length/\gW r2.vals none^some (-1)≠[]:=by rw[<- cl,aO];show#[rfl,λz=>?_];rw[z] at cl;cases r2<;>cases cl
  have hvl:(r2.dN λ_=>c / 5 / 3 % (n:Int)).vals.length<=7:=by cases r2<;>show eZ rfl
  show fT (cY.of^n7.keep n6.self) (cY.of n7.self) hcl.2 (by simp) (by erw[cW,oA];lia) ?_;intro t8 H8 n8;rw[cl] at n8;have s8:=(n6.same.trans n7.same).trans n8.same;have ha8:=s8 _ _ Jx;have YL:=jo.same s8;have h8:=n8.self;clear n6 n7 n8 ha6;lk;show uD (j:=i+1) ha8 (by rw[za ∅ ∅];show congrArg some ∅) ?_;intro H9 p9;have tt9:=kP ha8 p9;lk;show#[_,_,_,(rs.set i f).set (i+1) (r2.dN λ_=>c / 5 / 3 % (n:Int)),rfl,p9.same (s5.trans s8) fa,p9.self,nh _ (YL.i9 tt9) #[t8,rfl,tt9 _ _ h8],#[by rw[l8,l8];show adQ,λr hr=>?_,λr hr=>?_,h1.lk.adP w1 w2]];rcases yf hr with hr|rfl;rcases yf hr with hr|rfl;show h1.ok r hr;show fok;show vN (h1.ok r2^eY hr2) λ_ _=>hq;rcases yf hr with hr|rfl;rcases yf hr with hr|rfl;show h1.pl r hr;show fpl;show Ve^h1.pl r2^eY hr2;show#[_,_,us,rs,rfl,s1,ha1,fH,skip]
 .rintro σ' H1 ⟨c,x,us,rs,rfl,s1,ha1,fH,h1⟩;lk;show q us rs _ H1 s1 ha1 fH h1
def Qi(K:aF):Sp:=λvs H Q _=>∃(a:Addr)(ns:List Int)(n:Nat)(m:Int),vs=[.ref a,.int n,.int m]/\bB K H a^ns.map V.int/\ns.length<=63/\0<n/\n<=1000/\0<m/\m<=1000 /\
 ∀q H' us rs,aC H H'->H' q=some^.lst us->Rows H' us rs->rs.length=n->(∀r∈rs,Row.ok n r)->(∀r∈rs,r.pl)->(∀j,j<n->NQ rs j)->Q (.ref q) H'
theorem wD(T:Txt w K mg):bQ P w K mg base gj 4 T.lF.f T.lF.d ["_law_script", "_law_many", "_law_boxes"]^Qi K:=by
 show T.lF.F.ok gu (λvs H Q E h=>?_) (λcdv A outer s H vs Q E hr h=>?_);let#[a,ns,n,y,rfl,_]:=h;rfl;let#[a,ns,n,m,rfl,hS,hn,h0,h1,hm0,hm1,q]:=h;show#[_,(ak (bq 3 gu.nd^aJ T.pool (F2 T) hr^aa (pv 0)^aa (pv 2) af)^ak (bq 4 gu.nd^aJ T.numbers (vm T) hr^aa (pv 0)^aa (pv 1) af)^ak (bq 5 gu.nd^az bh (az bR (aJ T.iV (gO T) hr^aa (pv 0)^aa ai af) ai) ai)^ak (ly (i:=6) gu.nd rfl (Or.inl rfl) (bA.cz "_law_p" ["_law_many", "_law_pool_here", "_law_numbers_here", "_law_way"] [1,3,4,5] ["_law_way", "_law_pool_here", "_law_numbers_here", "_law_many"] rfl) (dI rfl T.eK^aa (pv 1) af) (λ_ _ _ _=>dG) (λ_ _ _ _=>(aJ T.nJ (zC T) hr^aa (br (gr (K:=K) rfl) (pv 3)^pv 0)^aa (pv 0)^aa (pv 1)^aa (pv 2)^aa (pv 4) af)))^ao^aE^aJ T.O7 (Qh T) hr^aa (pv 6)^aa (br bN (pv 4)^rQ mD ai) af),?_];change(_:TS) (Ends.mk _ _ _ _) [_,_,_,_,_,_,_] H;k_in;lk;show#[a,ns,m,rfl,hS,hm0,hm1,λp H1 ks s1 hp hk0 hk1 hkb=>?_];lk;show#[a,ns,n,rfl,s1.seq hS,hn,h0,h1,λc H2 cs s2 hc hcl=>?_];have hp2:=s2 _ _ hp;lk;show#[a,ns,0,rfl,(s1.trans s2).seq hS,by decide,λy=>?_];lk;show iT (λi ys H'=>aC H2 H'/\∃rs:List Row,Rows H' ys rs/\rs.length=i/\(∀r∈rs,r.ok n)/\(∀r∈rs,r.pl)/\∀(j:Nat)(r:Row),j+1<n->rs[j]?=some r->((j+1:Nat):Int)∈r.ways) #[aC.refl _,[],.nil,rfl,(λr h=>nomatch h),(λr h=>nomatch h),λj r _ h=>nomatch h] ?_ ?_
 .rintro i ys H' hi ⟨sm,rs,hrs,hlen,hok,hpl,hlk⟩;have hi:i<n:=∅;show#[bZ (by rw[hrs.length];lia),?_];lk;let#[v,hv]:=sY (ns:=cs) (i:=0+((i:Nat):Int)) ∅ ∅;show cL (bB.of^sm _ _ hc) hv ?_;lk;show#[v,_,_,_,p,ks,rfl,∅,∅,∅,sm _ _ hp2,hk0,hk1,hkb,λt H3 r s3 ht hr hp hl=>?_];show#[sm.trans s3,rs++[r],cF (hrs.same s3) #[t,rfl,ht],by simp[hlen],λr' h=>?_,λr' h=>?_,λj r' hj h=>?_];rcases aP.mp h with h|h;show hok r' h;rw[aA.mp h];show hr;rcases aP.mp h with h|h;show hpl r' h;rw[aA.mp h];show hp
  .rcases bg j rs.length with hj'|hj';rw[kT hj'] at h;show hlk j r' hj h
   .rw[j4 hj'] at h;have:=(eX h).1;have e:j=i:=by simp at this;lia
    subst e;rw[hlen,Nat.sub_self] at h;cases h;have:=hl ∅;rw[show 0+(j:Int)+1=((j+1:Nat):Int) by lia] at this;show this
 .rintro ys H' ⟨sm,rs,hrs,hlen,hok,hpl,hlk⟩ g H3 n3;have hc3:=n3.keep^sm _ _ hc;have Ej:aC H H':=(s1.trans s2).trans sm;have hPl:YK rs n 0:=#[∅,hok,hpl,λj r hj hr=>.inl (hlk j r ∅ hr),λj r _ hj hr=>hlk j r ∅ hr];lk;show cL (bB.of hc3) (v:=.int^cs.getD (n-1) 0) (IS (n:=n-1) (by rw[aq];lia) (by rw[aW,dJ ∅,nR,dJ ∅];rfl)) ?_;lk;show#[g,_,ys,rs,n,H',rfl,n3.same,n3.1,n3.self,hrs.same n3.same,h1,h0,hPl,λus' rs' p' H4 s4 Mv lU P4=>q g H4 us' rs' (Ej.trans s4) Mv lU P4.len P4.ok P4.pl λj hj=>(P4.lk.rch j (by rw[P4.len];show hj)).1]
def Lt(rs:List Row):Prop:=fh (aM rs rs.length)^bF rs/\∀k r t,rs[k]?=some r->t∈b7 rs k->iI rs r t^bF rs ((k:Int),t)
def YM(rs:List Row):Prop:=Lt rs->∃m,b8 rs=some m
def Qj(hne:rs≠[])(hf:∀(p:Nat)(r:Row),rs[p]?=some r->∀q∈r.ways,(p:Int)<q):YM rs:=λ⟨kr,jR⟩=>by let#[F,h]:=P5 kr jR hf;let#[m,e,_]:=mV hne h;show#[m,e]
theorem Nb(h0:0<rs.length)(hok:∀r∈rs,r.ok rs.length)(hpl:∀r∈rs,r.pl)(VM:∀p,p<rs.length->NQ rs p):YM^cj rs rs.length/\cj rs rs.length≠[]:=by
 have hne:cj rs rs.length≠[]:=λz=>by have h1:=eG (rs:=rs) (p:=rs.length)^ay _;rw[z] at h1;have:=qA (rs:=rs) h0;have e:([]:List Row).length=0:=rfl;lia
 show#[λ⟨kr,jR⟩=>?_,hne];let#[F,h]:=MW hok hpl VM kr jR;let#[m,e,_]:=mV hne h;show#[m,e]
def Nc:Sp:=λvs H Q _=>∃(c:Addr)(us:List V)(rs:List Row),vs=[.ref c]/\H c=some^.lst us/\Rows H us rs/\(∀r∈rs,r.ok rs.length)/\rs.length<=200/\rs≠[]/\∀H',aC H H'->Lt rs->Q (oV^b8 rs) H'
def xX(T:Txt w K mg):bQ P w K mg base gj 7 T.delay.f T.delay.d ["code"] Nc :=
 (BR (P:=P) (w:=w) (base:=base) T).imp λvs H Q E ⟨c,us,rs,h1,h2,h3,h4,h5,h6,q⟩=>#[c,us,rs,h1,h2,h3,h4,h5,h6,λl1 l2=>#[λH' s no=>by have:=q H' s #[l1,l2];rw[rH no] at this;show this,λm H' s d=>by have:=q H' s #[l1,l2];rw[rG d] at this;show this]]
def Vg(K:aF):Sp:=λvs H Q _=>∃(a:Addr)(ns:List Int),vs=[.ref a]/\bB K H a^ns.map V.int/\ns.length<=63 /\
 ∀q H' us rs,aC H H'->H' q=some^.lst us->Rows H' us rs->zO rs 200->YM rs->Q (.ref q) H'
theorem Qk(T:Txt w K mg):bQ P w K mg base gj 8 T.O8.f T.O8.d ["_law_script"]^Vg K:=by
 show T.O8.F.ok sV (λvs H Q E h=>?_) (λcdv A outer s H vs Q E hr h=>?_);let#[a,ns,rfl,_]:=h;rfl;let#[a,ns,rfl,hS,hn,q]:=h;show#[_,(ak (bq 1 sV.nd^aJ T.mixed (qt T) hr^aa (aJ T.iV (gO T) hr^aa (pv 0)^aa ai af)^aa ai af)^ak (bI (bY wL (az bh (pv 1) ai) ai) (ao^aE^aJ T.yW (IQ T) hr^aa (aJ T.lF (wD T) hr^aa (pv 0)^aa (az bL ai^az bh (az bR (pv 1) ai) ai)^aa ai af) af) aL)^ak (bq 2 sV.nd^aJ T.code (B7 T) hr^aa (pv 0)^aa (az bL ai^az bh (az bR (pv 1) ai) ai)^aa ai af)^jt (bI (PW.pt^lO (bY yz (aJ T.delay (xX T) hr^aa (pv 2) af) j6)^jk^bY cN (az bh (az bR (pv 1) ai) ai) ai) (ao^bq 2 sV.nd^aJ T.code (B7 T) hr^aa (pv 0)^aa (az bL ai^az bh (az bR (pv 1) ai) ai)^aa (az bh (az bR (pv 1) ai) ai) af) aL)^ao^aE^pv 2),?_];change(_:TS) (Ends.mk _ _ _ _) [_,_,_] H;k_in;lk;show#[a,ns,0,rfl,hS,by decide,λc0=>?_];lk;show#[_,8,rfl,λc _ _=>?_];have b3:=cV (a:=c / 3) (b:=3) (by decide);have b6:=cV (a:=c / 3) (b:=6) (by decide);have b2:=cV (a:=c / 36) (b:=2) (by decide);lk
 .have eN:2+c / 3 % 3=((2+c / 3 % 3).toNat:Int):=∅;rw[eN];show#[a,ns,_,2,rfl,hS,hn,∅,∅,by decide,by decide,λl H1 us rs s1 hl rows hle hok hpl VM=>?_];rw[<- hle] at hok VM;lk;show#[l,us,rs,rfl,hl,rows,hok,∅,λg vs H2 s2 fg hg je=>?_];let#[hh,hne]:=Nb ∅ hok hpl VM;have:=rK rs rs.length;have:=eG (rs:=rs) (p:=rs.length)^ay _;lk;show q g H2 vs _ (s1.trans s2) hg je #[GD hok,hne,∅] hh
 .have eN:3+c / 3 % 6=((3+c / 3 % 6).toNat:Int):=∅;rw[eN];show#[a,ns,_,2,rfl,hS,hn,∅,∅,λl H1 us rs s1 hl rows hle hok _=>?_];rw[<- hle] at hok;have hne:rs≠[]:=λz=>by rw[z] at hle;have e:([]:List Row).length=0:=rfl;lia
  lk;show rT (λσ' H'=>∃l us rs,σ'=[some^.ref a,some^.int c,some^.ref l]/\aC H H'/\H' l=some^.lst us/\Rows H' us rs/\zO rs 200/\YM rs) ?_ ?_
  .lk;show#[l,us,rs,rfl,hl,rows,hok,∅,hne,λH2 s2 lt=>?_];have again:∀{Q':V->Hp->Prop}{E':XK},(∀q H' us rs,aC H H'->H' q=some^.lst us->Rows H' us rs->zO rs 200->YM rs->Q' (.ref q) H')->GI K [.ref a,.int (3+c / 3 % 6),.int (c / 36 % 2)] H2 Q' E':=λq'=>by
    rw[eN];show#[a,ns,_,_,rfl,(s1.trans s2).seq hS,hn,∅,∅,λl3 H3 Vh Sa s3 hl3 fu YN YO hf3=>?_];rw[<- YN] at YO;have YQ:Sa≠[]:=λz=>by rw[z] at YN;have e:([]:List Row).length=0:=rfl;lia
    show q' l3 H3 Vh Sa ((s1.trans s2).trans s3) hl3 fu #[YO,YQ,∅]^Qj YQ (hf3 ∅)
   cases hd:b8 rs with
   | none =>
    rw[show oV none=.dD from rfl];lk;show again λl3 H3 Vh Sa s3 hl3 fu t3 h3=>?_;lk;show#[l3,Vh,Sa,rfl,s3,hl3,fu,t3,h3]
   | some m =>
    rw[show oV^some m=.int m from rfl];lk
    .show again λl3 H3 Vh Sa s3 hl3 fu t3 h3=>?_;lk;show#[l3,Vh,Sa,rfl,s3,hl3,fu,t3,h3]
    .show#[l,us,rs,rfl,s1.trans s2,s2 _ _ hl,rows.same s2,#[hok,hne,∅],λ_=>#[m,hd]]
  .rintro _ H3 ⟨l3,Vh,Sa,rfl,s3,hl3,fu,t3,h3⟩;lk;show q l3 H3 Vh Sa s3 hl3 fu t3 h3
def Ql(K:aF):Sp:=λvs H Q _=>∃(a:Addr)(p:Int)(r:Row),vs=[.ref a,.int p]/\H a=some^.tup r.vals/\∀t H',aC H H'->H' t=some^.tup (r.dN^zy p).vals->Q (.ref t) H'
theorem Vi(p z:Int):z-(if decide (z>p)=true then 1 else 0)=zy p z:=by unfold zy;by_cases h:p<z;rw[if_pos h,if_pos^decide_eq_true h];rw[if_neg h,if_neg^by simpa using h];lia
noncomputable def Row.pre:Row->List V
 | .num d k v _=>[.str "num", .int d,.int k,.int v]|.copy d k i _=>[.str "copy", .int d,.int k,.int i]|.op d s k i j _=>[.str "op", .int d,.str s,.int k,.int i,.int j]
 | .out i _=>[.str "out", .int i]|.fork i _ _=>[.str "fork", .int i]|.look i _=>[.str "look", .int i]|.mark _=>[.str "mark"]|.back i=>[.str "back", .int i]
def Nd(r:Row):r.vals=r.pre++r.ways.map V.int:=by cases r<;>rfl
def Qm(f:Int->Int)(r:Row):(r.dN f).vals=r.pre++(r.ways.map f).map V.int:=by cases r<;>rfl
def Vj(r:Row):1<=r.pre.length/\r.pre.length<=6:=by cases r<;>show#[by simp[Row.pre],by simp[Row.pre]]
def IT(r:Row)(h:¬r.key = "back"):(-1-if decide (r.key = "fork")=true then 1 else 0:Int) = - (r.ways.length:Int)/\0<r.ways.length:=by
 cases r
 case back=>show absurd rfl h
 all_goals show#[rfl,by simp[Row.ways]]
theorem GJ{n:Nat}(h0:0<k)(h:k<=n)(d:Nat):HT.dM n d^some (-(k:Int))=n-k:=by erw[HT.dM];split;lia;lia
theorem Qn(xs ys:List V)(h:0<ys.length):gW (xs++ys) (some (-(ys.length:Int))) none=ys:=by unfold gW;rw[GJ h (by rw[aO];lia),HT.o9,aO];rw[show xs.length+ys.length-ys.length=xs.length by lia,List.drop_left,show xs.length+ys.length-xs.length=ys.length by lia,cg]
theorem Vk(xs ys:List V):gW (xs++ys) none^some (xs.length:Int)=xs:=by
 unfold gW;have e:HT.dM (xs++ys).length (xs++ys).length^some (xs.length:Int)=xs.length:=by simp[HT.dM];lia
 have e0:HT.dM (xs++ys).length 0 none=0:=rfl;rw[e,e0];simp
noncomputable def mvV(p:Int):V->V
 | .int z=>.int (zy p z)|v=>v
theorem Nf(T:Txt w K mg):bQ P w K mg base gj 1 T.moved.f T.moved.d ["_law_row_here", "_law_place"]^Ql K:=by
 show T.moved.F.ok A7 (λvs H Q E h=>?_) (λcdv A outer s H vs Q E hr h=>?_);let#[a,p,r,rfl,_]:=h;rfl;let#[a,p,r,rfl,ha,q]:=h;show#[_,(ak (bI (bY cN (br aZ (pv 0) ai) aR) (ao^aE^pv 0) aL)^ak (ly (i:=2) A7.nd rfl (Or.inl rfl) (bA.cz "_law_q" ["_law_place"] [1] ["_law_place"] rfl) (JH^cU k9 (pv 0) (dF^az ie (rQ mD ai)^cA kE rfl T.Bj BT.z7^aa (fF cN (br aZ (pv 0) ai) aR^iN _) af) eB) (λ_ _ _ _=>dG) (λ_ _ _ _=>(az ie (pv 0)^cA kE rfl T.Bj BT.z7^aa (fF wL (pv 0) (pv 1)^iN _) af)))^ao^aE^az lg (cU k9 (pv 0) eB^dF^az ie (aQ bx rfl T.dY BT.dW^aa (pv 0) af)^aQ bx rfl T.dY BT.dW^aa (pv 2) af)^cA wX rfl T.F1 BT.EY^aa (pv 2) af),?_];change(_:TS) (Ends.mk _ _ _ _) [_,_,_] H;k_in;by_cases hk:r.key = "back"
 .lk;cases r
  case back=>show q _ _ (aC.refl _) ha
  all_goals show absurd hk (by erw[Row.key];decide)
 let#[e1,hw0]:=IT r hk;have hw2:=Row.jN r;have hpr:=Vj r;have hv:=Nd r;have hwl:(r.ways.map V.int).length=r.ways.length:=aq _;have c1:=Qn r.pre (r.ways.map V.int) ∅;have c2:=Vk r.pre^r.ways.map V.int;rw[hwl] at c1;lk;rw[e1];have ha':=ha;rw[hv] at ha';show jH (cY.of ha') ?_ ?_;rw[GJ hw0 (by rw[aO];lia),aO];lia;intro t1 H1 n1;rw[c1] at n1;lk;show Tq (mvV p) (cY.of n1.self) ∅ ?_ ?_
 .intro x hx Q h;let#[z,hz,rfl]:=aD.mp hx;lk;rw[Vi];show h
 intro l2 H2 n2;rw[show(r.ways.map V.int).map^mvV p=(r.ways.map^zy p).map V.int by rw[gq,gq];rfl] at n2;have hl2:((r.ways.map^zy p).map V.int).length=r.ways.length:=by rw[aq,aq]
 have ha2:H2 a=some^.tup (r.pre++r.ways.map V.int):=n2.keep^n1.keep ha';have s01:=n1.same;clear ha n1;lk;rw[hl2,aO,hwl,show((r.pre.length+r.ways.length:Nat):Int)-(r.ways.length:Int)=(r.pre.length:Int) by lia];show jH (cY.of ha2) ?_ ?_;rw[aO,hwl];intro h;have:=h.2;rw[HT.ny] at this;lia;intro t3 H3 n3;rw[c2] at n3;lk;rename_i t4 H4 n4;show fT (cY.of^n4.keep n3.self) (cY.of n4.self) (by intro h;rw[h] at hpr;simp at hpr) (by intro h;rw[h] at hl2;simp at hl2;lia) ∅ ?_;intro t5 H5 n5;show q t5 H5 ((((s01.trans n2.same).trans n3.same).trans n4.same).trans n5.same) (by rw[n5.self,Qm])
def wF(T:Txt w K mg):bQ P w K mg base gj 1 T.lG.f T.lG.d ["_law_code_here", "_law_p"]^GF K:=by
 show T.lG.F.ok wz (λvs H Q E h=>?_) (λcdv A outer s H vs Q E hr h=>?_);let#[c,p,us,rs,r,rfl,_]:=h;rfl;let#[c,p,us,rs,r,rfl,hc,hrs,hr',q]:=h;show#[_,(ao^aE^CU (QD (fF cN (br aZ (br bN (pv 0)^pv 1) ai) aR^iN _)^um^fF cN (br aZ (br bN (pv 0)^pv 1) ai) aR^iN _)^um^fF cN (br aZ (br bN (pv 0)^pv 1)^rQ mD ai) (az bL (pv 1) ai)^iN _),?_];change(_:TS) (Ends.mk _ _ _ _) [_,_] H;have hl:=hrs.length;have hp:p<rs.length:=(eX hr').1;let#[ra,hat,sH]:=nN hrs hr';k_in;lk;show cL (bB.of hc) hat ?_;cases r
 all_goals erw[Row.vals,Row.key,Row.rest] at sH
 all_goals erw[Row.gT] at q
 all_goals lk
 all_goals show cL (bB.of hc) hat ?_
 all_goals lk
 all_goals try(show cL (bB.of hc) hat ?_;lk)
 all_goals show q _^aC.refl _
theorem vQ(T:Txt w K mg):bQ P w K mg base gj 2 T.jY.f T.jY.d ["_law_code_here", "_law_p"]^xU K:=by
 show T.jY.F.ok ve (λvs H Q E h=>?_) (λcdv A outer s H vs Q E hr h=>?_);let#[c,p,us,rs,rfl,_]:=h;rfl;let#[c,p,us,rs,rfl,hc,hrs,hl,hok,q]:=h;show#[_,(ao^aE^cT (bA.cz "_law_one" ["_law_p"] [1] ["_law_p"] rfl) (bP^az yt (cU jq (pv 0) eB^dF^pv 1)^cU jq (pv 0) (dF^az bL (pv 1) ai) eB) (λ_ _ _ _=>dG) (λ_ _ _ _=>(aJ T.moved (Nf T) hr^aa (pv 0)^aa (pv 1) af))),?_];change(_:TS) (Ends.mk _ _ _ _) [_,_] H;have sr:=hrs.length;have c1:=fP us none^some (p:Int);have c2:=fP us (some ((p:Int)+1)) none;k_in;lk;rename_i l3 H3 n3 l4 H4 n4 l5 H5 n5;have R4:aC H H5:=by walk_at "same"
 have jo:=hrs.same R4;show F4 (rs:=sJ rs rs.length none^some p++sJ rs rs.length (some (p+1)) none) (Row.dN^zy p) (bB.of n5.self) ?_ (by rw[aO];lia) ?_ ?_;have k1:=qB jo none^some (p:Int);have k2:=qB jo (some ((p:Int)+1)) none;rw[sr] at k1 k2;show Paired.app' k1 k2
 .intro r hr' ra H6 s6 sH Q h;lk;show#[ra,_,r,rfl,sH,λt H7 s7 ht=>h t H7 s7 ht]
 .intro us' p' H6 H7 s6 n7 B3;show q p' us' H6 H7 (R4.trans s6) n7 B3
def NS:HM.dX->Int
 | none=>0
 | some p=>SN.rk p
def zD(q:Int)(t:HM.dX):HM.oY (q,t)=q*10000+NS t:=by cases t<;>rfl
theorem Ng(h:Ef t):0<=NS t/\NS t<10000:=by
 cases t with
 | none=>show#[j3 _,by decide]
 | some p =>
  let#[h1,h2,h3]:=h;change 0<=p.1*1000+p.2/\p.1*1000+p.2<10000;lia
def iH(rs:List Row)(q:Int)(ts:List HM.dX):List HM.bu:=(ts.filter^NN rs q.toNat).map λt=>(q,t)
def gP(rs:List Row)(qs:List Int)(ts:List HM.dX):List HM.bu:=qs.flatMap λq=>iH rs q ts
def Nh(z:HM.bu):z∈gP rs qs ts↔z.1∈qs/\z.2∈ts/\dX.lv rs z.1.toNat z.2:=by unfold gP iH;rw[l9];constructor;rintro⟨q,hq,hz⟩;let#[t,ht,rfl]:=aD.mp hz;let#[h1,h2]:=c9.mp ht;show#[hq,h1,tD.mp h2];rintro⟨h1,h2,h3⟩;show#[z.1,h1,aD.mpr #[z.2,c9.mpr #[h2,tD.mpr h3],rfl]]
theorem Qo(hq:qs.Pairwise (· < ·))(ht:ts.Pairwise λt u=>NS t<NS u)(hok:∀t∈ts,Ef t):(gP rs qs ts).Pairwise λx y=>HM.oY x<HM.oY y:=by unfold gP;rw[List.pairwise_flatMap];show#[λq _=>?_,hq.imp λ{a b} hab x hx y hy=>?_];unfold iH;rw[jj];show(ht.filter _).imp λ{t u} h=>?_;rw[zD,zD];lia;unfold iH at hx hy;let#[t,ht1,rfl]:=aD.mp hx;let#[u,hu1,rfl]:=aD.mp hy;have b1:=Ng^hok t (c9.mp ht1).1;have b2:=Ng^hok u (c9.mp hu1).1;rw[zD,zD];lia
def IU(ns:List Int):(ns.map V.int).all kB=true:=by induction ns with|nil=>rfl|cons n ns ih=>show ih
theorem B8(x:Int):∀ns:List Int,pF (.int x)^ns.map V.int=decide (x∈ns)
 | []=>rfl
 | n::ns=>by rw[cG];change((n==x)||pF (.int x)^ns.map V.int)=_;rw[B8 x ns];by_cases e:n=x;simp[e];have e':¬x=n:=λz=>e z.symm;simp[e,e']
noncomputable def Ni(r:Row)(p:Int×Int):List (Int×Int):=(if r.gv p.1=p.2 then[] else[p])++if 0<=r.gv p.1/\p.2∈r.rd p.1 then[(p.1,r.gv p.1)] else[]
def j0{p q:Int×Int}:q∈Ni r p↔(q=p/\r.gv p.1≠p.2)\/(q=(p.1,r.gv p.1)/\0<=r.gv p.1/\p.2∈r.rd p.1):=by
 unfold Ni;rw[aP];have e1:q∈(if r.gv p.1=p.2 then[] else[p])↔(q=p/\r.gv p.1≠p.2):=by split;rename_i h;show#[(λe=>nomatch e),λe=>absurd h e.2];rename_i h;rw[aA];show#[λe=>#[e,h],λe=>e.1]
 have e2:q∈(if 0<=r.gv p.1/\p.2∈r.rd p.1 then[(p.1,r.gv p.1)] else[])↔(q=(p.1,r.gv p.1)/\0<=r.gv p.1/\p.2∈r.rd p.1):=by split;rename_i h;rw[aA];show#[λe=>#[e,h],λe=>e.1];rename_i h;show#[(λe=>nomatch e),λe=>absurd e.2 h]
 rw[e1,e2]
def Nj(r:Row)(p:Int×Int):(Ni r p).Nodup:=by unfold Ni;by_cases h1:r.gv p.1=p.2;rw[if_pos h1];split<;>simp;rw[if_neg h1];split;simp;intro e;show h1 (congrArg Prod.snd e).symm;simp
def GK(r:Row)(p:Int×Int):(Ni r p).length<=2:=by unfold Ni;rw[aO];split<;>split<;>simp
def Vl:Sp:=λvs H Q _=>∃(a:Addr)(x:V)(r:Row)(n:Int)(t:HM.dX),vs=[.ref a,x]/\H a=some^.tup r.vals/\r.ok n/\cZ H t x/\Ef t /\
 ∀(l:Addr)(xs:List V)(ts:List HM.dX)(H':Hp),aC H H'->H l=none->H' l=some^.lst xs->jb H' xs ts->ts.Pairwise (λt u=>NS t<NS u)->(∀u,u∈ts↔LeftOf r t u)->ts.length<=2->Q (.ref l) H'
theorem Qp(T:Txt w K mg):bQ P w K mg base gj 3 T.left.f T.left.d ["_law_row_here", "_law_thing"] Vl:=by
 show T.left.F.ok qb (λvs H Q E h=>?_) (λcdv A outer s H vs Q E hr h=>?_);let#[a,x,r,n,t,rfl,_]:=h;rfl;let#[a,x,r,n,t,rfl,ha,hok,hx,ht,q]:=h;show#[_,(ak (bI (bY (uE hr.units) (pv 1) aR) (ao^aE^az C9 (bT^aa aR af)^cA kE rfl T.Bj BT.z7^aa (fF f7 (br aZ (pv 0) ai) (bC^aa aR^aa aR^aa aR af)^by with_unfolding_all rfl) af) aL)^ak (mz (pv 1)^k7 rfl^bw (di 2 qb.nd)^bw (di 3 qb.nd) fE)^ak (bI (PW.pt^ia (cK fz (br aZ (pv 0) ai) (bC^aa aR^aa aR^aa aR af)^by with_unfolding_all rfl)^f6^bY cN (br aZ (pv 0) ai)^pv 3) (ao^aE^bT af) aL)^ak (bq 4 qb.nd^aJ T.given (BA T) hr^aa (pv 0)^aa (pv 2) af)^ak (bq 5 qb.nd^az C9 (bT^aa (pv 1) af)^cA kE rfl T.Bj BT.z7^aa (fF EJ (pv 4) (pv 3)^iN _) af)^ak (bI (PW.pt^ia (bY JO (pv 4) ai)^f6^cK fz (pv 3) (aJ T.read (Ge T) hr^aa (pv 0)^aa (pv 2) af)^by with_unfolding_all rfl) (ao^dR^i0 dj gA gB d9 (pv 5)^aa (bC^aa (pv 2)^aa (pv 4) af) af) aL)^ao^aE^aQ (DM rfl) rfl T.kL BT.kF^aa (pv 5) af),?_];change(_:TS) (Ends.mk _ _ _ _) [_,_,_,_,_,_] H;k_in;lk;show Fy hx ?_;cases t with
 | none =>
  change qD _ (.bl true) H;lk;rename_i l1 H1 n1 t2 H2 n2;have hl2:=n2.keep n1.self;have s2:=n1.same.trans n2.same;clear n1 n2;cases he:pF (.str r.key) [.str "mark", .str "out", .str "back"];show Af (k:=1) hl2 (by decide) (by decide) (by simp) ?_;intro l H3 n3;show q l [.str "mark"] [none] H3 (s2.trans n3.same) (s2.free n3.1) n3.self (.cons rfl .nil) (by simp) (λu=>?_) (by simp);rw[aA];show#[λe=>#[he,e],λe=>e.2];show Af (k:=0) hl2 (by decide) (by decide) (by simp) ?_;intro l H3 n3;show q l [] [] H3 (s2.trans n3.same) (s2.free n3.1) n3.self .nil (by simp) (λu=>?_) (by simp);constructor;intro e;show nomatch e;rintro⟨e,_⟩;rw[show r.ends none=true from he] at e;cases e
 | some p =>
  change qD _ (.bl false) H;let#[b,rfl,hb]:=hx;lk;rename_i t1 H1 n1;have s1:=n1.same;clear n1;have ha1:=s1 _ _ ha;have hb1:=s1 _ _ hb;have fin:r.ends^some p=false->∀(f:Addr)(vs:List V)(H5:Hp),aC H H5->H5 f=some^.lst vs->bE H5 vs^Ni r p->DK K [.ref f] H5 Q:=by
   intro he f vs H5 s5 hf hv;have hpl:=GK r p;show OO (bB.of hf) hv (Nj r p) (λx hx=>?_) ∅ ?_
   .have R8:=Bv hok p.1;let#[h1,h2,h3]:=ht;rcases j0.mp hx with⟨rfl,_⟩|⟨rfl,h4,_⟩;lia;show#[h4,by change r.gv p.1<1000;lia]
   .intro l us qs H6 n6 mF pm up;show q l us (qs.map some) H6 (s5.trans n6.same) (s5.free n6.1) n6.self ?_ (jj.mpr up) (λu=>?_) (by rw[aq,pm.length_eq];show hpl)
    .have go:∀{us:List V}{qs:List (Int×Int)},gM H5 us qs->jb H6 us^qs.map some:=by
      intro us qs h;induction h with
      | nil=>show .nil
      | cons h _ ih=>let#[c,e1,e2]:=h;show .cons #[c,e1,n6.keep e2] ih
     show go mF
    .rw[aD];constructor;rintro⟨x,hx,rfl⟩;show#[he,?_];rcases j0.mp^pm.mem_iff.mp hx with⟨rfl,h⟩|⟨rfl,h⟩;show .inl #[rfl,h];show .inr #[rfl,h];rintro⟨_,⟨rfl,h⟩|⟨rfl,h⟩⟩;show#[p,pm.mem_iff.mpr^j0.mpr^.inl #[rfl,h],rfl];show#[_,pm.mem_iff.mpr^j0.mpr^.inr #[rfl,h],rfl]
  have rest:r.ends^some p=false->nx0 [some^.ref a,some^.ref b,some^.int p.1,some^.int p.2,none,none] H1:=by
   intro he;replace fin:=fin he;show Eh _ _ ?_;clear Eh;lk;show#[a,r,p.1,rfl,ha1,λH2 s2=>?_];have ha2:=s2 _ _ ha1;have hb2:=s2 _ _ hb1;have NR:=s1.trans s2;clear s1 s2 ha1 hb1 ha hb q;lk;rename_i lb H3 n3;have hlb:=n3.self;have Iw:=n3.keep ha2;have Uq:=n3.keep hb2;have Ej:=NR.trans n3.same;clear n3 NR ha2 hb2;by_cases hg:r.gv p.1=p.2
   case' pos =>
    rw[decide_eq_true hg];show Af (k:=0) hlb (by decide) (by decide) (by simp) ?_;intro f H4 n4;have bs:∃vs,H4 f=some^.lst vs/\bE H4 vs (if r.gv p.1=p.2 then[] else[p])/\vs.length<=1:=#[[],n4.self,by rw[if_pos hg];show .nil,by simp]
   case' neg =>
    rw[decide_eq_false hg];show Af (k:=1) hlb (by decide) (by decide) (by simp) ?_;intro f H4 n4;have bs:∃vs,H4 f=some^.lst vs/\bE H4 vs (if r.gv p.1=p.2 then[] else[p])/\vs.length<=1:=#[[.ref b],n4.self,by rw[if_neg hg];show .cons #[b,rfl,n4.keep Uq] .nil,by simp]
   all_goals
    have Iu:=Ej.trans n4.same;have ff:H f=none:=Ej.free n4.1;have Rw:=n4.keep Iw;clear n4 Ej Iw hlb Uq;let#[vs,xN,hvs,hvl]:=bs;lk
    .rename_i h0;show#[a,r,p.1,rfl,Rw,λl5 H5 s5 _ ZH=>?_];have vp:=s5 _ _ xN;have M8:=bE.same s5 hvs;have R4:=Iu.trans s5;clear Iu s5 xN hvs Rw;change Wi K false (V.int p.2) (V.ref l5) H5 _;show aa7 (.inl^bB.of ZH) rfl (IU _) ?_;rw[B8];by_cases hm:p.2∈r.rd p.1
     .rw[decide_eq_true hm];change qD _ (.bl true) H5;lk;rename_i t6 H6 n6 H7 p7;have nf:∀{c:Addr}{xs:List V},H6 c=some^.tup xs->c≠f:=λe z=>by subst z;rw[n6.keep vp] at e;cases e
      show fin f _ H7 (p7.same (R4.trans n6.same) ff) p7.self ?_;unfold Ni;rw[if_pos^show 0<=r.gv p.1/\p.2∈r.rd p.1 from#[h0,hm]];show cF (cQ (λ_ _ ⟨c,e1,e2⟩=>#[c,e1,p7.keep (nf^n6.keep e2)^n6.keep e2]) M8) #[t6,rfl,p7.keep (nf n6.self) n6.self]
     .rw[decide_eq_false hm];change qD _ (.bl false) H5;lk;show fin f vs H5 R4 vp ?_;unfold Ni;rw[if_neg^show ¬(0<=r.gv p.1/\p.2∈r.rd p.1) from λh=>hm h.2,fL];show M8
    .rename_i h0;show fin f vs H4 Iu xN ?_;unfold Ni;rw[if_neg^show ¬(0<=r.gv p.1/\p.2∈r.rd p.1) from λh=>h0 h.1,fL];show hvs
  clear Eh;cases he:pF (.str r.key) [.str "look", .str "out", .str "back"];rw[if_neg^by decide,if_neg^by decide];show Ig _^rest ?_;unfold Row.ends;dsimp only;rw[he];rfl
  .rw[if_pos rfl];lk;show uB (cY.of ha1) (Gi he) ?_;lk;rename_i e l H3 n3;show q l [] [] H3 (s1.trans n3.same) (s1.free n3.1) n3.self .nil (by simp) (λu=>?_) (by simp);constructor;intro e;show nomatch e;rintro⟨e2,_⟩;unfold Row.ends at e2;dsimp only at e2;rw[he,decide_eq_true e] at e2;cases e2;rename_i e;show rest ?_;unfold Row.ends;dsimp only;rw[he,decide_eq_false e];rfl
theorem xY(rs:List Row):∀n,n<=(aM rs n).length/\(aM rs n).length<=17*n
 | 0=>#[aI _,by simp[aM]]
 | n+1=>by
  have:=xY rs n;have h:=lK rs n;rw[lM,aO,aq];have h1:1<=(b7 rs n).length:=by unfold b7;simp
  lia
def cZ.put(h:cZ H t v)(hf:H f=some^.lst xs)(p:qE H f (.lst ys) H'):cZ H' t v:=by
 cases t with
 | none=>show h
 | some p2=>let#[b,e1,e2]:=h;show#[b,e1,p.keep (by intro z;subst z;rw[hf] at e2;cases e2) e2]
theorem aS.put{k:HM.bu}(h:aS H v k)(hf:H f=some^.lst xs)(p:qE H f (.lst ys) H'):aS H' v k:=by let#[a,u,e,h1,h2]:=h;show#[a,u,e,p.keep (by intro z;subst z;rw[hf] at h1;cases h1) h1,cZ.put h2 hf p]
theorem Nk:∀l:List (Int×Int),l.length<=2->l.Nodup->(∀p∈l,0<=p.2/\p.2<1000)->∃qs:List (Int×Int),qs.Pairwise (λp q=>SN.rk p<SN.rk q)/\∀q,q∈qs↔q∈l
 | [],_,_,_=>#[[],.nil,λq=>Iff.rfl]
 | [x],_,_,_=>#[[x],by simp,λq=>Iff.rfl]
 | [x,y],_,nd,hb=>by
  rcases Int.lt_trichotomy (SN.rk x)^SN.rk y with h|h|h;show#[[x,y],by simp[h],λq=>Iff.rfl];have:=SN.K2 (hb x^by simp) (hb y^by simp) h;subst this;simp at nd;show#[[y,x],by simp[h],λq=>by simp[or_comm]]
 | _::_::_::_,h,_,_=>by simp at h
theorem Qq(hok:r.ok n)(ht:Ef t):∃ts:List HM.dX,ts.Pairwise (λt u=>NS t<NS u)/\∀u,u∈ts↔LeftOf r t u:=by
 cases t with
 | none =>
  cases he:r.ends none;show#[[none],by simp,λu=>by rw[aA];show#[λe=>#[he,e],λe=>e.2]];show#[[],.nil,λu=>#[(λe=>nomatch e),λe=>by rw[e.1] at he;cases he]]
 | some p =>
  cases he:r.ends^some p
  .let#[qs,h1,h2]:=Nk (Ni r p) (GK r p) (Nj r p) λx hx=>by have R8:=Bv hok p.1;let#[h1,h2,h3]:=ht;rcases j0.mp hx with⟨rfl,_⟩|⟨rfl,h4,_⟩;lia;show#[h4,by change r.gv p.1<1000;lia]
   show#[qs.map some,jj.mpr h1,λu=>?_];rw[aD];constructor;rintro⟨x,hx,rfl⟩;show#[he,?_];rcases j0.mp^(h2 x).mp hx with⟨rfl,h⟩|⟨rfl,h⟩;show .inl #[rfl,h];show .inr #[rfl,h];rintro⟨_,⟨rfl,h⟩|⟨rfl,h⟩⟩;show#[p,(h2 _).mpr^j0.mpr^.inl #[rfl,h],rfl];show#[_,(h2 _).mpr^j0.mpr^.inr #[rfl,h],rfl]
  .show#[[],.nil,λu=>#[(λe=>nomatch e),λe=>by rw[e.1] at he;cases he]]
def IV{q:Int}(h:qs[i]?=some q):gP rs (qs.take (i+1)) ts=gP rs (qs.take i) ts++iH rs q ts:=by unfold gP;rw[bS,h,List.flatMap_append];simp
def sC{q:Int}(h:ts[i]?=some t):iH rs q^ts.take (i+1)=iH rs q^ts.take i++if NN rs q.toNat t then[(q,t)] else[]:=by unfold iH;rw[bS,h,jh,bG];cases hl:NN rs q.toNat t<;>simp[hl]
def vR(rs:List Row)(q:Int)(ts:List HM.dX):(iH rs q ts).length<=ts.length:=by unfold iH;rw[aq];show iL _ _
theorem B9(rs:List Row)(ts:List HM.dX):∀qs:List Int,(gP rs qs ts).length<=qs.length*ts.length
 | []=>by simp[gP]
 | q::qs=>by have h:=B9 rs ts qs;have h2:=vR rs q ts;unfold gP at h ⊢;rw[qI,aO,cW,Nat.succ_mul];lia
def IW:Sp:=λvs H Q _=>∃(c av h:Addr)(us:List V)(rs:List Row)(as:List Addr)(k:Nat)(x:V)(r:Row)(t:HM.dX),vs=[.ref c,.ref av,.ref h]/\H c=some^.lst us/\Rows H us rs/\(∀r∈rs,r.ok rs.length)/\H av=some^.lst^as.map V.ref/\as.length=rs.length/\sy H as rs/\H h=some^.tup [.int k,x]/\cZ H t x/\Ef t/\rs[k]?=some r /\
 ∀(l:Addr)(vs:List V)(ks:List HM.bu)(H':Hp),aC H H'->H l=none->H' l=some^.lst vs->aU H' vs ks->iI rs r t ks->Q (.ref l) H'
theorem IY(T:Txt w K mg):bQ P w K mg base gj 4 T.behind.f T.behind.d ["_law_code_here", "_law_alive", "_law_harm"] IW:=by
 show T.behind.F.ok nH (λvs H Q E h=>?_) (λcdv A outer s H vs Q E hr h=>?_);let#[c,av,h,us,rs,as,k,x,r,t,rfl,_]:=h;rfl;let#[c,av,h,us,rs,as,k,x,r,t,rfl,hc,hrs,hok,hav,sF,hL,hh,hx,w5,hrk,q]:=h;show#[_,(ak (bq 3 nH.nd^bT af)^ak (cP bD rfl (bP^aQ (oN rfl) rfl T.kL BT.kF^aa (cA (qY rfl) rfl T.F0 BT.z8^aa (aJ T.Bh (Bx T) hr^aa (br bN (pv 0)^br aZ (pv 2) ai) af) af) af) (di 4 nH.nd)^ao^cP bD rfl (bP^aJ T.left (Qp T) hr^aa (br bN (pv 0)^br aZ (pv 2) ai)^aa (br aZ (pv 2) ai) af) (di 5 nH.nd)^ao^bI (PW.pt^lO (bY (uE hr.units) (pv 5) aR)^jk^cK (yH hr.units) (pv 5) (br bN (pv 1)^pv 4)^by with_unfolding_all rfl) (ao^dR^i0 dj gA gB d9 (pv 3)^aa (bC^aa (pv 4)^aa (pv 5) af) af) aL)^ao^aE^pv 3),?_];change(_:TS) (Ends.mk _ _ _ _) [_,_,_,_,_,_] H;let#[a,hau,ha]:=nN hrs hrk;have zj:=hok r^eY hrk;k_in;lk;rename_i f H1 n1;have ff:=n1.1;have s1:=n1.same;have hf1:=n1.self;clear n1;show cL (bB.of^s1 _ _ hc) hau ?_;lk;show#[a,r,rfl,s1 _ _ ha,λwl H2 n2=>?_];lk;show KW (bB.of n2.self) (by have:=Row.jN r;lia) ?_;intro st H3 n3;lk;show OC n3.self (λms nd hm=>?_) ?_;have:=SN.qX nd (ys:=r.ways) λn hn=>(hm n).mp hn;have:=Row.jN r;lia;intro qs so H4 up4 m4 n4;have Gj:=(n2.same.trans n3.same).trans n4.same;have Iu:=s1.trans Gj;have xN:=Gj _ _ hf1;have adU:=n4.self;have hne:so≠f:=λz=>by rw[<- z] at hf1;have:=(n2.same.trans n3.same) _ _ hf1;rw[n4.1] at this;cases this
 clear n2 n3 n4 s1 Gj hf1;lk;have hql:qs.length<=2:=by have nd:qs.Nodup:=up4.imp λh e=>∅;have:=SN.qX nd (ys:=r.ways) λn hn=>(m4 n).mp hn;have:=Row.jN r;lia
 have X3:∀q∈qs,0<=q/\q<rs.length:=λq hq=>Row.gG zj q^(m4 q).mp hq;let#[ts,hup,hmem]:=Qq zj w5;show f_list (xs:=qs.map V.int) (λi σ' H'=>(∃y z,σ'=[some^.ref c,some^.ref av,some^.ref h,some^.ref f,y,z])/\aC H H'/\H' so=some^.lst^qs.map V.int/\∃vs:List V,H' f=some^.lst vs/\aU H' vs^gP rs (qs.take i) ts) ?_ ?_ ?_ ?_;show#[#[_,_,rfl],Iu,adU,[],xN,.nil];rintro i σ' H' _ ⟨_,_,hs,_⟩;show bB.of hs
 .rintro i x0 σ' H5 Qs ⟨⟨y0,z0,rfl⟩,s5,YR,vs,vp,hvs⟩;rw[aW] at Qs;let#[q0,NH,rfl]:=cE.mp Qs;let#[hq0,hq1]:=X3 q0^eY NH;obtain⟨j,rfl⟩:∃j:Nat,q0=(j:Int):=#[q0.toNat,∅];have hil:=(eX NH).1;have hc5:=s5 _ _ hc;have hh5:=s5 _ _ hh;have Jx:=s5 _ _ ha;have hx5:=cZ.same hx s5;obtain⟨al,hal⟩:∃a,as[j]?=some a:=#[_,dJ ∅];let#[Vb,Ii,zg]:=hL j al hal;lk;show cL (bB.of hc5) hau ?_;lk;show#[a,x,r,rs.length,t,rfl,Jx,zj,hx5,w5,λlf UQ Jy H6 s6 flf hlf Ir up2 adW adX=>?_];have et:Jy=ts:=zf NS up2 hup λu=>(adW u).trans (hmem u).symm;subst et;have s06:=s5.trans s6;have hf6:=s6 _ _ vp;have adY:=s6 _ _ YR;have Qe:=aU.same hvs s6;have adZ:lf≠f:=λz=>by rw[z,vp] at flf;cases flf
  clear hc5 hh5 Jx hx5 s5 s6 vp YR hvs flf;have OW:=Ir.length;have hdl:=B9 rs Jy^qs.take i;rw[cB] at hdl;have aiB:(gP rs (qs.take i) Jy).length<=4:=bO hdl (bO (Nat.mul_le_mul (show min i qs.length<=2 by lia) adX)^by decide);lk;show f_list (xs:=UQ) (λm σ' H'=>(∃z,σ'=[some^.ref c,some^.ref av,some^.ref h,some^.ref f,some^.int (j:Int),z])/\aC H H'/\H' so=some^.lst^qs.map V.int/\H' lf=some^.lst UQ/\jb H' UQ Jy/\∃vs:List V,H' f=some^.lst vs/\aU H' vs (gP rs (qs.take i) Jy++iH rs (j:Int)^Jy.take m)) ?_ ?_ ?_ ?_;show#[#[_,rfl],s06,adY,hlf,Ir,vs,hf6,by simpa[iH] using Qe];rintro m σ' H' _ ⟨_,_,_,hl,_⟩;show bB.of hl
  .rintro m y σ' H7 hy ⟨⟨z1,rfl⟩,s7,Qt,YS,Vm,YT,HW,m9⟩;let#[u,hum,hyu]:=bf Vm hy;have hml:=(eX hy).1;have hvl:=m9.length;have ad1:=vR rs (j:Int)^Jy.take m;rw[cB] at ad1;rw[aO] at hvl;have yes:NN rs j u=true->∀(tu:Addr)(H8 H9:Hp),eV H7 tu (.tup [.int (j:Int),y]) H8->qE H8 f (.lst (YT++[.ref tu])) H9->aC H H9/\H9 so=some^.lst^qs.map V.int/\H9 lf=some^.lst UQ/\jb H9 UQ Jy/\∃vs:List V,H9 f=some^.lst vs/\aU H9 vs (gP rs (qs.take i) Jy++iH rs (j:Int)^Jy.take (m+1)):=by intro hl tu H8 H9 n8 p9;have Jv:=n8.keep HW;show#[p9.same (s7.trans n8.same) ff,p9.keep hne^n8.keep Qt,p9.keep adZ^n8.keep YS,cQ (λ_ _ x=>cZ.put (cZ.same x n8.same) Jv p9) Vm,_,p9.self,?_];rw[sC hum,show NN rs (j:Int).toNat u=true from hl,if_pos rfl,<- kR];show cF (cQ (λ_ _ x=>aS.put (aS.same x n8.same) Jv p9) m9)^aS.put #[tu,y,rfl,n8.self,cZ.same hyu n8.same] Jv p9
   have no:NN rs j u=false->aU H7 YT (gP rs (qs.take i) Jy++iH rs (j:Int)^Jy.take (m+1)):=by intro hl;rw[sC hum,show NN rs (j:Int).toNat u=false from hl,if_neg^by decide,fL];show m9
   lk;show Fy hyu ?_;cases u with
   | none =>
    change qD _ (.bl true) H7;lk;rename_i tu H8 n8 H9 p9;show#[#[_,rfl],yes rfl tu H8 H9 n8 p9]
   | some p =>
    change qD _ (.bl false) H7;let#[b,rfl,hb]:=hyu;have ad2:=s7 _ _ hav;lk;show cL (bB.of ad2) (v:=.ref al) (cR (by rw[aW,hal];rfl)) ?_;lk;show Ax hb (bB.of^s7 _ _ Ii) (bE.same s7 zg) ?_;by_cases hm:p∈ja rs j
    .rw[decide_eq_true hm];change qD _ (.bl true) H7;lk;rename_i tu H8 n8 H9 p9;show#[#[_,rfl],yes (decide_eq_true hm) tu H8 H9 n8 p9]
    .rw[decide_eq_false hm];change qD _ (.bl false) H7;lk;show#[#[_,rfl],s7,Qt,YS,Vm,YT,HW,no^decide_eq_false hm]
  .rintro σ' H7 ⟨⟨z1,rfl⟩,s7,Qt,_,_,YT,HW,m9⟩;rw[OW,cg,<- IV NH] at m9;show#[#[_,_,rfl],s7,Qt,YT,HW,m9]
 .rintro σ' H5 ⟨⟨y0,z0,rfl⟩,s5,_,vs,vp,hvs⟩;rw[aq,cg] at hvs;lk;show q f vs _ H5 s5 ff vp hvs #[Qo up4 hup λu hu=>((hmem u).mp hu |>.ok zj w5).1,λz=>?_];rw[Nh,m4,hmem];rfl
theorem Qu:∀(k:Nat)(rs:List Row)(p:Nat),zO rs m->wC n rs->rs.length-p<=k->(B4 n k rs p).length=rs.length->B4 n k rs p=rs/\∀(j:Nat)(r:Row),p<=j->rs[j]?=some r->r.gT j=true->fm (b8^dS rs (j:Int)) n=false:=by
 intro k;induction k with
 | zero =>
  intro rs p h hs hk _;show#[rfl,λj r hj hr _=>?_];have:=(eX hr).1;lia
 | succ k ih =>
  intro rs p h hs hk hl;rcases bg p rs.length with hp|hp
  .have hr:rs[p]?=some rs[p]:=dJ hp;rw[zA hr] at hl ⊢;by_cases hc:(rs[p].gT p&&fm (b8^dS rs (p:Int)) n)=true;rw[if_pos hc] at hl;have hc2:=Bool.and_eq_true_iff.mp hc;have ho:=tK (rs:=rs) (p:=p) hp;have:=(xV (n:=n) k (dS rs (p:Int)) p (h.out hr hc2.1) hc2.2).2.2;lia
   .rw[if_neg hc] at hl ⊢;let#[a,b]:=ih rs (p+1) h hs ∅ hl;show#[a,λj r hj Ry hg=>?_];rcases Nat.eq_or_lt_of_le hj with rfl|hj
    .rw[hr] at Ry;cases Ry;rw[hg,Bool.true_and] at hc;show Bool.eq_false_iff.mpr hc
    .show b j r hj Ry hg
  .rw[EA hp];show#[rfl,λj r hj Ry _=>?_];have:=(eX Ry).1;lia
theorem IZ:∀(k:Nat)(rs:List Row),zO rs m->wC n rs->rs.length<=k->∀(j:Nat)(r:Row),(iG n k rs)[j]?=some r->r.gT j=true->fm (b8^dS (iG n k rs) (j:Int)) n=false:=by
 intro k;induction k with
 | zero=>intro rs h _ hk;show absurd (uc.mpr h.ne) ∅
 | succ k ih =>
  intro rs h hs hk;let#[a,b,c]:=xV (n:=n) rs.length rs 0 h hs;have e:iG n (k+1) rs=if(dQ n rs).length<rs.length then iG n k^dQ n rs else dQ n rs:=rfl
  rw[e];by_cases hl:(dQ n rs).length<rs.length;rw[if_pos hl];show ih (dQ n rs) a b ∅;rw[if_neg hl];have c:(dQ n rs).length<=rs.length:=c;let#[e1,e2]:=Qu rs.length rs 0 h hs ∅ (show(dQ n rs).length=rs.length by lia);have e1:dQ n rs=rs:=e1;rw[e1];show λj r hr hg=>e2 j r (aI _) hr hg
theorem Nl{m:Int}(hne:rs≠[])(kr:fh (aM rs rs.length)^bF rs)(h:b8 rs=some m):1<=m/\m<=17*rs.length:=by
 have hd:iC (aM rs rs.length) (bF rs) m:=by unfold b8 at h;by_cases e:∃m,iC (aM rs rs.length) (bF rs) m;rw[dif_pos e] at h;rw[<- Option.some.inj h];show e.choose_spec;rw[dif_neg e] at h;cases h
 let#[F,hF,#[x,hx,ex],hle]:=hd;have h1:=P1 (n0:=0) kr.1 (λk hk o ho=>(kr.2.2 k hk).2 o ho) hF #[F,hF,#[x,hx,ex],hle];have h2:=Et (bF rs) (dP F 0) (aM rs rs.length).length^aM rs rs.length;have h3:=(xY rs rs.length).2;have h4:=(hF.1.fin x hx).1;lia
def xZ(K:aF)(ha:H a=some^.lst vs)(h:aU H vs ks):RD K H (.ref a)^.list^ks.map HM.oO:=.lst (bB.of ha)^aU.rds h
def jA(h:Rows H us rs)(t:BG H H'):Rows H' us rs:=cQ (λ_ _ ⟨a,e,x⟩=>#[a,e,t _ _ x]) h
def YU(rs:List Row)(way:List HM.bu):Prop:=(∀(i:Nat)(x:HM.bu),way[i]?=some x->x∈aM rs rs.length)/\∀(i:Nat)(x y:HM.bu),way[i]?=some x->way[i+1]?=some y->y∈bF rs x
def Qv:Sp:=λvs H Q _=>∃(c b:Addr)(n:Nat)(us vs':List V)(rs:List Row)(way:List HM.bu),vs=[.ref c,.ref b,.int n]/\H c=some^.lst us/\Rows H us rs/\(∀r∈rs,r.ok rs.length)/\rs.length<=200/\H b=some^.lst vs'/\aU H vs' way/\way.length=n/\0<n/\n<=4000/\Lt rs/\YU rs way/\∀H',aC H H'->Q (.bl true) H'
set_option maxHeartbeats 8000000 in
theorem I0(T:Txt w K mg):bQ P w K mg base gj 5 T.yX.f T.yX.d ["_law_code_here", "_law_way", "_law_many"] Qv:=by
 show T.yX.F.ok kJ (λvs H Q E h=>?_) (λcdv A outer s H vs Q E hr h=>?_);let#[c,b,n,us,vs',rs,way,rfl,_]:=h;rfl;let#[c,b,n,us,vs,rs,way,rfl,hc,rows,hok,hl,hb,hvs,hwl,hn0,hn,#[kr,jR],#[hin,hch],q]:=h;show#[_,(mK (bI (PW.pt^lO (qQ^k6^aQ wW rfl T.yY BT.yx^aa (pv 1)^aa (NV (v:=.ty "list") rfl T.vf BT.ux rfl) af)^jk^bY EJ (aQ bx rfl T.dY BT.dW^aa (pv 1) af)^pv 2) (ao^aE jm) aL)^ak (bq 3 kJ.nd^aJ T.qq (BC T) hr^aa (pv 0) af)^ak (mz (br bN (pv 1) ai)^k7 rfl^bw (di 4 kJ.nd)^bw (di 5 kJ.nd) fE)^mK (bI (PW.pt^lO (qQ^zT EK iY ai (pv 4)^aQ bx rfl T.dY BT.dW^aa (pv 0) af)^jk^PW.pt^ia (bY (Tj hr.units) (pv 5) aR)^f6^cK (xg hr.units) (pv 5) (br bN (pv 3)^pv 4)^by with_unfolding_all rfl) (ao^aE jm) aL)^ak (cP bD rfl (wJ rfl T.eK^aa ai^aa (pv 2) af) (di 6 kJ.nd)^ao^bI (cK (DV hr.units) (br bN (pv 1)^pv 6) (aJ T.behind (IY T) hr^aa (pv 0)^aa (pv 3)^aa (br bN (pv 1)^az ie (pv 6) ai) af)^by with_unfolding_all rfl) (ao^aE jm) aL)^ao^aE jm),?_];change(_:TS) (Ends.mk _ _ _ _) [_,_,_,_,_,_,_] H;have sr:=rows.length;have hvl:=hvs.length;k_in;lk;show#[c,us,rs,rfl,hc,rows,hok,hl,λav as H1 s1 _ hav sF hL=>?_];have hc1:=s1 _ _ hc;have fH:=rows.same s1;have hb1:=s1 _ _ hb;have Vn:=aU.same hvs s1;clear hc rows hb hvs;let#[v0,hv0,hz0]:=jc Vn (i:=0) (y:=way[0]) (dJ ∅);let#[k0,hk0,ek0,YV]:=gw.mp^hin 0 _ (dJ ∅);obtain⟨al,hal⟩:∃a,as[k0]?=some a:=#[_,dJ ∅];let#[Vb,Ii,zg]:=hL k0 al hal;lk;show cL (bB.of hb1) (v:=v0) (show qU vs ((0:Nat):Int)=some v0 from cR hv0) ?_;generalize way[0]=z0 at *;let#[ha,x0,rfl,hh0,Qs]:=hz0;rw[ek0] at hh0;lk
 .rcases ez:z0.2 with _|pr
  .rw[ez] at Qs;have Qs:x0=.str "mark" := Qs;subst Qs;show To (.str "mark") 0 (by decide) (.str _) (.str _) (.str^by decide +kernel) ?_;lk
  .rw[ez] at Qs YV;let#[pa,rfl,hpa]:=Qs;have hm:pr∈ja rs k0:=nP.mp YV;show Tv (.tuple [.int pr.1,.int pr.2]) (.str "mark") 1 (by decide) (.tup (cY.of hpa)^.cons (.int _)^.cons (.int _) .nil) (.str _) (Sh.tup λd hd=>?_) (.str^by decide +kernel) ?_;rcases aH.mp hd with rfl|hd;show .int _;rw[aA.mp hd];show .int _;change qD _ (.bl true) H1;lk;show cL (bB.of hav) (v:=.ref al) (cR (by rw[aW,hal];rfl)) ?_;lk;show Ay hpa (bB.of Ii) zg ?_;rw[decide_eq_true hm];lk
 .show pH (λi σ' H'=>(∃y6,σ'=[some^.ref c,some^.ref b,some^.int n,some^.ref av,some^.int (k0:Int),some x0,y6])/\aC H1 H') ?_ ?_ ?_;show#[#[_,rfl],aC.refl _]
  .rintro i σ' H9 hi ⟨⟨y6,rfl⟩,s9⟩;have hi1:i+1<way.length:=∅;let#[v,hv,PX]:=jc Vn (i:=i+1) (y:=way[i+1])^dJ hi1;let#[v2,hv2,ad3]:=jc Vn (i:=i) (y:=way[i]) (dJ ∅);have hcn:=hch i _ _ (dJ ∅)^dJ hi1;let#[k,hk,ek,Dk]:=gw.mp^hin i _ (dJ ∅);generalize way[i+1]=z1 at *;generalize way[i]=z2 at *;have XS:=s9 _ _ hb1;lk;show cL (bB.of XS) (v:=v) (by rw[show(1:Int)+(i:Nat)=((i+1:Nat):Int) by lia];show cR hv) ?_;lk;show cL (bB.of XS) (v:=v2) (by rw[show(1:Int)+(i:Nat)-1=((i:Nat):Int) by lia];show cR hv2) ?_;let#[ha2,x,rfl,hh,hx]:=ad3;have hvv:=PX;let#[va,vx,rfl,_,_]:=hvv;rw[ek] at hh;obtain⟨r,hrk⟩:∃r,rs[k]?=some r:=#[_,dJ hk];lk;show#[c,av,ha2,us,rs,as,k,x,r,z2.2,rfl,s9 _ _ hc1,fH.same s9,hok,s9 _ _ hav,sF,λk a e=>let⟨vs,h1,h2⟩:=hL k a e;#[vs,s9 _ _ h1,h2.same s9],s9 _ _ hh,cZ.same hx s9,rF rs k _ Dk,hrk,λdu vs6 ks zM kj _ hdu hks hla=>?_];have Eo:ks=bF rs z2:=by have:=jR k r z2.2 hrk Dk;rw[<- ek] at this;show Gv hla this
   subst Eo;show HR (aS.same PX^s9.trans kj) (bB.of hdu) hks ?_;rw[decide_eq_true hcn];lk;show#[#[_,rfl],s9.trans kj]
  .rintro σ' H9 ⟨⟨y6,rfl⟩,s9⟩;lk;show q H9^s1.trans s9
def Qw:Sp:=λvs H Q _=>∃(c pl:Addr)(n:Nat)(th:Bool)(us:List V)(rs:List Row)(ps:List Nat),vs=[.ref c,.int n,.bl th,.ref pl]/\H c=some^.lst us/\Rows H us rs/\zO rs 200/\n<=3900/\H pl=some^.lst (ps.map λp:Nat=>V.int p)/\(∀p∈ps,∃r,rs[p]?=some r/\r.gT p=true)/\(th=true->∀p∈ps,fm (b8^dS rs (p:Int)) n=false)/\vG H/\∀H',fU bK H H'->vG H'->Q (.bl true) H'
set_option maxHeartbeats 8000000 in
theorem nj(T:Txt w K mg)(hB:base.BuiltinsAt mg bK):bQ P w K mg base gj 9 T.i7.f T.i7.d ["_law_code_here", "_law_number", "_law_thinned", "_law_places_here"] Qw:=by
 show T.i7.F.ok fW (λvs H Q E h=>?_) (λcdv A outer s H vs Q E hr h=>?_);let#[c,pl,n,th,us,rs,ps,rfl,_]:=h;rfl;let#[c,pl,n,th,us,rs,ps,rfl,hc,rows,ht,hn,hpl,hps,Dk,tab,q]:=h;show#[_,(ak (cP bD rfl (bP^pv 3) (di 4 fW.nd)^ak (bq 5 fW.nd^aJ T.jY (vQ T) hr^aa (pv 0)^aa (pv 4) af)^ak (bq 6 fW.nd^aJ T.delay (rM T) hr^aa (pv 5) af)^ak (bq 7 fW.nd^aJ T.need (zB T hB) hr^aa (cA oH rfl T.vf BT.ux^aa (pv 0) af)^aa (pv 4)^aa (pv 1) af)^ao^Kg (PW.pt^ia (bY pJ (pv 6) j6)^f6^bY EK (pv 6)^pv 1) (ao^bI (PW.pt^lO (bY pJ (pv 7) j6)^jk^k6^pv 2) (ao^aE jm) aL)^ao^bI (PW.pt^lO (bY yz (pv 7) j6)^jk^qQ^k6^aJ T.yX (I0 T) hr^aa (pv 5)^aa (pv 7)^aa (az bL (pv 1) ai) af) (ao^aE jm) aL)^ao^aE jm),?_];change(_:TS) (Ends.mk _ _ _ _) [_,_,_,_,_,_,_,_] H;have hl:=ht.len;have sr:=rows.length;k_in;lk;show f_list (xs:=ps.map λp:Nat=>V.int p) (λi σ' H'=>(∃y4 y5 y6 y7,σ'=[some^.ref c,some^.int n,some^.bl th,some^.ref pl,y4,y5,y6,y7])/\fU bK H H'/\vG H') ?_ ?_ ?_ ?_;show#[#[_,_,_,_,rfl],(aC.refl _).AU,tab];rintro i σ' H' _ ⟨_,s',_⟩;show bB.of^s' _ _ (tab.ne hpl λ_ z=>nomatch z) hpl
 .rintro i x σ' H1 hx ⟨⟨y4,y5,y6,y7,rfl⟩,s1,Qx⟩;rw[aW] at hx;let#[p,hp,rfl]:=cE.mp hx;have hpm:=eY hp;let#[r,hr',hcg]:=hps p hpm;have hc1:=s1 _ _ (tab.ne hc λ_ z=>nomatch z) hc;have fH:=jA rows^fU.tups tab s1;have ho:=ht.out hr' hcg;lk;show#[c,p,us,rs,rfl,hc1,fH,∅,ht.ok,λc2 Vb H2 H3 s2 n3 fu=>?_];have zh:=s2.trans n3.same;have hc3:=n3.self;clear n3 s2;lk;show#[c2,Vb,dS rs (p:Int),rfl,hc3,fu,ho.ok,ho.len,ho.ne,λH4 s4=>?_];have Gj:=zh.trans s4;have aiG:=Gj _ _ hc1;have Vo:=fH.same Gj;have hc4:=s4 _ _ hc3;have lU:=fu.same s4;clear zh s4 hc3 fu fH;lk;rename_i cl H5 n5;have hc5:=n5.keep hc4;have jo:=lU.same n5.same;have s15:=Gj.trans n5.same;have sL:=Qx.same s15;show#[cl,p,n,us,rs,r,rfl,n5.self,Vo.same n5.same,ht,hr',hcg,hn,sL,λkr jR=>#[λhs H6 s6 Ca=>?_,λhs nl b vs H6 s6 Ca fb hb hvs=>?_]]
  .have MA:=s1.trans^s15.AU.trans s6;cases ed:b8^dS rs (p:Int) with
   | none=>rw[ed] at hs;show nomatch hs
   | some m =>
    rw[ed] at hs;have hmn:m<=(n:Int):=of_decide_eq_true hs;cases th with
    | true=>have:=Dk rfl p hpm;rw[ed] at this;rw[show fm (some m) n=true from hs] at this;show nomatch this
    | false =>
     rw[show oV^some m=.int m from rfl];lk;show E4 (λH'=>H'=H6) (λ_=>False) ?_ ?_ ?_
     .lk;rfl
     .rintro _ rfl;lk;show#[#[_,_,_,_,rfl],MA,Ca]
     .rintro _ ⟨⟩
  .have MA:=s1.trans^s15.AU.trans s6;have hc6:=s6 _ _ (sL.ne hc5 λ_ z=>nomatch z) hc5;have Cb:=jA jo^fU.tups sL s6;cases ed:b8^dS rs (p:Int) with
   | none =>
    rw[show oV none=.dD from rfl];lk;show E4 (λ_=>False) (λH'=>H'=H6) ?_ ?_ ?_
    .lk;rfl
    .rintro _ ⟨⟩
    rintro _ rfl;lk;show#[c2,b,n+1,Vb,vs,dS rs (p:Int),lV (dS rs (p:Int)) (n+1),rfl,hc6,Cb,ho.ok,ho.len,hb,hvs,nl,∅,∅,#[kr,jR],vP kr,λH7 s7=>?_];lk;show#[#[_,_,_,_,rfl],MA.trans s7.AU,Ca.same s7]
   | some m =>
    rw[ed] at hs;have hmn:¬m<=(n:Int):=of_decide_eq_false hs;rw[show oV^some m=.int m from rfl];lk;show E4 (λ_=>False) (λH'=>H'=H6) ?_ ?_ ?_
    .lk;rfl
    .rintro _ ⟨⟩
    rintro _ rfl;lk;show#[c2,b,n+1,Vb,vs,dS rs (p:Int),lV (dS rs (p:Int)) (n+1),rfl,hc6,Cb,ho.ok,ho.len,hb,hvs,nl,∅,∅,#[kr,jR],vP kr,λH7 s7=>?_];lk;show#[#[_,_,_,_,rfl],MA.trans s7.AU,Ca.same s7]
 .rintro σ' H' ⟨⟨y4,y5,y6,y7,rfl⟩,s',YW⟩;lk;show q H' s' YW
def Qy{m:Int}(h:b8 rs=some m)(hn:m<=n):wC n rs:=by unfold wC fm;rw[h];show decide_eq_true hn
def Vp(xs:List V)(k:Nat):gW xs none^some (k:Int)=xs.take k:=by unfold gW;rw[HT.o9,HT.ny];simp
def Nm(xs:List V)(k:Nat):gW xs (some (k:Int)) none=xs.drop k:=by
 unfold gW;rw[HT.o9,HT.ny];rcases Nat.le_total k xs.length with h|h
 .rw[Nat.min_eq_left h];show List.take_of_length_le (by rw[qL];show ay _)
 .rw[Nat.min_eq_right h,List.drop_length,List.drop_of_length_le h,List.take_nil]
def Plc(rs:List Row)(ps:List Nat):Prop:=∀p∈ps,∃r,rs[p]?=some r/\r.gT p=true
def Nn:Sp:=λvs H Q _=>∃(c:Addr)(us:List V)(rs:List Row),vs=[.ref c]/\H c=some^.lst us/\Rows H us rs/\rs.length<=200/\∀(l:Addr)(ps:List Nat)(H':Hp),aC H H'->H' l=some^.lst (ps.map λp:Nat=>V.int p)->ps.length<=rs.length->Plc rs ps->Q (.ref l) H'
theorem ya(T:Txt w K mg):bQ P w K mg base gj 2 T.places.f T.places.d ["_law_code_here"] Nn:=by
 show T.places.F.ok HU (λvs H Q E h=>?_) (λcdv A outer s H vs Q E hr h=>?_);let#[c,us,rs,rfl,_]:=h;rfl;let#[c,us,rs,rfl,hc,rows,hl,q]:=h;show#[_,(ao^aE^cT (bA.cz "_law_p" ["_law_code_here"] [0] ["_law_code_here"] rfl) (dI rfl T.eK^aa (aQ bx rfl T.dY BT.dW^aa (pv 0) af) af) (λ_ _ _ _=>(lu^k6^aJ T.lG (wF T) hr^aa (pv 1)^aa (pv 0) af)) (λ_ _ _ _=>(pv 0))),?_];change(_:TS) (Ends.mk _ _ _ _) [_] H;have sr:=rows.length;k_in;lk;show iT (λi ys H'=>aC H H'/\∃ps:List Nat,ys=(ps.map λp:Nat=>V.int p)/\ps.length<=i/\Plc rs ps) #[aC.refl _,[],rfl,ay _,λp h=>nomatch h] ?_ ?_
 .rintro i ys H1 hi ⟨s1,ps,rfl,hpl,hps⟩;have hi:i<rs.length:=∅;show#[bZ (by rw[aq];lia),?_];obtain⟨r,hr'⟩:∃r,rs[i]?=some r:=#[_,dJ hi];lk;show#[c,i,us,rs,r,by simp,s1 _ _ hc,rows.same s1,hr',λH2 s2=>?_];cases hcg:r.gT i with
  | true =>
   lk;show#[s1.trans s2,ps++[i],by rw[bG];simp,by rw[aO];erw[cW,oA];lia,λp hp=>?_];rcases aP.mp hp with hp|hp;show hps p hp
   .rw[aA.mp hp];show#[r,hr',hcg]
  | false =>
   lk;show#[s1.trans s2,ps,rfl,∅,hps]
 .rintro ys H1 ⟨s1,ps,rfl,hpl,hps⟩ l H2 n2;lk;show q l ps H2 (s1.trans n2.same) n2.self ∅ hps
set_option maxHeartbeats 8000000 in
theorem Vq(T:Txt w K mg)(hB:base.BuiltinsAt mg bK):bQ P w K mg base gj 12 T.law.f T.law.d ["_law_script"]^zm K:=by
 show T.law.F.ok iP (λvs H Q E h=>?_) (λcdv A outer s H vs Q E hr h=>?_);let#[#[a,ns,rfl,_],_]:=h;rfl;let#[#[a,ns,rfl,hS,hn,q],htb]:=h;show#[_,(ak (bq 1 iP.nd^aJ T.O8 (Qk T) hr^aa (pv 0) af)^ak (bq 2 iP.nd^aJ T.delay (xX T) hr^aa (pv 1) af)^ak (bq 3 iP.nd^aJ T.mixed (qt T) hr^aa (aJ T.iV (gO T) hr^aa (pv 0)^aa ai af)^aa ai af)^ak (bI (bY wL (az bh (pv 3) ai) ai) (ak (bq 4 iP.nd^az bL (pv 2)^az jG (az bh (az bR (pv 3) ai) ai)^az ie (az bh (pv 3) ai) ai)^ak (bq 5 iP.nd^aJ T.O6 (Qa T) hr^aa (pv 1)^aa (pv 4) af)^ao^aE^aJ T.i7 (nj T hB) hr^aa (pv 5)^aa (pv 4)^aa jm^aa (aJ T.places (ya T) hr^aa (pv 5) af) af) aL)^ak (bq 4 iP.nd^az bL ai^az bh (az bR (pv 3) ai)^az bL (pv 2) ai)^ak (bq 6 iP.nd^aJ T.places (ya T) hr^aa (pv 1) af)^jt (bI (bY cN (az bh (az bR (pv 3) ai) ai) ai) (ak (bq 4 iP.nd^az bL ai^az bh (az bR (pv 3) ai) ai)^ao^bq 6 iP.nd^cU jq (cU jq (pv 6) (dF^az bh (az bR (pv 3) ai)^az bL (aQ bx rfl T.dY BT.dW^aa (pv 6) af) ai) eB) eB^dF ai) aL)^ak (bI (qQ^k6^aJ T.i7 (nj T hB) hr^aa (pv 1)^aa (pv 4)^aa jm^aa (pv 6) af) (ao^aE jm) aL)^ak (cP bD rfl (bP^pv 6) (di 7 iP.nd)^ak (bq 8 iP.nd^aJ T.need (zB T hB) hr^aa (pv 1)^aa (pv 7)^aa (pv 4) af)^ao^bI (bY pJ (pv 8) j6) (ak (bq 9 iP.nd^cA oH rfl T.vf BT.ux^aa (pv 8) af)^ak (dR^C7 dj PySem.F.slot_list_clear PySem.F.type_list_clear J0^pv 8)^ao^aE^fF (uE hr.units) (aJ T.need (zB T hB) hr^aa (pv 1)^aa (pv 7)^aa (pv 4) af) (pv 9)^iN _) aL)^ao^aE jm),?_];change(_:TS) (Ends.mk _ _ _ _) [_,_,_,_,_,_,_,_,_,_] H;k_in;lk;show#[a,ns,rfl,hS,hn,λc H1 us rs s1 hc1 fH ht hh=>?_];have Qx:vG H1:=.inl^s1 _ _ htb;lk;show#[c,us,rs,rfl,hc1,fH,ht.ok,ht.len,ht.ne,λH2 s2 lt=>?_];let#[m,hm]:=hh lt;rw[hm,show oV^some m=.int m from rfl];have hc2:=s2 _ _ hc1;have je:=fH.same s2;have Vr:=Qx.same s2;have Hr:=(s1.trans s2).seq hS;have sr:=je.length;have hln:=ht.len;let#[hm1,hm2]:=Nl ht.ne lt.1 hm;clear s1 s2 hc1 fH Qx htb hS;lk;show#[a,ns,1,rfl,Hr,by decide,λc0=>?_];lk;show#[_,9,rfl,λz z0 z1=>?_];lk
 .rename_i hz;obtain⟨n,en,hn1,hn2⟩:∃n:Nat,m+z / 3 % 5*(z % 3-1)=(n:Int)/\m<=n/\n<=m+4:=by
   have h5:=Int.emod_nonneg (z / 3) (show(5:Int)≠0 by decide);have h5':=Int.emod_lt_of_pos (z / 3) (show(0:Int)<5 by decide);rcases(by lia:z % 3-1=0\/z % 3-1=1) with e|e
   .rw[e,Int.mul_zero];show#[m.toNat,∅,∅,∅]
   .rw[e,Int.mul_one];show#[(m+z / 3 % 5).toNat,∅,∅,∅]
  rw[en];have sn:=Qy hm hn1;let#[tT,snT,lT]:=P9 (n:=(n:Int)) rs.length rs ht sn;have full:=IZ (n:=(n:Int)) rs.length rs ht sn^ay _;show#[c,us,rs,n,rfl,hc2,je,ht,sn,λg vs H3 s3 _ hg fu=>?_];generalize iG (n:Int) rs.length rs=ts at *;have vH:=Vr.same s3;lk;show#[g,vs,ts,rfl,hg,fu,tT.len,λpl ps H4 s4 hpl hpn hps=>?_];lk;show#[g,pl,n,true,vs,ts,ps,rfl,s4 _ _ hg,fu.same s4,tT,∅,hpl,hps,λ_ p hp=>?_,vH.same s4,λH5 s5 sL=>?_];let#[r,hr',hcg]:=hps p hp;show full p r hr' hcg
  .lk;show q _
 .rename_i hz;show#[c,us,rs,rfl,hc2,je,hln,λpl ps H3 s3 hpl hpn hps=>?_];have hc3:=s3 _ _ hc2;have fu:=je.same s3;have vH:=Vr.same s3;clear hc2 je Vr s3 Hr;obtain⟨n0,en,hn0⟩:∃n:Nat,1+z / 3 % (m+3)=(n:Int)/\n<=m+3:=by have h5:=Int.emod_nonneg (z / 3) (show m+3≠0 by lia);have h5':=Int.emod_lt_of_pos (z / 3) (show(0:Int)<m+3 by lia);show#[(1+z / 3 % (m+3)).toNat,∅,∅]
  rw[en];lk;show rT (λσ' H'=>∃(n:Nat)(pl:Addr)(ps:List Nat),σ'=[some^.ref a,some^.ref c,some^.int m,some^.int z,some^.int n,none,some^.ref pl,none,none,none]/\aC H3 H'/\H' pl=some^.lst (ps.map λp:Nat=>V.int p)/\n<=3900/\Plc rs ps) ?_ ?_
  .lk
   .rename_i e1 pA HA nA pB HB nB;obtain⟨k,ek⟩:∃k:Nat,z / 32768 % (((ps.map λp:Nat=>V.int p).length:Int)+1)=(k:Int):=#[(z / 32768 % (((ps.map λp:Nat=>V.int p).length:Int)+1)).toNat,by rw[Int.toNat_of_nonneg (Int.emod_nonneg _ ∅)]];obtain⟨n1,en1,hn1⟩:∃n:Nat,1000+z / 32768 % 2001=(n:Int)/\n<=3900:=by have h5:=Int.emod_nonneg (z / 32768) (show(2001:Int)≠0 by decide);have h5':=Int.emod_lt_of_pos (z / 32768) (show(0:Int)<2001 by decide);show#[(1000+z / 32768 % 2001).toNat,∅,∅]
    rw[ek] at nA nB;have e:gW (gW (ps.map λp:Nat=>V.int p) (some (k:Int)) none) none^some 1=((ps.drop k).take 1).map λp:Nat=>V.int p:=by rw[Nm];show(Vp _ 1).trans ?_;rw[List.map_take,List.map_drop]
    rw[e] at nB;rw[en1];show#[n1,pB,(ps.drop k).take 1,rfl,nA.same.trans nB.same,nB.self,hn1,λp hp=>hps p^List.mem_of_mem_drop^List.mem_of_mem_take hp]
   .show#[n0,pl,ps,rfl,aC.refl _,hpl,∅,hps]
  rintro _ H4 ⟨n,pl,ps,rfl,s4,Qz,W6,YX⟩;have hc4:=s4 _ _ hc3;have lU:=fu.same s4;have Ew:=vH.same s4;clear hc3 fu vH s4 hpl hpn hps en hn0;lk;show#[c,pl,n,false,us,rs,ps,rfl,hc4,lU,ht,W6,Qz,YX,(λh=>nomatch h),Ew,λH5 s5 sL=>?_];have hc5:=s5 _ _ (Ew.ne hc4 λ_ z=>nomatch z) hc4;have YY:=s5 _ _ (Ew.ne Qz λ_ z=>nomatch z) Qz;have jo:=jA lU^fU.tups Ew s5;clear hc4 Qz lU Ew s5;lk;show f_list (xs:=ps.map λp:Nat=>V.int p) (λi σ' H'=>(∃y7 y8 y9,σ'=[some^.ref a,some^.ref c,some^.int m,some^.int z,some^.int n,none,some^.ref pl,y7,y8,y9])/\fU bK H5 H'/\vG H') ?_ ?_ ?_ ?_;show#[#[_,_,_,rfl],(aC.refl _).AU,sL];rintro i σ' H' _ ⟨_,s',_⟩;show bB.of^s' _ _ (sL.ne YY λ_ z=>nomatch z) YY
  .rintro i x σ' H6 hx ⟨⟨y7,y8,y9,rfl⟩,s6,Ca⟩;rw[aW] at hx;let#[p,hp,rfl]:=cE.mp hx;let#[r,hr',hcg]:=YX p^eY hp;have hc6:=s6 _ _ (sL.ne hc5 λ_ z=>nomatch z) hc5;have Cb:=jA jo^fU.tups sL s6;lk;show#[c,p,n,us,rs,r,rfl,hc6,Cb,ht,hr',hcg,W6,Ca,λkr jR=>#[λhs H7 s7 Vs=>?_,λhs nl b vs H7 s7 Vs fb hb hvs=>?_]]
   .lk;show#[#[_,_,_,rfl],s6.trans s7,Vs]
   .have hcb:c≠b:=λz=>by rw[z,fb] at hc6;cases hc6
    have hc7:=s7 _ _ (Ca.ne hc6 λ_ z=>nomatch z) hc6;have B3:=jA Cb^fU.tups Ca s7;lk;rename_i kp H8 n8 H9 p9;have F7:=n8.keep hb;have t9:=mU F7 p9;have hc9:=p9.keep hcb^n8.keep hc7;have YZ:=jA (B3.same n8.same) t9;have Vt:=(Vs.same n8.same).put F7 p9;have hkp:=p9.keep (bz^n8.ne hb) n8.self;have Ep:=aU.tups (aU.same hvs n8.same) t9;clear n8 p9 t9 F7;show#[c,p,n,us,rs,r,rfl,hc9,YZ,ht,hr',hcg,W6,Vt,λ_ _=>#[λhs2=>absurd (hs.symm.trans hs2)^by decide,λ_ _ b2 R5 zM kj age _ hb2 ad6=>?_]];have Y0:=kj _ _ (Vt.ne hkp λ_ z=>nomatch z) hkp;have M9:=aU.tups Ep^fU.tups Vt kj;lk;show Tn (.list^(lV (dS rs (p:Int)) (n+1)).map HM.oO) 3 (by decide) (xZ K hb2 ad6) (xZ K Y0 M9) (OP _) ?_;show q _
  .rintro σ' H' ⟨⟨y7,y8,y9,rfl⟩,s',YW⟩;lk;show q _
def zl0{n:Nat}{us:List Value}(h:us.length=n+1):∃v r,us=v::r/\r.length=n:=by cases us with | nil=>simp at h | cons v r=>show#[v,r,rfl,by simpa using h]
def Sb{us:List Value}(h:us.length=1):∃v0,us=[v0]:=by let#[v,r,rfl,k]:=zl0 h;cases r with | nil=>show#[v,rfl] | cons a b=>simp at k
def Y3{us:List Value}(h:us.length=2):∃v0 v1,us=[v0,v1]:=by let#[v,r,rfl,k]:=zl0 h;let#[v1,rfl]:=Sb k;show#[v,v1,rfl]
def Y4{us:List Value}(h:us.length=3):∃v0 v1 v2,us=[v0,v1,v2]:=by let#[v,r,rfl,k]:=zl0 h;let#[v1,v2,rfl]:=Y3 k;show#[v,v1,v2,rfl]
def Y5{us:List Value}(h:us.length=4):∃v0 v1 v2 v3,us=[v0,v1,v2,v3]:=by let#[v,r,rfl,k]:=zl0 h;let#[v1,v2,v3,rfl]:=Y4 k;show#[v,v1,v2,v3,rfl]
def Y6{us:List Value}(h:us.length=5):∃v0 v1 v2 v3 v4,us=[v0,v1,v2,v3,v4]:=by let#[v,r,rfl,k]:=zl0 h;let#[v1,v2,v3,v4,rfl]:=Y5 k;show#[v,v1,v2,v3,v4,rfl]
noncomputable def QA(X:K.In h)(G:h.Ns mainGlobals mg){zE:Addr}{Vu:Nat}{tL:Addr}{Cc:Tok}{tM:Addr}{Cd:Tok}{tN:Addr}{Ce:Tok}{tO:Addr}{Cf:Tok}{tP:Addr}{Cg:Tok}{tQ:Addr}{Ci:Tok}{tR:Addr}{Cj:Tok}{tS:Addr}{Ck:Tok}{Np:Nat}{I9:Option Addr}{Ja:Array^Option Value}{Cm:Tok}{Cn:Tok}{Co:Tok}{Cp:Tok}{Nq:Nat}{Jb:Option Addr}{Jc:Array^Option Value}{Cq:Tok}{Cr:Tok}{Cs:Tok}{Ct:Tok}{Nr:Nat}{Jd:Option Addr}{Je:Array^Option Value}{Cu:Tok}{Cv:Tok}{Cw:Tok}{Cy:Tok}{Cz:Tok}{CA:Tok}{Nt:Nat}{Jg:Option Addr}{Jh:Array^Option Value}{CB:Tok}{CC:Tok}{Nu:Nat}{Ji:Option Addr}{Jj:Array^Option Value}{CD:Tok}{CF:Tok}{CG:Tok}{Nv:Nat}{Jk:Option Addr}{Jl:Array^Option Value}{CH:Tok}{CJ:Tok}{Nx:Nat}{Jm:Option Addr}{Jo:Array^Option Value}{CK:Tok}{Ny:Nat}{Jp:Option Addr}{Jq:Array^Option Value}{CL:Tok}(zF:PySem.W.nsIn K mainGlobals "PARTS" = some^some^.ref zE)(zG:K.lookup zE=some #[.type "dict", none,.dict #v[{ hash:=PyData.keyHash w.params "num", key:=.str "num" Cc,val:=.ref tL },{ hash:=PyData.keyHash w.params "copy", key:=.str "copy" Cd,val:=.ref tM },{ hash:=PyData.keyHash w.params "op", key:=.str "op" Ce,val:=.ref tN },{ hash:=PyData.keyHash w.params "out", key:=.str "out" Cf,val:=.ref tO },{ hash:=PyData.keyHash w.params "fork", key:=.str "fork" Cg,val:=.ref tP },{ hash:=PyData.keyHash w.params "look", key:=.str "look" Ci,val:=.ref tQ },{ hash:=PyData.keyHash w.params "mark", key:=.str "mark" Cj,val:=.ref tR },{ hash:=PyData.keyHash w.params "back", key:=.str "back" Ck,val:=.ref tS }] Vu,#[]])(zH:(zE==sysModules)=false)(vS:K.lookup tL=some #[.type "tuple", I9,.seq #v[.str "side" Cm,.str "box" Cn,.str "value" Co,.str "place" Cp] Np,Ja])(vU:K.lookup tM=some #[.type "tuple", Jb,.seq #v[.str "side" Cq,.str "box" Cr,.str "box" Cs,.str "place" Ct] Nq,Jc])(vV:K.lookup tN=some #[.type "tuple", Jd,.seq #v[.str "side" Cu,.str "sign" Cv,.str "box" Cw,.str "box" Cy,.str "box" Cz,.str "place" CA] Nr,Je])(vW:K.lookup tO=some #[.type "tuple", Jg,.seq #v[.str "box" CB,.str "place" CC] Nt,Jh])(vX:K.lookup tP=some #[.type "tuple", Ji,.seq #v[.str "box" CD,.str "place" CF,.str "place" CG] Nu,Jj])(vY:K.lookup tQ=some #[.type "tuple", Jk,.seq #v[.str "box" CH,.str "place" CJ] Nv,Jl])(vZ:K.lookup tR=some #[.type "tuple", Jm,.seq #v[.str "place" CK] Nx,Jo])(v5:K.lookup tS=some #[.type "tuple", Jp,.seq #v[.str "box" CL] Ny,Jq]):FZ w K mg:={ qc:=zE,yS:=PySem.W.mg_of X G zF,qd:=tL,A8:=i6.mk' vS (.cons #[_,rfl]^.cons #[_,rfl]^.cons #[_,rfl]^.cons #[_,rfl] (.nil)) (by change(4:Nat)<=1000;decide),qe:=tM,A9:=i6.mk' vU (.cons #[_,rfl]^.cons #[_,rfl]^.cons #[_,rfl]^.cons #[_,rfl] (.nil)) (by change(4:Nat)<=1000;decide),qf:=tN,Ba:=i6.mk' vV (.cons #[_,rfl]^.cons #[_,rfl]^.cons #[_,rfl]^.cons #[_,rfl]^.cons #[_,rfl]^.cons #[_,rfl] (.nil)) (by change(6:Nat)<=1000;decide),qg:=tO,Bb:=i6.mk' vW (.cons #[_,rfl]^.cons #[_,rfl] (.nil)) (by change(2:Nat)<=1000;decide),qh:=tP,Bc:=i6.mk' vX (.cons #[_,rfl]^.cons #[_,rfl]^.cons #[_,rfl] (.nil)) (by change(3:Nat)<=1000;decide),qi:=tQ,Bd:=i6.mk' vY (.cons #[_,rfl]^.cons #[_,rfl] (.nil)) (by change(2:Nat)<=1000;decide),qj:=tR,Be:=i6.mk' vZ (.cons #[_,rfl] (.nil)) (by change(1:Nat)<=1000;decide),qk:=tS,Bf:=i6.mk' v5 (.cons #[_,rfl] (.nil)) (by change(1:Nat)<=1000;decide),yT:=Ag.mk' (es:=[("num", Cc,.ref tL),("copy", Cd,.ref tM),("op", Ce,.ref tN),("out", Cf,.ref tO),("fork", Cg,.ref tP),("look", Ci,.ref tQ),("mark", Cj,.ref tR),("back", Ck,.ref tS)]) zG zH (show(["num", "copy", "op", "out", "fork", "look", "mark", "back"]:List Str).Nodup from by decide +kernel) (.cons #[rfl,rfl]^.cons #[rfl,rfl]^.cons #[rfl,rfl]^.cons #[rfl,rfl]^.cons #[rfl,rfl]^.cons #[rfl,rfl]^.cons #[rfl,rfl]^.cons #[rfl,rfl] (.nil)) }
def Vv{l:PySem.W.OpenLaw}{fa:Addr}(T:Txt w K mg)(Uu:mg "law" = some^.ref fa):∃fd:FuncData,(∀(s:Shared)(v:Value),BindsTo s fd #[[v],[]] [("_law_script", v)])/\∀base:Heap,K.In base->base.Ns mainGlobals mg->(∀b∈[bK],base.BuiltinsAt mg b)->bQ l.prog w K mg base gj 12 fa fd ["_law_script"]^zm K:=by have e:=Uu.symm.trans T.law.m;cases e;show#[T.law.d,T.law.bind1 (λ_ _ _ _ _ _ us hl=>by let#[v0,rfl]:=Sb hl;rfl),λbase kb nb hb=>Vq T^hb _^aA.mpr rfl]
def walk{l:PySem.W.OpenLaw}{q:Program}{loose:List Str}{XP:(Str->Option Value)->Heap->Prop}{YP:World->Heap->Prop}{d:DefRec}{K:Params->aF}(hn:l.most=some 63)(hdf:d.params.defaults=[])
  (hY:∀(w:World)(h:Heap),YP w h->(K w.params).In h)(hT:∀(w:World)(h:Heap),YP w h->∀b∈[bK],h.get? b=some^PySem.W.tabObj #[])
  (hC:∀w:World,PySem.W.codeHdIn (K w.params) 176 bK=true)(hTK:∀w:World,(K w.params).lookup bK=none)
  (F:∀(w:World)(mg:Str->Option Value)(fa:Addr)(h:Heap),(K w.params).In h->h.Ns mainGlobals mg->mg d.name=some (.ref fa) ->
   ∃fd:FuncData,(∀(s:Shared)(u:Value),BindsTo s fd #[[u],[]] [("_law_script", u)])/\∀base:Heap,(K w.params).In base->base.Ns mainGlobals mg->(∀b∈[bK],base.BuiltinsAt mg b)->bQ l.prog w (K w.params) mg base gj 12 fa fd ["_law_script"]^zm^K w.params):
  PySem.W.WalkO q loose XP YP l.row.toRowW d [] (λf vs=>PySem.call f vs) :=
 L2.HN (n:=63) (k:=12) (x := "_law_script") (ts:=[bK]) (sp:=zm) hn (by decide) hdf #[rfl,by decide,by decide] hY
  (λw h Y b hb=>#[hT w h Y b hb,by obtain rfl:=aA.mp hb;show((PySem.W.codeHd_of_K (hY w h Y)^hC w).tab^hT w h Y _ hb).isCodeTable]) (λw b hb=>by obtain rfl:=aA.mp hb;show hTK w)
  F (λ_ _ a ns hl hS hT=>#[#[a,ns,rfl,hS,hl,λ_=>rfl],hT _^aA.mpr rfl])
end TG
end
open PySem PySem.W PyProof.Rows
set_option hygiene false in
local macro_rules | `(tactic| walk_at "bd") => `(tactic| (intro _ _ _ _ _ _ us hl; first | (obtain ⟨v0, rfl⟩ := TG.Sb hl; rfl) | (obtain ⟨v0, v1, rfl⟩ := TG.Y3 hl; rfl) | (obtain ⟨v0, v1, v2, rfl⟩ := TG.Y4 hl; rfl) | (obtain ⟨v0, v1, v2, v3, rfl⟩ := TG.Y5 hl; rfl) | (obtain ⟨v0, v1, v2, v3, v4, rfl⟩ := TG.Y6 hl; rfl)))
set_option hygiene false in
local macro_rules | `(tactic| walk_at "dl") => `(tactic| (refine' L2.Xl KX G ?b ?a ?l ?c ?k ?h; (case b => walk_at "bd"); (case a => k_is); (case l => k_is); (case c => k_is); (case k => k_is); (case h => kernel_rfl)))
namespace PySem.W.Fast
def tw15287838155047960312:True:=trivial
def tw16751440369170644447:True:=trivial
def tw13932314524452420723:True:=trivial
def tw17477388241053436769:True:=trivial
def tw7626554667079157242:True:=trivial
def tw12000993616152530346:True:=trivial
def tw3920917439033453153:True:=trivial
def tw6032994013179078725:True:=trivial
def tw4254836746179585179:True:=trivial
def tw6015984425523512720:True:=trivial
def tw13964836122359954488:True:=trivial
def tw14296795368675496187:True:=trivial
def tw3625093694357886623:True:=trivial
def tw8264902653024685328:True:=trivial
def tw2691197635458537302:True:=trivial
def tw10641461688618608132:True:=trivial
def tw8789432423527777141:True:=trivial
def tw15652282228265288926:True:=trivial
def tw13787152194060156716:True:=trivial
def tw6899610900037597011:True:=trivial
def tw2731811106158414215:True:=trivial
def tw6283864585408335835:True:=trivial
def tw10832360519605201405:True:=trivial
def tw15857799532826769049:True:=trivial
def tw10604371926505518090:True:=trivial
def tw7867136054185424194:True:=trivial
def tw1743679993746643529:True:=trivial
def tw5453603829148152123:True:=trivial
def tw16012797922266593771:True:=trivial
def tw15757622500263775178:True:=trivial
def tw8481690108826713666:True:=trivial
def tw4825958348977604799:True:=trivial
def tw2013639618855803799:True:=trivial
def tw4812614071258369216:True:=trivial
def tw13497861210648687186:True:=trivial
def tw562743576534241051:True:=trivial
def tw8180656494711435519:True:=trivial
def tw7363657206570517538:True:=trivial
def tw14758525629456006642:True:=trivial
def tw17989311060398552294:True:=trivial
def tw529076040301281968:True:=trivial
def tw7881300304441972828:True:=trivial
def tw17366367686709399604:True:=trivial
def tw4050256972589238290:True:=trivial
def tw13275545062315039602:True:=trivial
def tw2875967323192442698:True:=trivial
def tw3266634598708674405:True:=trivial
def tw8696577165942010398:True:=trivial
def tw10401753390976208771:True:=trivial
def tw9447798600815498121:True:=trivial
def tw4008073440969150035:True:=trivial
def tw1209289452587614815:True:=trivial
def tw728508441778761263:True:=trivial
def tw228061900888083437:True:=trivial
def tw8665529240127597583:True:=trivial
def tw2548176037323744945:True:=trivial
def tw12215433155913547879:True:=trivial
def tw3500248754102267876:True:=trivial
def tw157164092271790234:True:=trivial
def tw1391864322161577924:True:=trivial
def tw15255643236759780365:True:=trivial
def tw10204459258505544040:True:=trivial
def tw4289801457710205471:True:=trivial
def tw10682731766517782270:True:=trivial
def tw6557835085396911458:True:=trivial
def tw131771229205570099:True:=trivial
def tw4206788901339204804:True:=trivial
def tw16575269189192066264:True:=trivial
def tw5036288512766687304:True:=trivial
def tw18280857688829881258:True:=trivial
def tw14634743618926748250:True:=trivial
def tw15219442094839064079:True:=trivial
def tw4101145845676360457:True:=trivial
def tw17593383225333362599:True:=trivial
def tw7728888614088237354:True:=trivial
def tw6628495811030617501:True:=trivial
def tw3684063727100123311:True:=trivial
def tw7488958670721193227:True:=trivial
def tw10049322500596424517:True:=trivial
def tw10218324654694210385:True:=trivial
def tw9659056794201149585:True:=trivial
def tw6438860103906503340:True:=trivial
def tw15246107645291434083:True:=trivial
def tw9254774978519821473:True:=trivial
def tw7709311476001210034:True:=trivial
def tw7556608418954107139:True:=trivial
def tw3034965576744563123:True:=trivial
def tw335558358486239364:True:=trivial
def tw17211923505302448747:True:=trivial
def tw8996109407151954748:True:=trivial
def tw6518717972606980967:True:=trivial
def tw15852208436095320945:True:=trivial
def tw7637131758454194186:True:=trivial
def tw315294125887212286:True:=trivial
def tw3782999564986457817:True:=trivial
def tw13980134697444225391:True:=trivial
def tw64073803951613225:True:=trivial
def tw17736964324784750530:True:=trivial
def tw13480997581075123618:True:=trivial
def tw15232107056586499075:True:=trivial
def tw17725251442584189097:True:=trivial
def tw9511435055529728992:True:=trivial
def tw2701251033206442063:True:=trivial
def tw8503110255367996999:True:=trivial
def tw2067938277722776953:True:=trivial
def tw14780654812027816603:True:=trivial
def tw9391583897420618594:True:=trivial
def tw8749866824178023049:True:=trivial
def tw13996317920882629231:True:=trivial
def tw15689450065085947965:True:=trivial
def tw15334411081763404384:True:=trivial
def tw7497621205997655963:True:=trivial
def tw6226193699687945259:True:=trivial
def tw5995031134057322109:True:=trivial
def tw6010148207845442505:True:=trivial
def tw16640580695973212092:True:=trivial
def tw4214252842561784260:True:=trivial
def tw9523934694407859561:True:=trivial
def tw85332236743617770:True:=trivial
def tw10352541205946109279:True:=trivial
def tw5255932845062581549:True:=trivial
def tw5711417808160177970:True:=trivial
def tw9878790485832979550:True:=trivial
def tw17288978660356117939:True:=trivial
def tw4675060070617100652:True:=trivial
end PySem.W.Fast
set_option maxRecDepth 100000 in
set_option maxHeartbeats 0 in
theorem PySem.Challenge.cw_turnguard_k65_whole_needed_holds : PySem.Challenge.rw_turnguard_k65_whole_needed.Holds := by
 w_on; o_law; k_head; (case hw=>w_witness2)
 k_fill
 refine TG.walk (l:=PySem.Challenge.rw_turnguard_k65_whole_needed) rfl rfl (λ w h Y=>PySem.W.km_in_of Y) (λ w h Y=>PySem.W.km_tabs_of Y) (λ w=>by kernel_rfl) (λ w=>by kernel_rfl) ?F
 case F =>
  intro w mg fa h KX G hmg
  refine' TG.Vv (w:=w) ⟨?q0,?q1,?q2,?q3,?q4,?q5,?q6,?q7,?q8,?q9,?q10,?q11,?q12,?q13,?q14,?q15,?q16,?q17,?q18,?q19,?q20,?q21,?q22,?q23,?q24,?q25,?q26,?q27,?q28,?q29,?q30,?q31,?q32,?q33,?q34,?q35,?q36,?q37,?q38,?q39,?q40,?q41,?q42,?q43,?q44,?q45,?q46,?q47,?q48,?q49,?q50,?q51,?q52,?q53,?q54,?q55,?q56,?q57,?q58,?q59,?q60,?q61,?q62,?q63,?q64,?q65,?q66,?q67,?q68,?q69,?q70,?q71,?q72,?q73,?q74,?q75,?q76,?q77,?q78⟩ hmg
  case q0|q1|q2|q3|q4|q5|q6|q7|q8|q9|q10|q11|q12|q13|q14|q15|q16|q17|q18|q20|q21|q22|q23|q24|q25|q26|q27|q28|q29|q30|q31|q32|q33|q34|q35|q36|q37|q38|q39|q40|q41|q42|q43|q44|q45|q46|q47|q48|q49|q50|q51|q52|q53|q54|q55=>(refine' L2.Rt KX G ?b ?a ?l ?c ?k; (case b => (intro _ _ _ _ _ _ us hl; first | (obtain ⟨v0, rfl⟩ := TG.Sb hl; rfl) | (obtain ⟨v0, v1, rfl⟩ := TG.Y3 hl; rfl) | (obtain ⟨v0, v1, v2, rfl⟩ := TG.Y4 hl; rfl) | (obtain ⟨v0, v1, v2, v3, rfl⟩ := TG.Y5 hl; rfl) | (obtain ⟨v0, v1, v2, v3, v4, rfl⟩ := TG.Y6 hl; rfl))); (case a => k_is); (case l => k_is); (case c => k_is); (case k => k_is))
  case q19=>walk_at "dl"
  case q56|q57|q58|q59|q60|q61|q62|q63|q64|q65|q66|q67|q68|q69|q70|q71|q72=>(refine PySem.W.mg_none_of KX G ?_; k_is)
  case q73=>(refine' L2.Xm KX G ?a; (case a => k_is))
  case q74|q75|q76|q78=>(refine' L2.Xn KX G ?a ?l ?r ?z; (case a => k_is); (case l => k_is); (case r => (repeat (first | exact .nil | refine .cons ⟨_, rfl⟩ ?_))); (case z => exact eZ rfl))
  case q77 =>
   refine' TG.QA KX G ?zF ?zG ?zH ?vS ?vU ?vV ?vW ?vX ?vY ?vZ ?v5
   case zF|zG|vS|vU|vV|vW|vX|vY|vZ|v5=>k_is
   case zH=>rfl
end
